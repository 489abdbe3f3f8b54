/-
  THE WALKS OF tell AND whole: a part's text.
-/
import Derived.Test.YtebcdjlhmoffjaaDoorPut3
import Derived.Shelf.RegionOpen
namespace Go.Proofs.YtebcdjlhmoffjaaDoor
open Go.RowKit
set_option linter.unusedVariables false
theorem cells5 : Tryd.prog.cellsOf 5 = 1 := by kernel_rfl
set_option maxHeartbeats 2000000 in
set_option maxRecDepth 100000 in
theorem stringT {P : Nat → Prop} {t : Nat} {a0 : Value} {pa : Option Addr} {ca : Nat} {o : List UInt8} {r : Int} {tg : Bool} {l : Int} {nn : Bool} {w : World} (h : TXs P t a0 pa ca o r tg l nn w) (h0 : o ≠ []) :
    Calls Tryd.prog 36 #[.pointer (some ⟨t, 0, none⟩)] w fun e w' => e = .returned (.string (S o)) ∧ KP P w w' := by
  have hl0 : o.length ≠ 0 := by simpa using h0
  have hap := h.apart
  obtain ⟨g, cap, cur, hv, hbg, hg, hnc, hcm, hcs, htake⟩ : ∃ g cap cur, (Value.slice pa o.length ca) = .slice (some ⟨g, 0, none⟩) o.length cap ∧ 0 ≤ g ∧ w.heap[g]? = some (.cells cur 5 (0, 0)) ∧ o.length ≤ cap ∧ cap ≤ maxLen ∧ cur.size = cap * 1 ∧ cur.toList.take (o.length * 1) = o.map cl := by
    rcases h.own.2 with ⟨hv, hz⟩ | ⟨g, cap, cur, hv, r⟩
    · exact absurd hz hl0
    · exact ⟨g, cap, cur, hv, r⟩
  cases hv
  have c1 : w.drew.cell? ⟨t, 1, none⟩ = some (.slice (some ⟨g, 0, none⟩) o.length ca) := h.cells.2.1
  have hSD : (Builtin.unsafeSliceData_ #[71] 102 #[.slice (some ⟨g, 0, none⟩) o.length ca]).run Tryd.prog w.drew = .ok (.pointer (some ⟨g, 0, none⟩)) w.drew := Lib.run_unsafeSliceData_row _ _ _ _ _ _ (by omega)
  have hUS : (Builtin.unsafeString_ #[102, 3] 9 #[.pointer (some ⟨g, 0, none⟩), .int .i64 o.length]).run Tryd.prog w.drew = .ok (.string (S o)) (w.drew.freeze ⟨g, 0, none⟩ o.length) := by
    refine Lib.run_unsafeString_row w.drew 102 3 9 5 Tryd.underlying102 cells5 g cur.size (by have hg' : w.drew.heap[g]? = some (.cells cur 5 (0, 0)) := hg; simp [World.shape?, hg']) o h0 (by omega) (by have := h.room; omega) ?_
    intro j x hx
    have hadd : (⟨g, 0, none⟩ : Addr).add j = ⟨g, j, none⟩ := by unfold Addr.add; split <;> simp_all
    rw [hadd]
    exact row_cell h.own (j := j) (v := cl x) (by rw [List.getElem?_map, hx]; rfl)
  have HF : Hid (KP P w (w.drew.freeze ⟨g, 0, none⟩ o.length)) := by
    have hb := Lib.below_freeze (Below.drew (Below.refl g w)) (p := ⟨g, 0, none⟩) (Nat.le_refl g) o.length
    refine ⟨hb.os, hb.tape, hb.output, hb.size, fun b hP => ?_⟩
    have hne : b ≠ g := fun e => (hap b hP).2.2 (by rw [e]; rfl)
    show (w.drew.freeze ⟨g, 0, none⟩ o.length).heap[b]? = _
    unfold World.freeze
    rw [if_neg hl0]
    show (w.heap.modify g _)[b]? = _
    rw [Array.getElem?_modify, if_neg (Ne.symm hne)]
  clear hap h hg htake hbg hcs
  go_enter Tryd.func36, Tryd.ntmps36
  go_wp2
  go_region
  all_goals (go_wp2; go_ret; exact ⟨rfl, HF.out⟩)
/-- A new text. -/
theorem TX.born (w : World) : TX (fun b => b < w.heap.size) w.heap.size (some ([], true)) 0 (w.alloc (.cells #[.pointer none, .slice none 0 0, .int .i64 2147483647, .bool true, .int .i64 0, .bool false] 75)) :=
  ⟨.pointer none, none, 0, [], 2147483647, true, 0, false, ⟨Hold.new w _ 75, World.ownsRow_nil _ _ _ _, .inl rfl, by simp, fun b hb => ⟨by simp; omega, by omega, by simp [Value.ownBlock]⟩⟩, rfl, rfl, rfl, rfl, rfl⟩
/-- What tell answers. -/
def told : St → Value
  | some (o, _) => .tuple #[.string (S o), .bool true]
  | none => .tuple #[.string ⟨#[]⟩, .bool false]
set_option maxHeartbeats 1000000 in
set_option maxRecDepth 100000 in
theorem tellT {w : World} {x : Pt} {ty : TypeId} {y : Value} (hG : GP (fun b => b < w.heap.size) w) (hv : PV (fun b => b < w.heap.size) w x (.iface ty y)) (h0 : ∀ tg, ptA 0 x (some ([], true)) ≠ some ([], tg)) :
    Calls Tryd.prog 26 #[.int .i64 2147483647, .iface ty y] w fun e w' => e = .returned (told (ptA 0 x (some ([], true)))) ∧ Below w.heap.size w w' := by
  have hT := TX.born w
  have hB : Below w.heap.size w (w.alloc (.cells #[.pointer none, .slice none 0 0, .int .i64 2147483647, .bool true, .int .i64 0, .bool false] 75)) := (Below.refl _ w).alloc (Nat.le_refl _) _
  have hK := KP.of_below (P := fun b => b < w.heap.size) hB fun b hb => hb
  have H1 := hide (put_new (put_all (ptw x)) [x] [.iface ty y] rfl (vs_cons (PV.keep hK (fun b hb => hb) x _ hv) vs_nil) (by simp [ptsw]) (by omega) (hG.keep hK fun b hb => hb) hT (Below.refl _ _) (w.heap.size + 1) 1 (by simp) rfl (by omega))
  have HB := hide hB
  clear hT hB hK hv hG
  go_enter Tryd.func26, Tryd.ntmps26
  go_wp2_with fail
  refine H1.out.mono ?_
  rintro e' w' ⟨rfl, hT', hK'⟩
  obtain ⟨x4, d4, g4, d5, g5, hx4, htl⟩ := hT'.level
  have HK' := hide hK'
  rw [ptsA_one] at hT' d5
  have HT' := hide hT'
  generalize hst : ptA 0 x (some ([], true)) = st at *
  have HST := hide hst
  clear hst
  cases st with
  | none =>
    have d5 : w'.cell? ⟨w.heap.size, 5, none⟩ = some (.bool true) := d5
    clear hT' hK' hx4 d4 g4 g5
    go_wp2_with fail
    go_ret2
    exact ⟨by rw [HST.out]; rfl, HB.out.trans (HK'.out.below fun b hb => hb)⟩
  | some q =>
    obtain ⟨o, tg⟩ := q
    have d5 : w'.cell? ⟨w.heap.size, 5, none⟩ = some (.bool false) := d5
    obtain ⟨a0, pa, ca, o1, r, tg1, l, nn, hTs, rfl, rfl, rfl, rfl, rfl⟩ := hT'
    have HS := hide (stringT hTs (fun h => h0 tg1 (by rw [h])))
    clear hK' hx4 d4 g4 g5 hTs
    go_wp2_with fail
    refine HS.out.mono ?_
    rintro e2 w2 ⟨rfl, hK2⟩
    have HK2 := hide hK2
    clear hK2
    go_wp2_with fail
    go_ret2
    exact ⟨by rw [HST.out]; rfl, HB.out.trans ((HK'.out.trans HK2.out).below fun b hb => hb)⟩
/-- What whole answers. -/
def wholeV : St → Value
  | some (o, _) => .tuple #[.string (S o), .int .i64 0]
  | none => .tuple #[.string ⟨#[]⟩, .int .i64 40]
set_option maxHeartbeats 1000000 in
theorem whole_no {w : World} {v : Value} : Calls Tryd.prog 19 #[.bool false, v] w fun e w' => e = .returned (wholeV none) ∧ w' = w := by
  go_enter Tryd.func19, Tryd.ntmps19
  go_wp2_with fail
  go_ret2
  exact ⟨rfl, rfl⟩
set_option maxHeartbeats 1000000 in
set_option maxRecDepth 100000 in
theorem wholeT {w : World} {x : Pt} {ty : TypeId} {y : Value} (hG : GP (fun b => b < w.heap.size) w) (hv : PV (fun b => b < w.heap.size) w x (.iface ty y)) (h0 : ∀ tg, ptA 0 x (some ([], true)) ≠ some ([], tg)) :
    Calls Tryd.prog 19 #[.bool true, .iface ty y] w fun e w' => e = .returned (wholeV (ptA 0 x (some ([], true)))) ∧ Below w.heap.size w w' := by
  have HC := hide (tellT hG hv h0)
  clear hG hv h0
  generalize ptA 0 x (some ([], true)) = st at *
  cases st with
  | none =>
    go_enter Tryd.func19, Tryd.ntmps19
    go_wp2_with fail
    refine HC.out.mono ?_
    rintro e w1 ⟨rfl, hB⟩
    have HB := hide hB
    clear hB HC
    unfold told
    go_wp2_with fail
    go_ret2
    exact ⟨rfl, HB.out⟩
  | some q =>
    obtain ⟨o, tg⟩ := q
    go_enter Tryd.func19, Tryd.ntmps19
    go_wp2_with fail
    refine HC.out.mono ?_
    rintro e w1 ⟨rfl, hB⟩
    have HB := hide hB
    clear hB HC
    unfold told
    go_wp2_with fail
    go_ret2
    exact ⟨rfl, HB.out⟩
end Go.Proofs.YtebcdjlhmoffjaaDoor
