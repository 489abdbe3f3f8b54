/-
  THE WALKS OF between AND block: a row's parts with the sign between them.
-/
import Derived.Test.YtebcdjlhmoffjaaDoorLists
namespace Go.Proofs.YtebcdjlhmoffjaaDoor
open Go.RowKit
set_option linter.unusedVariables false
/-- Values, with one between any two. -/
def btw (s : Value) : List Value → List Value
  | [] => []
  | v :: r => v :: r.flatMap fun u => [s, u]
theorem btw_snoc (s : Value) (l : List Value) (v : Value) : btw s (l ++ [v]) = if l = [] then [v] else btw s l ++ [s, v] := by
  cases l with
  | nil => rfl
  | cons a r => simp [btw]
theorem btw_len (s : Value) (l : List Value) : (btw s l).length ≤ 2 * l.length := by
  cases l with
  | nil => simp [btw]
  | cons a r =>
    have : (r.flatMap fun u => [s, u]).length = 2 * r.length := by
      induction r with
      | nil => rfl
      | cons b r ih => simp only [List.flatMap_cons, List.length_append, ih, List.length_cons, List.length_nil]; omega
    simp only [btw, List.length_cons, this]; omega
/-- Values from p on. -/
def VM (w : World) (p : Option Addr) (vs : List Value) : Prop := vs = [] ∨ ∃ b o, p = some ⟨b, o, none⟩ ∧ b < w.heap.size ∧ ∀ i v, vs[i]? = some v → w.cell? ⟨b, o + i, none⟩ = some v
theorem cell_two (w : World) (o : Obj) (x : Value) (t : TypeId) : ∀ j u, [x][j]? = some u → ((w.alloc o).alloc (.cells #[x] t)).cell? ((⟨w.heap.size + 1, 0, none⟩ : Addr).add j) = some u := cell_one_new2 w o x t
set_option maxRecDepth 100000 in
set_option maxHeartbeats 1000000 in
theorem between_any {p : Option Addr} {c : Nat} {vs : List Value} {w : World} (s : List UInt8) (hn : vs.length ≤ 2000000) (hM : VM w p vs) (h1 : ∀ v ∈ vs, ∃ t x, v = .iface t x) :
    Calls Tryd.prog 55 #[.agg #[.string (S s), .slice p vs.length c]] w fun e w' => ∃ p' c', e = .returned (.slice p' (btw (.iface 9 (.string (S s))) vs).length c') ∧ w'.ownsRow w.heap.size 20 1 (.slice p' (btw (.iface 9 (.string (S s))) vs).length c') (btw (.iface 9 (.string (S s))) vs).length (btw (.iface 9 (.string (S s))) vs) ∧ Below w.heap.size w w' := by
  obtain ⟨i0, hi, hz0, hz1, hz2⟩ := info_parts info20
  generalize hm : vs.length = m at *
  generalize S s = sb at *
  have HM := hide hM
  have H1 := hide h1
  clear hM h1
  have hW : Hold w.heap.size #[.string sb, .slice p m c] 92 (w.alloc (.cells #[.string sb, .slice p m c] 92)) := Hold.new w _ 92
  have c0 := hW.cell 0
  have c1 := hW.cell 1
  simp only [List.getElem?_toArray, List.getElem?_cons_succ, List.getElem?_cons_zero] at c0 c1
  go_enter Tryd.func55, Tryd.ntmps55
  go_wp2_with fail
  generalize hsv : Value.iface 9 (.string sb) = sv at *
  have HSV := hide hsv
  clear hsv
  go_loopg [3, 9] m (fun k s3 s9 wr => ∃ (i : Nat) (p' : Option Addr) (c' : Nat), i ≤ m ∧ k = m - i ∧ s9 = .int .i64 i ∧ s3 = .slice p' (btw sv (vs.take i)).length c' ∧ wr.ownsRow (w.heap.size + 1) 20 1 (.slice p' (btw sv (vs.take i)).length c') (btw sv (vs.take i)).length (btw sv (vs.take i)) ∧ Below (w.heap.size + 1) (w.alloc (.cells #[.string sb, .slice p m c] 92)) wr)
  case atStart => exact ⟨0, none, 0, Nat.zero_le _, by omega, rfl, rfl, World.ownsRow_nil _ _ _ _, Below.refl _ _⟩
  case round =>
    obtain ⟨i, p', c', hi1, rfl, rfl, rfl, hown, hB⟩ := hrel
    have hBs : w.heap.size + 1 ≤ wr.heap.size := by have := hB.size; simpa using this
    have d0 : wr.cell? ⟨w.heap.size, 0, none⟩ = some (.string sb) := (hB.cell (p := ⟨w.heap.size, 0, none⟩) (Nat.lt_succ_self _)).trans c0
    have HB := hide hB
    have hln := btw_len sv (vs.take i)
    rw [List.length_take, Nat.min_eq_left (by omega)] at hln
    by_cases hlt : i < m
    · have hil : i < vs.length := by omega
      rcases HM.out with he | ⟨ba, oa, rfl, hba, hma⟩
      · rw [he] at hil; simp at hil
      have a1 : wr.cell? ⟨ba, oa + i, none⟩ = some vs[i] := (hB.cell (p := ⟨ba, oa + i, none⟩) (Nat.lt_succ_of_lt hba)).trans (((Below.refl _ w).alloc (Nat.le_refl _) _).cell (p := ⟨ba, oa + i, none⟩) hba |>.trans (hma i vs[i] (by simp)))
      obtain ⟨ti, xi, hvi⟩ := H1.out vs[i] (by simp)
      have htk : vs.take (i + 1) = vs.take i ++ [vs[i]] := List.take_succ_eq_append_getElem hil
      have hbt := btw_snoc sv (vs.take i) vs[i]
      rw [← htk] at hbt
      rw [hvi] at a1 hbt
      by_cases hi0 : i = 0
      · subst hi0
        rw [if_pos (by rfl)] at hbt
        have HBT := hide hbt
        clear hma hB htk hbt hvi
        have e0 : btw sv (vs.take 0) = [] := rfl
        rw [e0] at hown hln
        rw [e0]
        simp only [List.length_nil] at *
        simp only [Nat.add_zero] at a1
        go_wp2_with (at_builtin; refine wpList_append_own _ rfl _ _ 86 rfl (w.heap.size + 1) 20 i0 .nilIface 1 16 Tryd.underlying86 hi hz0 hz1 hz2 rfl (by decide) _ _ _ rfl (hown.alloc _) ⟨wr.heap.size, 0, none⟩ 1 1 [.iface ti xi] rfl rfl (cell_one_new _ _ _) (by simp [Value.oneCell']) (by unfold maxLen; omega) (by omega) (by simp; omega) ?_; intro v' w2 hown' hgrow0 _; have hgrow : (wr.alloc (.cells #[.iface ti xi] 20)).grownBy w2 (Value.slice p' 0 c').ownBlock := hgrow0; clear hgrow0; obtain ⟨ao, cc, rfl⟩ := slice_of hown')
        have HO2 := hide hown'
        have HG2 := hide hgrow
        clear hown' hgrow
        go_roundg (m - 1)
        case measure => omega
        case rel =>
          refine ⟨1, ao, cc, by omega, rfl, rfl, ?_, ?_, ?_⟩
          · rw [HBT.out]; rfl
          · rw [HBT.out]; exact HO2.out
          · exact (HB.out.alloc hBs _).trans (below_row (hown.alloc _) (by simp; omega) HG2.out)
      · rw [if_neg (fun h => by have := congrArg List.length h; rw [List.length_take, Nat.min_eq_left (by omega)] at this; simp at this; omega)] at hbt
        have HBT := hide hbt
        clear hma hB htk hbt hvi
        generalize hL : btw sv (vs.take i) = xs at *
        generalize hl2 : xs.length = L at *
        have hi2 : (0 : Int) < i := by omega
        go_wp2_with (at_builtin; first | (refine wpList_append_own _ rfl _ _ 86 rfl (w.heap.size + 1) 20 i0 .nilIface 1 16 Tryd.underlying86 hi hz0 hz1 hz2 rfl (by decide) _ _ _ rfl (hownA.alloc _) ⟨w2.heap.size, 0, none⟩ 1 1 [.iface ti xi] rfl rfl (cell_one_new _ _ _) (by simp [Value.oneCell']) (by unfold maxLen; omega) (by omega) (by simp; omega) ?_; intro v3 w3 hownB hgrow0 _; have hgrowB : (w2.alloc (.cells #[.iface ti xi] 20)).grownBy w3 (Value.slice ao (L + 1) cc).ownBlock := hgrow0; clear hgrow0; obtain ⟨ao3, cc3, rfl⟩ := slice_of hownB; have HG3 := hide hgrowB; clear hgrowB) | (refine wpList_append_own _ rfl _ _ 86 rfl (w.heap.size + 1) 20 i0 .nilIface 1 16 Tryd.underlying86 hi hz0 hz1 hz2 rfl (by decide) _ _ _ rfl (hown.alloc _) ⟨wr.heap.size, 0, none⟩ 1 1 [.iface 9 (.string sb)] rfl rfl (cell_one_new _ _ _) (by simp [Value.oneCell']) (by unfold maxLen; omega) (by omega) (by simp; omega) ?_; intro v' w2 hownA hgrow0 _; have hgrow : (wr.alloc (.cells #[.iface 9 (.string sb)] 20)).grownBy w2 (Value.slice p' L c').ownBlock := hgrow0; clear hgrow0; obtain ⟨ao, cc, rfl⟩ := slice_of hownA; have hw2 : wr.heap.size + 1 ≤ w2.heap.size := (by have := hgrow.size; simpa using this); have HG2 := hide hgrow; clear hgrow))
        have HO3 := hide hownB
        clear hownB
        go_roundg (m - (i + 1))
        case measure => omega
        case rel =>
          have hx : btw sv (vs.take (i + 1)) = xs ++ [.iface 9 (.string sb)] ++ [.iface ti xi] := by rw [HBT.out, HSV.out]; simp
          have hxl : (btw sv (vs.take (i + 1))).length = L + 1 + 1 := by rw [hx]; simp [hl2]
          refine ⟨i + 1, ao3, cc3, by omega, rfl, by go_num, ?_, ?_, ?_⟩
          · rw [hxl]
          · rw [hxl, hx]; exact HO3.out
          · exact (((HB.out.alloc hBs _).trans (below_row (hown.alloc _) (by simp; omega) HG2.out)).alloc (by omega) _).trans (below_row (hownA.alloc _) (by simp; omega) HG3.out)
    · have HX : Hid (vs.take i = vs) := by show vs.take i = vs; rw [List.take_of_length_le (by omega)]
      rw [HX.out] at hown
      rw [HX.out]
      have HOW := hide hown
      clear hown
      go_wp2_with fail
      go_ret
      obtain rfl := HSV.out
      refine ⟨p', c', rfl, ?_, ?_⟩
      · obtain ⟨h1, h2⟩ := HOW.out
        refine ⟨h1, ?_⟩
        rcases h2 with h2 | ⟨g, cap, cur, e1, e2, e3⟩
        · exact .inl h2
        · exact .inr ⟨g, cap, cur, e1, by omega, e3⟩
      · exact ((Below.refl _ w).alloc (Nat.le_refl _) _).trans (HB.out.mono (by omega))
/-- block: trees as a row of lines. -/
theorem block_any {P : Nat → Prop} {p : Option Addr} {c : Nat} {l : List Tr} {w : World} (hn : l.length ≤ 1000000) (hP : ∀ b, P b → b < w.heap.size) (hM : EM P w p l) :
    Calls Tryd.prog 77 #[.slice p l.length c] w fun e w' => ∃ p' c' vs, e = .returned (.agg #[.string (S [59]), .slice p' l.length c']) ∧ w'.ownsRow w.heap.size 20 1 (.slice p' l.length c') l.length vs ∧ Below w.heap.size w w' ∧ ∀ (i : Nat) t, l[i]? = some t → ∃ ds : List Value, (vs : List Value)[i]? = some (Value.iface 25 (.agg ds.toArray)) ∧ TrIn P w' t ds := by
  have hW : Hold w.heap.size #[.string ⟨#[]⟩, .slice none 0 0] 92 (w.alloc (.cells #[.string ⟨#[]⟩, .slice none 0 0] 92)) := Hold.new w _ 92
  have hK : KP P w (w.alloc (.cells #[.string ⟨#[]⟩, .slice none 0 0] 92)) := KP.alloc w _ hP
  have hL := list_expr (c := c) hn (fun b hb => by rw [World.size_alloc]; exact Nat.lt_succ_of_lt (hP b hb)) (EM.keep hK (fun b hb => hb) hM)
  have HW := hide hW
  have HL := hide hL
  clear hW hK hL
  go_enter Tryd.func77, Tryd.ntmps77
  go_wp2_with fail
  refine HL.out.mono ?_
  rintro e w1 ⟨p', c', vs, rfl, hown, hB, hV⟩
  have hH1 := HW.out.below hB HW.out.lt
  have f0 := hH1.frozen 0
  have f1 := hH1.frozen 1
  have c0 := hH1.cell 0
  have c1 := hH1.cell 1
  simp only [List.getElem?_toArray, List.getElem?_cons_succ, List.getElem?_cons_zero] at c0 c1
  have HH1 := hide hH1
  have HO := hide hown
  have HB := hide hB
  have HV := hide hV
  clear hH1 hown hB hV
  go_wp2_with fail
  have hH2 := (HH1.out.set 0 (.string ⟨#[59]⟩)).set 1 (.slice p' l.length c')
  have d0 := hH2.cell 0
  have d1 := hH2.cell 1
  simp at d0 d1
  refine bodyPost_ret (v := .agg #[.string (S [59]), .slice p' l.length c']) (by simp only [results, Tryd.results77]; go_simp; rfl) rfl ?_
  have hP2 : ¬ P w.heap.size := fun h => Nat.lt_irrefl _ (hP _ h)
  have k1 : KP P (w.alloc (.cells #[.string ⟨#[]⟩, .slice none 0 0] 92)) ((w1.setCell ⟨w.heap.size, 0, none⟩ (.string ⟨#[59]⟩)).setCell ⟨w.heap.size, 1, none⟩ (.slice p' l.length c')) :=
    ((KP.of_below HB.out fun b hb => by rw [World.size_alloc]; exact Nat.lt_succ_of_lt (hP b hb)).trans (KP.setCell _ _ _ _ hP2)).trans (KP.setCell _ _ _ _ hP2)
  refine ⟨p', c', vs, rfl, ?_, ?_, ?_⟩
  · have h1 := row_other (row_other HO.out HH1.out (by decide) 0 (.string ⟨#[59]⟩)) (HH1.out.set 0 _) (by decide) 1 (.slice p' l.length c')
    obtain ⟨g1, g2⟩ := h1
    refine ⟨g1, ?_⟩
    rcases g2 with h2 | ⟨g, cap, cur, e1, e2, e3⟩
    · exact .inl h2
    · exact .inr ⟨g, cap, cur, e1, by rw [World.size_alloc] at e2; omega, e3⟩
  · exact ((below_next HB.out).setCell (p := ⟨w.heap.size, 0, none⟩) (Nat.le_refl _) _).setCell (p := ⟨w.heap.size, 1, none⟩) (Nat.le_refl _) _
  · intro i t ht
    obtain ⟨ds, h1, h2⟩ := HV.out i t ht
    exact ⟨ds, h1, TrIn.keep k1 (fun b hb => hb) t ds h2⟩
end Go.Proofs.YtebcdjlhmoffjaaDoor
