/-
  strings.Builder as lex.Text uses it: WriteByte, WriteString, String.
-/
import Derived.Test.YtnifnbndkbmdcaaDoorLex
import Derived.Lib.AppendStr
import Derived.Laws.Externs
namespace Go.Proofs.YtnifnbndkbmdcaaDoor
open Go.RowKit
set_option linter.unusedVariables false

theorem size53 : (Tryd.prog.info? 68).map (fun i => i.size) = some 2 := by kernel_rfl
theorem lies53 : liesAt Tryd.prog Tryd.prog.depth 68 (2 / Tryd.prog.cellsOf 68) 0 68 1 = true := by kernel_rfl
theorem check_fresh (b : Nat) (w : World) (h0 : w.cell? ⟨b, 0, none⟩ = some (.pointer none)) (hsh : w.shape? b = some (68, 2)) (hfz : w.frozen? ⟨b, 0, none⟩ = false) :
    Calls Tryd.prog 56 #[.pointer (some ⟨b, 0, none⟩)] w fun e w' => e = .returned (.tuple #[]) ∧ w' = w.setCell ⟨b, 0, none⟩ (.pointer (some ⟨b, 0, none⟩)) := by
  obtain ⟨j, hj, hjs⟩ := Option.map_eq_some_iff.1 size53
  have r1 := Lib.run_to_unsafe (P := Tryd.prog) w ⟨b, 0, none⟩ Tryd.underlying66 Tryd.underlying94 hj (by rw [hjs]; decide) hsh (Nat.zero_lt_succ 1)
  have r2 := Lib.run_from_unsafe (P := Tryd.prog) w ⟨b, 0, none⟩ Tryd.underlying94 Tryd.underlying66 hj hsh lies53
  have r3 : (callFunc 68 #[.pointer (some ⟨b, 0, none⟩)]).run Tryd.prog w = .ok (.value (.pointer (some ⟨b, 0, none⟩))) w := by
    rw [run_callFunc_extern Tryd.func68 (by kernel_rfl) (by kernel_rfl) (by kernel_rfl) (e := Extern.AbiNoEscape.same) (by kernel_rfl), Lib.run_noEscape]; rfl
  clear hsh hj hjs
  go_enter Tryd.func56, Tryd.ntmps56
  go_wp2
  go_end0
  exact ⟨rfl, rfl⟩
theorem check_used (b : Nat) (w : World) (h0 : w.cell? ⟨b, 0, none⟩ = some (.pointer (some ⟨b, 0, none⟩))) :
    Calls Tryd.prog 56 #[.pointer (some ⟨b, 0, none⟩)] w fun e w' => e = .returned (.tuple #[]) ∧ w' = w := by
  obtain ⟨j, hj, hjs⟩ := Option.map_eq_some_iff.1 size53
  have r1 := Lib.run_neq_ptr_same (P := Tryd.prog) w ⟨b, 0, none⟩ Tryd.underlying66 hj
  clear hj hjs
  go_enter Tryd.func56, Tryd.ntmps56
  go_wp2
  go_end0
  exact ⟨rfl, rfl⟩
/-- Whatever lies in cells of another type than a Builder's, or bytes, stays. -/
def K5 (w w' : World) : Prop := ∀ (k : Nat) (C : Array Value) (t : TypeId), Hold k C t w → t ≠ 68 → t ≠ 5 → Hold k C t w'
theorem K5.trans {a b c : World} (h : K5 a b) (g : K5 b c) : K5 a c := fun k C t hk h1 h2 => g k C t (h k C t hk h1 h2) h1 h2
theorem K5.alloc (w : World) (o : Obj) : K5 w (w.alloc o) := fun k C t hk _ _ => hk.alloc o
theorem K5.set {w : World} {b : Nat} {C : Array Value} (h : w.heap[b]? = some (.cells C 68 (0, 0))) (i : Nat) (v : Value) : K5 w (w.setCell ⟨b, i, none⟩ v) := fun k C' t hk h1 _ => hk.other (fun e => by subst e; rw [show w.heap[k]? = _ from hk] at h; cases h; exact h1 rfl) i v
theorem K5.row {w w' : World} {v : Value} {base n : Nat} {xs : List Value} (hr : w.ownsRow base 5 1 v n xs) (hg : w.grownBy w' v.ownBlock) : K5 w w' := fun k C t hk _ h2 => (hg.block k hk.lt (row_ne hk hr h2)).trans hk
theorem check_any (B b : Nat) (bs : List Value) (w : World) (h : Lib.IsBuilder 68 5 B b bs w) :
    Calls Tryd.prog 56 #[.pointer (some ⟨b, 0, none⟩)] w fun e w' => e = .returned (.tuple #[]) ∧ Lib.BuilderAt 68 5 B b (.pointer (some ⟨b, 0, none⟩)) bs w' ∧ Below B w w' ∧ K5 w w' := by
  rcases h with h | h
  · refine (check_fresh b w h.cell0 h.shape h.frozen0).mono ?_
    rintro e w' ⟨rfl, rfl⟩
    obtain ⟨hB, v, hb, _, _⟩ := id h
    exact ⟨rfl, h.used _, (Below.refl B w).setCell (p := ⟨b, 0, none⟩) h.1 _, K5.set hb 0 _⟩
  · refine (check_used b w h.cell0).mono ?_
    rintro e w' ⟨rfl, rfl⟩
    exact ⟨rfl, h, Below.refl B _, fun _ _ _ h _ _ => h⟩
set_option maxHeartbeats 1000000 in
theorem writeByte_any (B b : Nat) (bs : List UInt8) (c : UInt8) (w : World) (h : Lib.IsBuilder 68 5 B b (bs.map cl) w) (hlen : bs.length + 1 ≤ 140737488355328) (hBw : B ≤ w.heap.size) :
    Calls Tryd.prog 34 #[.pointer (some ⟨b, 0, none⟩), .int .u8 c.toNat] w fun e w' => e = .returned .nilIface ∧ Lib.IsBuilder 68 5 B b ((bs ++ [c]).map cl) w' ∧ Below B w w' ∧ K5 w w' := by
  obtain ⟨i0, hi, hz0, hz1, hz2⟩ := info_parts info5
  have HC := hide (check_any B b (bs.map cl) w h)
  clear h
  go_enter Tryd.func34, Tryd.ntmps34
  go_wp2_with fail
  refine HC.out.mono ?_
  rintro e w1 ⟨rfl, ⟨hB, v, hbk, hown, hne⟩, hb1, hk1⟩
  have hBw1 : B ≤ w1.heap.size := Nat.le_trans hBw hb1.size
  rw [List.length_map] at hown
  obtain ⟨ao, cap, rfl⟩ := slice_of hown
  have c1 : w1.cell? ⟨b, 1, none⟩ = some (.slice ao bs.length cap) := by rw [Lib.cell_of_heap hbk]; rfl
  have hlt : b < w1.heap.size := (Array.getElem?_eq_some_iff.1 hbk).1
  have HBK := hide hbk
  clear HC hbk
  go_wp2_with (at_builtin; refine wpList_append_own _ rfl _ _ 34 rfl B 5 i0 (.int .u8 0) 1 1 Tryd.underlying34 hi hz0 hz1 hz2 rfl (by decide) _ _ _ rfl (hown.alloc _) ⟨w1.heap.size, 0, none⟩ 1 1 [cl c] rfl rfl (cell_one_new _ _ _) (by simp [Value.oneCell', cl]) (by unfold maxLen; omega) (by omega) (by simp; omega) ?_; intro v' w2 hown' hgrow0 _; have hgrow : (w1.alloc (.cells #[cl c] 5)).grownBy w2 (Value.slice ao bs.length cap).ownBlock := hgrow0; clear hgrow0; obtain ⟨g', cap', rfl⟩ := ownsRow_succ hown'; have hb2 : w2.heap[b]? = some (.cells #[.pointer (some ⟨b, 0, none⟩), .slice ao bs.length cap] 68 (0, 0)) := (hgrow.block b (by simp; omega) (fun e => hne e.symm)).trans ((Below.heap_alloc _ _ _ hlt).trans HBK.out); have c2 := Lib.cell_of_heap hb2 1; have f2 := Lib.frozen_of_heap hb2 1; have HB2 := hide hb2; clear hb2)
  go_ret
  refine ⟨rfl, .inr ?_, ?_, ?_⟩
  · exact Lib.BuilderAt.put (bs' := (bs ++ [c]).map cl) hB HB2.out (by rw [List.length_map, List.length_append, List.length_singleton, ← map_snoc]; exact hown') (by decide)
  · exact ((hb1.trans ((Below.refl B w1).alloc hBw1 (.cells #[cl c] 5))).trans (below_row (hown.alloc _) (by simp; omega) hgrow)).setCell (p := ⟨b, 1, none⟩) hB _
  · exact ((hk1.trans (K5.alloc w1 (.cells #[cl c] 5))).trans (K5.row (hown.alloc _) hgrow)).trans (K5.set HB2.out 1 _)
set_option maxHeartbeats 1000000 in
theorem writeStr_any (B b : Nat) (bs l : List UInt8) (w : World) (h : Lib.IsBuilder 68 5 B b (bs.map cl) w) (hlen : bs.length + l.length ≤ 140737488355328) (hBw : B ≤ w.heap.size) :
    Calls Tryd.prog 35 #[.pointer (some ⟨b, 0, none⟩), .string (S l)] w fun e w' => (∃ n, e = .returned (.tuple #[.int .i64 n, .nilIface])) ∧ Lib.IsBuilder 68 5 B b ((bs ++ l).map cl) w' ∧ Below B w w' ∧ K5 w w' := by
  obtain ⟨i0, hi, hz0, hz1, hz2⟩ := info_parts info5
  have HC := hide (check_any B b (bs.map cl) w h)
  have hsz := S_size l
  have HST : Hid (Lib.strCells (S l) = l.map cl) := rfl
  clear h
  generalize S l = s at *
  go_enter Tryd.func35, Tryd.ntmps35
  go_wp2_with fail
  refine HC.out.mono ?_
  rintro e w1 ⟨rfl, ⟨hB, v, hbk, hown, hne⟩, hb1, hk1⟩
  have hBw1 : B ≤ w1.heap.size := Nat.le_trans hBw hb1.size
  rw [List.length_map] at hown
  obtain ⟨ao, cap, rfl⟩ := slice_of hown
  have c1 : w1.cell? ⟨b, 1, none⟩ = some (.slice ao bs.length cap) := by rw [Lib.cell_of_heap hbk]; rfl
  have hlt : b < w1.heap.size := (Array.getElem?_eq_some_iff.1 hbk).1
  have HBK := hide hbk
  have HSZ := hide hsz
  clear HC hbk hsz
  go_wp2_with (at_builtin; refine Lib.wpList_append_own_string _ rfl _ _ 34 9 rfl B 5 i0 Tryd.underlying34 Tryd.underlying9 hi hz0 hz1 hz2 _ _ _ rfl hown s rfl (by rw [HSZ.out]; unfold maxLen; omega) (by rw [HSZ.out]; omega) hBw1 ?_; intro v' w2 hown' hgrow0 _; have hgrow : w1.grownBy w2 (Value.slice ao bs.length cap).ownBlock := hgrow0; clear hgrow0; obtain ⟨ao', cap', rfl⟩ := slice_of hown'; have hb2 : w2.heap[b]? = some (.cells #[.pointer (some ⟨b, 0, none⟩), .slice ao bs.length cap] 68 (0, 0)) := (hgrow.block b hlt (fun e => hne e.symm)).trans HBK.out; have c2 := Lib.cell_of_heap hb2 1; have f2 := Lib.frozen_of_heap hb2 1; have HB2 := hide hb2; clear hb2)
  go_ret2
  refine ⟨⟨_, rfl⟩, .inr ?_, ?_, ?_⟩
  · exact Lib.BuilderAt.put (bs' := (bs ++ l).map cl) hB HB2.out (by rw [List.length_map, List.length_append, List.map_append, ← HST.out, ← HSZ.out]; exact hown') (by decide)
  · exact (hb1.trans (below_row hown hBw1 hgrow)).setCell (p := ⟨b, 1, none⟩) hB _
  · exact (hk1.trans (K5.row hown hgrow)).trans (K5.set HB2.out 1 _)
theorem string_any (B b : Nat) (bs : List UInt8) (w : World) (h : Lib.IsBuilder 68 5 B b (bs.map cl) w) (hBw : B ≤ w.heap.size) :
    Calls Tryd.prog 36 #[.pointer (some ⟨b, 0, none⟩)] w fun e w' => e = .returned (.string (S bs)) ∧ Below B w w' := by
  refine (Tryd.Builder_String_any_k B b bs w (Lib.IsBuilderF.of h) hBw).mono ?_
  rintro e w' ⟨rfl, _, hb, _⟩
  exact ⟨rfl, hb⟩

/-- The Texts, with a byte 32 between any two. -/
def txt : List Tok → List UInt8
  | [] => []
  | t :: r => t.tx ++ (r.flatMap fun u => 32 :: u.tx)
end Go.Proofs.YtnifnbndkbmdcaaDoor
