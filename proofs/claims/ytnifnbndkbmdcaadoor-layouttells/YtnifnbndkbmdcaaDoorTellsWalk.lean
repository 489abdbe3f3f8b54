/-
  LayoutTells's walk.
-/
import Derived.Test.YtnifnbndkbmdcaaDoorRefLay
import Derived.Test.YtnifnbndkbmdcaaDoorFitsWalk
namespace Go.Proofs.YtnifnbndkbmdcaaDoor
open Go.RowKit
set_option linter.unusedVariables false

theorem tells_long (p : Option Addr) (m c : Nat) (w : World) (hg : Glob w) (h : 500 < (m : Int)) :
    Calls Tryd.prog 3 #[.slice p m c] w fun e w' => e = .returned (.bool true) ∧ Below w.heap.size w w' := by
  go_enter Tryd.func3, Tryd.ntmps3
  go_wp2_with fail
  refine (awake_any w hg).mono ?_
  rintro e w1 ⟨rfl, hb⟩
  go_wp2_with fail
  go_ret
  exact ⟨rfl, hb⟩
set_option maxRecDepth 20000 in
set_option maxHeartbeats 4000000 in
theorem tells_walk (p : Option Addr) (m c : Nat) (l : List Tok) (w : World) (hg : Glob w) (hl : l.length = m) (h : m ≤ 500) (hmc : m ≤ c) (hM : TMem w p l) :
    Calls Tryd.prog 3 #[.slice p m c] w fun e w' => e = .returned (.bool true) ∧ Below w.heap.size w w' := by
  have HL := hide (fun w1 hM => lay_any p m c l w1 hl (by omega) hmc hM)
  have HRL := hide (fun w1 hM => layref_any p m c l w1 hl (by omega) hmc hM)
  have htl : (layM l).1.length ≤ 2147483647 := by have := lay_len l; omega
  have h5 : ¬ (500 : Int) < m := by omega
  generalize (layM l).1 = ts at *
  generalize (layM l).2.1.1 = x at *
  generalize (layM l).2.1.2 = y at *
  generalize (layM l).2.2 = z at *
  go_enter Tryd.func3, Tryd.ntmps3
  go_wp2_with fail
  refine (awake_any w hg).mono ?_
  rintro e w1 ⟨rfl, hb1⟩
  have M1 := hM.below (Nat.le_refl _) hb1
  go_wp2_with fail
  refine (HL.out w1 M1).mono ?_
  rintro e w2 ⟨pa, cpa, rfl, hTa, hb2⟩
  have B3 : Below w2.heap.size w2 (w2.alloc (.cells #[.int .i64 x, .int .i64 y] 25)) := (Below.refl _ w2).alloc (Nat.le_refl _) _
  have H3 := Hold.new w2 #[.int .i64 x, .int .i64 y] 25
  have T3 := hTa.below (Nat.le_refl _) B3
  have M3 := (M1.below (Nat.le_refl _) hb2).below (Nat.le_refl _) B3
  have BW2 := hb1.trans (hb2.mono hb1.size)
  have BW3 := BW2.trans (B3.mono BW2.size)
  clear hTa B3 hb1 hb2 BW2 M1 hM HL
  go_wp2_with fail
  generalize w2.alloc (.cells #[.int .i64 x, .int .i64 y] 25) = W3 at *
  generalize w2.heap.size = b3 at *
  refine (HRL.out W3 M3).mono ?_
  rintro e w4 ⟨pb, cpb, rfl, hTb, hb4⟩
  have H4 : Hold b3 #[.int .i64 x, .int .i64 y] 25 w4 := H3.below hb4 H3.lt
  have B5 : Below w4.heap.size w4 (w4.alloc (.cells #[.int .i64 x, .int .i64 y] 25)) := (Below.refl _ w4).alloc (Nat.le_refl _) _
  have H5 := Hold.new w4 #[.int .i64 x, .int .i64 y] 25
  have H5a := H4.alloc (.cells #[.int .i64 x, .int .i64 y] 25)
  have T5 := (T3.below (Nat.le_refl _) hb4).below (Nat.le_refl _) B5
  have U5 := hTb.below (Nat.le_refl _) B5
  have BW4 := BW3.trans (hb4.mono BW3.size)
  have BW5 := BW4.trans (B5.mono BW4.size)
  clear hTb B5 hb4 T3 M3 BW4 BW3 H3 H4 HRL
  go_wp2_with fail
  generalize w4.alloc (.cells #[.int .i64 x, .int .i64 y] 25) = W5 at *
  generalize w4.heap.size = b4 at *
  refine (same_eq pa pb cpa cpb ts.length ts W5 rfl htl T5 U5).mono ?_
  rintro e w6 ⟨rfl, hb6⟩
  have P3 : Hold b3 #[.int .i64 x, .int .i64 y] 25 w6 := H5a.below hb6 H5a.lt
  have P4 : Hold b4 #[.int .i64 x, .int .i64 y] 25 w6 := H5.below hb6 H5.lt
  have c30 : w6.cell? ⟨b3, 0, none⟩ = some (.int .i64 x) := P3.cell 0
  have c31 : w6.cell? ⟨b3, 1, none⟩ = some (.int .i64 y) := P3.cell 1
  have c40 : w6.cell? ⟨b4, 0, none⟩ = some (.int .i64 x) := P4.cell 0
  have c41 : w6.cell? ⟨b4, 1, none⟩ = some (.int .i64 y) := P4.cell 1
  have BW6 := BW5.trans (hb6.mono BW5.size)
  clear P3 P4 H5 H5a T5 U5 hb6 BW5
  go_wp2_with fail
  go_ret
  exact ⟨rfl, BW6⟩
end Go.Proofs.YtnifnbndkbmdcaaDoor
