/-
  LexTells's walk.
-/
import Derived.Test.YtnajffpllhckkaaDoorRefLex
namespace Go.Proofs.YtnajffpllhckkaaDoor
open Go.RowKit
set_option linter.unusedVariables false

theorem tells_long (p : Option Addr) (m c : Nat) (w : World) (hg : Glob w) (h : 5000 < (m : Int)) :
    Calls Tryd.prog 3 #[.slice p m c] w fun e w' => e = .returned (.bool true) ∧ Below w.heap.size w w' := by
  go_enter Tryd.func3, Tryd.ntmps3
  go_wp2_with fail
  refine (awake_any w hg).mono ?_
  rintro e w1 ⟨rfl, hb⟩
  go_wp2_with fail
  go_ret
  exact ⟨rfl, hb⟩
set_option maxRecDepth 20000 in
set_option maxHeartbeats 4000000 in
theorem tells_walk (p : Option Addr) (m c : Nat) (l : List UInt8) (w : World) (hg : Glob w) (hl : l.length = m) (h : m ≤ 5000) (hmc : m ≤ c) (hM : Mem w p l) (hp : p = none → c = 0) :
    Calls Tryd.prog 3 #[.slice p m c] w fun e w' => e = .returned (.bool true) ∧ Below w.heap.size w w' := by
  have HL := hide (fun w1 hM hg => lex_told p m c l w1 hl (by omega) hmc hM hp hg)
  have HRL := hide (fun w1 hM => rlex_told p m c l w1 hl h hM)
  have htl : (lexM l).1.length ≤ 2000 := by
    cases hq : (lexM l).2 with
    | some e => rw [lexM_err hq]; simp
    | none => exact (lexM_ok hq).2
  generalize (lexM l).1 = ts at *
  generalize (plc l).1 = x at *
  generalize (plc l).2 = y at *
  generalize ern l = z at *
  go_enter Tryd.func3, Tryd.ntmps3
  go_wp2_with fail
  refine (awake_any w hg).mono ?_
  rintro e w1 ⟨rfl, hb1⟩
  have g1 := hg.below (Nat.le_refl _) hb1
  have M1 := hM.below (Nat.le_refl _) hb1
  go_wp2_with fail
  refine (HL.out w1 M1 g1).mono ?_
  rintro e w2 ⟨pa, cpa, rfl, hTa, hca, hb2⟩
  have B3 : Below w2.heap.size w2 (w2.alloc (.cells #[.int .i64 x, .int .i64 y] 26)) := (Below.refl _ w2).alloc (Nat.le_refl _) _
  have H3 := Hold.new w2 #[.int .i64 x, .int .i64 y] 26
  have T3 := hTa.below (Nat.le_refl _) B3
  have M3 := (M1.below (Nat.le_refl _) hb2).below (Nat.le_refl _) B3
  have BW2 := hb1.trans (hb2.mono hb1.size)
  have BW3 := BW2.trans (B3.mono BW2.size)
  clear hTa B3 hb1 hb2 BW2 M1 hM g1 HL
  go_wp2_with fail
  have hb3 : w2.heap.size < (w2.alloc (.cells #[.int .i64 x, .int .i64 y] 26)).heap.size := by simp
  generalize w2.alloc (.cells #[.int .i64 x, .int .i64 y] 26) = W3 at *
  generalize w2.heap.size = b3 at *
  refine (HRL.out W3 M3).mono ?_
  rintro e w4 ⟨pb, cpb, rfl, hTb, hb4⟩
  have H4 : Hold b3 #[.int .i64 x, .int .i64 y] 26 w4 := (Keep.of_below hb4 (Nat.le_refl _)).all _ _ _ _ H3
  have B5 : Below w4.heap.size w4 (w4.alloc (.cells #[.int .i64 x, .int .i64 y] 26)) := (Below.refl _ w4).alloc (Nat.le_refl _) _
  have H5 := Hold.new w4 #[.int .i64 x, .int .i64 y] 26
  have H5a := H4.alloc (.cells #[.int .i64 x, .int .i64 y] 26)
  have T5 := (T3.below (Nat.le_refl _) hb4).below (Nat.le_refl _) B5
  have U5 := hTb.below (Nat.le_refl _) B5
  have BW4 := BW3.trans (hb4.mono BW3.size)
  have BW5 := BW4.trans (B5.mono BW4.size)
  clear hTb B5 hb4 T3 M3 BW4 BW3 H3 H4 HRL
  go_wp2_with fail
  generalize w4.alloc (.cells #[.int .i64 x, .int .i64 y] 26) = W5 at *
  generalize w4.heap.size = b4 at *
  refine (same_eq pa pb cpa cpb ts.length ts W5 rfl (by omega) T5 U5).mono ?_
  rintro e w6 ⟨rfl, hb6⟩
  have K := Keep.of_below hb6 (Nat.le_refl _)
  have P3 : Hold b3 #[.int .i64 x, .int .i64 y] 26 w6 := K.all _ _ _ _ H5a
  have P4 : Hold b4 #[.int .i64 x, .int .i64 y] 26 w6 := K.all _ _ _ _ H5
  have c30 : w6.cell? ⟨b3, 0, none⟩ = some (.int .i64 x) := P3.cell 0
  have c31 : w6.cell? ⟨b3, 1, none⟩ = some (.int .i64 y) := P3.cell 1
  have c40 : w6.cell? ⟨b4, 0, none⟩ = some (.int .i64 x) := P4.cell 0
  have c41 : w6.cell? ⟨b4, 1, none⟩ = some (.int .i64 y) := P4.cell 1
  have BW6 := BW5.trans (hb6.mono BW5.size)
  clear K P3 P4 H5 H5a T5 U5 hb6 BW5
  go_wp2_with fail
  go_ret
  exact ⟨rfl, BW6⟩
end Go.Proofs.YtnajffpllhckkaaDoor
