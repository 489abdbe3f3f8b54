/-
  NumSmall's walks: of two numbers of 31 bits; by 0, and by another number.
-/
import Derived.Test.YtkalbincljpceaaAwake
namespace Go.Proofs.Ytkalbincljpceaa
open Go.RowKit
theorem small_fits {a : Int} (h : -2147483648 ≤ a ∧ a ≤ 2147483647) : fits a = true := by rw [fits_iff]; omega
theorem small_mul {a b : Int} (ha : -2147483648 ≤ a ∧ a ≤ 2147483647) (hb : -2147483648 ≤ b ∧ b ≤ 2147483647) : -9223372036854775808 ≤ a * b ∧ a * b ≤ 9223372036854775807 := by
  have h : (a * b).natAbs ≤ 2147483648 * 2147483648 := by rw [Int.natAbs_mul]; exact Nat.mul_le_mul (by omega) (by omega)
  omega
theorem small_div {a b : Int} (ha : -2147483648 ≤ a ∧ a ≤ 2147483647) : -9223372036854775808 ≤ a.tdiv b ∧ a.tdiv b ≤ 9223372036854775807 := by
  have h : (a.tdiv b).natAbs = a.natAbs / b.natAbs := Int.natAbs_tdiv a b
  have g : a.natAbs / b.natAbs ≤ a.natAbs := Nat.div_le_self _ _
  omega
theorem wf32 {a : Int} (h : (Lit.int .i32 a).wf = true) : -2147483648 ≤ a ∧ a ≤ 2147483647 := by
  simp [Lit.wf, IntKind.min, IntKind.max, IntKind.signed, IntKind.bits] at h
  omega
theorem small_plain (a b : Int) (ha : -2147483648 ≤ a ∧ a ≤ 2147483647) (hb : -2147483648 ≤ b ∧ b ≤ 2147483647) (h0 : ¬ b = 0) (w : World) :
    Calls Try.prog 7 #[.int .i32 a, .int .i32 b] w fun e w' => e = .returned (.bool true) ∧ Grown w w' := by
  have fa := small_fits ha
  have fb := small_fits hb
  have ⟨m1, m2⟩ := small_mul ha hb
  have ⟨q1, q2⟩ := small_div (b := b) ha
  have ⟨a1, a2⟩ := ha
  have ⟨b1, b2⟩ := hb
  have c1 : ∀ w, Calls Try.prog 9 _ w _ := fun w => do_add a b fa fb w
  have c2 : ∀ w, Calls Try.prog 9 _ w _ := fun w => do_sub a b fa fb w
  have c3 : ∀ w, Calls Try.prog 9 _ w _ := fun w => do_mul a b fa fb w
  have c4 : ∀ w, Calls Try.prog 9 _ w _ := fun w => do_div a b fa fb h0 w
  have f1 : fits (a + b) = true := by rw [fits_iff]; omega
  have f2 : fits (a - b) = true := by rw [fits_iff]; omega
  have f3 : fits (a * b) = true := by rw [fits_iff]; omega
  have f4 : fits (a.tdiv b) = true := by rw [fits_iff]; omega
  rw [val_of f1, err_of f1] at c1
  rw [val_of f2, err_of f2] at c2
  rw [val_of f3, err_of f3] at c3
  rw [val_of f4, err_of f4] at c4
  have C1 := hide c1
  have C2 := hide c2
  have C3 := hide c3
  have C4 := hide c4
  have W4 := hide (wrap64_fits f4)
  clear c1 c2 c3 c4 f1 f2 f3 f4 fa fb ha hb
  have g0 : (b == 0) = false := beq_eq_false_iff_ne.2 h0
  have g2 : (b != 0) = true := bne_iff_ne.2 h0
  have g1 : (decide (a < b) == decide (a - b < 0)) = true := by
    rw [beq_iff_eq]; exact decide_eq_decide.2 (by omega)
  go_enter Try.func7, Try.ntmps7
  go_wp2_with fail
  refine (awake_any _).mono ?_; rintro e w1 ⟨rfl, h1⟩
  go_wp2_with fail
  refine (C1.out _).mono ?_; rintro e w2 ⟨rfl, h2⟩
  go_wp2_with fail
  refine (C2.out _).mono ?_; rintro e w3 ⟨rfl, h3⟩
  go_wp2_with fail
  refine (C3.out _).mono ?_; rintro e w4 ⟨rfl, h4⟩
  go_wp2_with fail
  refine (C4.out _).mono ?_; rintro e w5 ⟨rfl, h5⟩
  go_wp2_with fail
  refine (holds_lt _ _ _).mono ?_; rintro e w6 ⟨rfl, rfl⟩
  go_wp2_with fail
  go_ret
  exact ⟨by simp, grown_trans h1 (grown_trans h2 (grown_trans h3 (grown_trans h4 h5)))⟩
theorem small_zero (a : Int) (ha : -2147483648 ≤ a ∧ a ≤ 2147483647) (w : World) :
    Calls Try.prog 7 #[.int .i32 a, .int .i32 0] w fun e w' => e = .returned (.bool true) ∧ Grown w w' := by
  have hb : -2147483648 ≤ (0 : Int) ∧ (0 : Int) ≤ 2147483647 := by decide
  have fa := small_fits ha
  have fb := small_fits hb
  have ⟨m1, m2⟩ := small_mul ha hb
  have ⟨a1, a2⟩ := ha
  have ⟨b1, b2⟩ := hb
  have c1 : ∀ w, Calls Try.prog 9 _ w _ := fun w => do_add a 0 fa fb w
  have c2 : ∀ w, Calls Try.prog 9 _ w _ := fun w => do_sub a 0 fa fb w
  have c3 : ∀ w, Calls Try.prog 9 _ w _ := fun w => do_mul a 0 fa fb w
  have c4 : ∀ w, Calls Try.prog 9 _ w _ := fun w => do_div_zero a fa w
  have f1 : fits (a + 0) = true := by rw [fits_iff]; omega
  have f2 : fits (a - 0) = true := by rw [fits_iff]; omega
  have f3 : fits (a * 0) = true := by rw [fits_iff]; omega
  rw [val_of f1, err_of f1] at c1
  rw [val_of f2, err_of f2] at c2
  rw [val_of f3, err_of f3] at c3
  have C1 := hide c1
  have C2 := hide c2
  have C3 := hide c3
  have C4 := hide c4
  clear c1 c2 c3 c4 f1 f2 f3 fa fb ha hb
  have g1 : (decide (a < 0) == decide (a - 0 < 0)) = true := by
    rw [beq_iff_eq]; exact decide_eq_decide.2 (by omega)
  go_enter Try.func7, Try.ntmps7
  go_wp2_with fail
  refine (awake_any _).mono ?_; rintro e w1 ⟨rfl, h1⟩
  go_wp2_with fail
  refine (C1.out _).mono ?_; rintro e w2 ⟨rfl, h2⟩
  go_wp2_with fail
  refine (C2.out _).mono ?_; rintro e w3 ⟨rfl, h3⟩
  go_wp2_with fail
  refine (C3.out _).mono ?_; rintro e w4 ⟨rfl, h4⟩
  go_wp2_with fail
  refine (C4.out _).mono ?_; rintro e w5 ⟨rfl, h5⟩
  go_wp2_with fail
  refine (holds_lt _ _ _).mono ?_; rintro e w6 ⟨rfl, rfl⟩
  go_wp2_with fail
  go_ret
  exact ⟨by simp, grown_trans h1 (grown_trans h2 (grown_trans h3 (grown_trans h4 h5)))⟩
theorem small_walk (a0 a1 : Int) (w0 : (Lit.int .i32 a0).wf = true) (w1 : (Lit.int .i32 a1).wf = true) (w : World) :
    Calls Try.prog 7 #[.int .i32 a0, .int .i32 a1] w fun e w' => e = .returned (.bool true) ∧ Grown w w' := by
  by_cases h : a1 = 0
  · subst h; exact small_zero a0 (wf32 w0) w
  · exact small_plain a0 a1 (wf32 w0) (wf32 w1) h w
end Go.Proofs.Ytkalbincljpceaa
