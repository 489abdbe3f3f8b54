/-
  NumBack's walks: the sum fits, or it does not; a is less than b, is b, or is greater.
-/
import Derived.Test.YtkalbincljpceaaAwake
namespace Go.Proofs.Ytkalbincljpceaa
open Go.RowKit

theorem wf64 {a : Int} (h : (Lit.int .i64 a).wf = true) : fits a = true := by
  rw [fits_iff]
  simp [Lit.wf, IntKind.min, IntKind.max, IntKind.signed, IntKind.bits] at h
  omega

set_option maxHeartbeats 1000000 in
theorem back_yes (a b : Int) (ha : fits a = true) (hb : fits b = true) (hs : fits (a + b) = true) (w : World) :
    Calls Try.prog 4 #[.int .i64 a, .int .i64 b] w fun e w' => e = .returned (.bool true) ∧ Grown w w' := by
  have C1 := hide (fun w => do_add a b ha hb w)
  have C2 := hide (fun w => do_add b a hb ha w)
  have C3 := hide (fun w => do_sub (a + b) b hs hb w)
  rw [Int.add_comm b a, val_of hs, err_of hs] at C2
  rw [val_of hs, err_of hs] at C1
  rw [Int.add_sub_cancel, val_of ha, err_of ha] at C3
  have C4 := hide (fun w => do_mul a b ha hb w)
  have C5 := hide (fun w => do_mul b a hb ha w)
  rw [Int.mul_comm b a] at C5
  generalize val (a * b) = p at *
  generalize err (a * b) = q at *
  clear ha hb hs
  have T : a < b ∨ a = b ∨ b < a := by omega
  rcases T with h | h | h
  · have p1 : decide (a < b) = true := by simp; omega
    have p2 : decide (b < a) = false := by simp; omega
    have p3 : (a == b) = false := beq_eq_false_iff_ne.2 (by omega)
    clear h
    go_enter Try.func4, Try.ntmps4
    go_wp2_with fail
    refine (awake_any _).mono ?_; rintro e w1 ⟨rfl, h1⟩
    go_wp2_with fail
    refine (C1.out _).mono ?_; rintro e w2 ⟨rfl, h2⟩
    go_wp2_with fail
    refine (C2.out _).mono ?_; rintro e w3 ⟨rfl, h3⟩
    go_wp2_with fail
    refine (C3.out _).mono ?_; rintro e w4 ⟨rfl, h4⟩
    go_wp2_with fail
    refine (C4.out _).mono ?_; rintro e w5 ⟨rfl, h5⟩
    go_wp2_with fail
    refine (C5.out _).mono ?_; rintro e w6 ⟨rfl, h6⟩
    go_wp2_with fail
    refine (holds_lt _ _ _).mono ?_; rintro e w7 ⟨rfl, rfl⟩
    go_wp2_with fail
    refine (holds_lt _ _ _).mono ?_; rintro e w8 ⟨rfl, rfl⟩
    go_wp2_with fail
    refine (holds_eq _ _ _).mono ?_; rintro e w9 ⟨rfl, rfl⟩
    go_wp2_with fail
    go_ret
    exact ⟨by simp [*], grown_trans h1 (grown_trans h2 (grown_trans h3 (grown_trans h4 (grown_trans h5 h6))))⟩
  · have p1 : decide (a < b) = false := by simp; omega
    have p2 : decide (b < a) = false := by simp; omega
    have p3 : (a == b) = true := beq_iff_eq.2 (by omega)
    clear h
    go_enter Try.func4, Try.ntmps4
    go_wp2_with fail
    refine (awake_any _).mono ?_; rintro e w1 ⟨rfl, h1⟩
    go_wp2_with fail
    refine (C1.out _).mono ?_; rintro e w2 ⟨rfl, h2⟩
    go_wp2_with fail
    refine (C2.out _).mono ?_; rintro e w3 ⟨rfl, h3⟩
    go_wp2_with fail
    refine (C3.out _).mono ?_; rintro e w4 ⟨rfl, h4⟩
    go_wp2_with fail
    refine (C4.out _).mono ?_; rintro e w5 ⟨rfl, h5⟩
    go_wp2_with fail
    refine (C5.out _).mono ?_; rintro e w6 ⟨rfl, h6⟩
    go_wp2_with fail
    refine (holds_lt _ _ _).mono ?_; rintro e w7 ⟨rfl, rfl⟩
    go_wp2_with fail
    refine (holds_lt _ _ _).mono ?_; rintro e w8 ⟨rfl, rfl⟩
    go_wp2_with fail
    refine (holds_eq _ _ _).mono ?_; rintro e w9 ⟨rfl, rfl⟩
    go_wp2_with fail
    go_ret
    exact ⟨by simp [*], grown_trans h1 (grown_trans h2 (grown_trans h3 (grown_trans h4 (grown_trans h5 h6))))⟩
  · have p1 : decide (a < b) = false := by simp; omega
    have p2 : decide (b < a) = true := by simp; omega
    have p3 : (a == b) = false := beq_eq_false_iff_ne.2 (by omega)
    clear h
    go_enter Try.func4, Try.ntmps4
    go_wp2_with fail
    refine (awake_any _).mono ?_; rintro e w1 ⟨rfl, h1⟩
    go_wp2_with fail
    refine (C1.out _).mono ?_; rintro e w2 ⟨rfl, h2⟩
    go_wp2_with fail
    refine (C2.out _).mono ?_; rintro e w3 ⟨rfl, h3⟩
    go_wp2_with fail
    refine (C3.out _).mono ?_; rintro e w4 ⟨rfl, h4⟩
    go_wp2_with fail
    refine (C4.out _).mono ?_; rintro e w5 ⟨rfl, h5⟩
    go_wp2_with fail
    refine (C5.out _).mono ?_; rintro e w6 ⟨rfl, h6⟩
    go_wp2_with fail
    refine (holds_lt _ _ _).mono ?_; rintro e w7 ⟨rfl, rfl⟩
    go_wp2_with fail
    refine (holds_lt _ _ _).mono ?_; rintro e w8 ⟨rfl, rfl⟩
    go_wp2_with fail
    refine (holds_eq _ _ _).mono ?_; rintro e w9 ⟨rfl, rfl⟩
    go_wp2_with fail
    go_ret
    exact ⟨by simp [*], grown_trans h1 (grown_trans h2 (grown_trans h3 (grown_trans h4 (grown_trans h5 h6))))⟩

set_option maxHeartbeats 1000000 in
theorem back_no (a b : Int) (ha : fits a = true) (hb : fits b = true) (hs : fits (a + b) = false) (w : World) :
    Calls Try.prog 4 #[.int .i64 a, .int .i64 b] w fun e w' => e = .returned (.bool true) ∧ Grown w w' := by
  have C1 := hide (fun w => do_add a b ha hb w)
  have C2 := hide (fun w => do_add b a hb ha w)
  have C3 := hide (fun w => do_sub 0 b (by decide) hb w)
  rw [Int.add_comm b a, val_no hs, err_no hs] at C2
  rw [val_no hs, err_no hs] at C1
  generalize val (0 - b) = d at *
  generalize err (0 - b) = g at *
  have C4 := hide (fun w => do_mul a b ha hb w)
  have C5 := hide (fun w => do_mul b a hb ha w)
  rw [Int.mul_comm b a] at C5
  generalize val (a * b) = p at *
  generalize err (a * b) = q at *
  clear ha hb hs
  have T : a < b ∨ a = b ∨ b < a := by omega
  rcases T with h | h | h
  · have p1 : decide (a < b) = true := by simp; omega
    have p2 : decide (b < a) = false := by simp; omega
    have p3 : (a == b) = false := beq_eq_false_iff_ne.2 (by omega)
    clear h
    go_enter Try.func4, Try.ntmps4
    go_wp2_with fail
    refine (awake_any _).mono ?_; rintro e w1 ⟨rfl, h1⟩
    go_wp2_with fail
    refine (C1.out _).mono ?_; rintro e w2 ⟨rfl, h2⟩
    go_wp2_with fail
    refine (C2.out _).mono ?_; rintro e w3 ⟨rfl, h3⟩
    go_wp2_with fail
    refine (C3.out _).mono ?_; rintro e w4 ⟨rfl, h4⟩
    go_wp2_with fail
    refine (C4.out _).mono ?_; rintro e w5 ⟨rfl, h5⟩
    go_wp2_with fail
    refine (C5.out _).mono ?_; rintro e w6 ⟨rfl, h6⟩
    go_wp2_with fail
    refine (holds_lt _ _ _).mono ?_; rintro e w7 ⟨rfl, rfl⟩
    go_wp2_with fail
    refine (holds_lt _ _ _).mono ?_; rintro e w8 ⟨rfl, rfl⟩
    go_wp2_with fail
    refine (holds_eq _ _ _).mono ?_; rintro e w9 ⟨rfl, rfl⟩
    go_wp2_with fail
    go_ret
    exact ⟨by simp [*], grown_trans h1 (grown_trans h2 (grown_trans h3 (grown_trans h4 (grown_trans h5 h6))))⟩
  · have p1 : decide (a < b) = false := by simp; omega
    have p2 : decide (b < a) = false := by simp; omega
    have p3 : (a == b) = true := beq_iff_eq.2 (by omega)
    clear h
    go_enter Try.func4, Try.ntmps4
    go_wp2_with fail
    refine (awake_any _).mono ?_; rintro e w1 ⟨rfl, h1⟩
    go_wp2_with fail
    refine (C1.out _).mono ?_; rintro e w2 ⟨rfl, h2⟩
    go_wp2_with fail
    refine (C2.out _).mono ?_; rintro e w3 ⟨rfl, h3⟩
    go_wp2_with fail
    refine (C3.out _).mono ?_; rintro e w4 ⟨rfl, h4⟩
    go_wp2_with fail
    refine (C4.out _).mono ?_; rintro e w5 ⟨rfl, h5⟩
    go_wp2_with fail
    refine (C5.out _).mono ?_; rintro e w6 ⟨rfl, h6⟩
    go_wp2_with fail
    refine (holds_lt _ _ _).mono ?_; rintro e w7 ⟨rfl, rfl⟩
    go_wp2_with fail
    refine (holds_lt _ _ _).mono ?_; rintro e w8 ⟨rfl, rfl⟩
    go_wp2_with fail
    refine (holds_eq _ _ _).mono ?_; rintro e w9 ⟨rfl, rfl⟩
    go_wp2_with fail
    go_ret
    exact ⟨by simp [*], grown_trans h1 (grown_trans h2 (grown_trans h3 (grown_trans h4 (grown_trans h5 h6))))⟩
  · have p1 : decide (a < b) = false := by simp; omega
    have p2 : decide (b < a) = true := by simp; omega
    have p3 : (a == b) = false := beq_eq_false_iff_ne.2 (by omega)
    clear h
    go_enter Try.func4, Try.ntmps4
    go_wp2_with fail
    refine (awake_any _).mono ?_; rintro e w1 ⟨rfl, h1⟩
    go_wp2_with fail
    refine (C1.out _).mono ?_; rintro e w2 ⟨rfl, h2⟩
    go_wp2_with fail
    refine (C2.out _).mono ?_; rintro e w3 ⟨rfl, h3⟩
    go_wp2_with fail
    refine (C3.out _).mono ?_; rintro e w4 ⟨rfl, h4⟩
    go_wp2_with fail
    refine (C4.out _).mono ?_; rintro e w5 ⟨rfl, h5⟩
    go_wp2_with fail
    refine (C5.out _).mono ?_; rintro e w6 ⟨rfl, h6⟩
    go_wp2_with fail
    refine (holds_lt _ _ _).mono ?_; rintro e w7 ⟨rfl, rfl⟩
    go_wp2_with fail
    refine (holds_lt _ _ _).mono ?_; rintro e w8 ⟨rfl, rfl⟩
    go_wp2_with fail
    refine (holds_eq _ _ _).mono ?_; rintro e w9 ⟨rfl, rfl⟩
    go_wp2_with fail
    go_ret
    exact ⟨by simp [*], grown_trans h1 (grown_trans h2 (grown_trans h3 (grown_trans h4 (grown_trans h5 h6))))⟩

theorem back_walk (a0 a1 : Int) (w0 : (Lit.int .i64 a0).wf = true) (w1 : (Lit.int .i64 a1).wf = true) (w : World) :
    Calls Try.prog 4 #[.int .i64 a0, .int .i64 a1] w fun e w' => e = .returned (.bool true) ∧ Grown w w' := by
  cases h : fits (a0 + a1)
  · exact back_no a0 a1 (wf64 w0) (wf64 w1) h w
  · exact back_yes a0 a1 (wf64 w0) (wf64 w1) h w
end Go.Proofs.Ytkalbincljpceaa
