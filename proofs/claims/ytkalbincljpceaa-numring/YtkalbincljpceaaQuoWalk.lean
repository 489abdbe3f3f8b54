/-
  NumQuotients' walks: by 0; the one quotient that is too great; all others, by the sign of the number and of what is left.
-/
import Derived.Test.YtkalbincljpceaaBackWalk
namespace Go.Proofs.Ytkalbincljpceaa
open Go.RowKit

theorem rem_facts (a b : Int) (ha : fits a = true) (h0 : ¬ b = 0) : fits (a.tdiv b * b) = true ∧ fits (a - a.tdiv b * b) = true ∧
    (b < 0 → b < a - a.tdiv b * b ∧ a - a.tdiv b * b < -b) ∧ (0 < b → a - a.tdiv b * b < b ∧ -b < a - a.tdiv b * b) ∧
    (a < 0 → a - a.tdiv b * b ≤ 0) ∧ (0 ≤ a → 0 ≤ a - a.tdiv b * b) := by
  have e : a - a.tdiv b * b = a.tmod b := by have := Int.tdiv_mul_add_tmod a b; omega
  have e' : a.tdiv b * b = a - a.tmod b := by omega
  rw [e, e']
  obtain ⟨a1, a2⟩ := (fits_iff a).1 ha
  have hm : (a.tmod b).natAbs = a.natAbs % b.natAbs := Int.natAbs_tmod a b
  have hl : a.natAbs % b.natAbs < b.natAbs := Nat.mod_lt _ (by omega)
  have hl2 : a.natAbs % b.natAbs ≤ a.natAbs := Nat.mod_le _ _
  have s1 : 0 ≤ a → 0 ≤ a.tmod b := fun h => Int.tmod_nonneg b h
  have s2 : a < 0 → a.tmod b ≤ 0 := fun h => by
    have := Int.tmod_nonneg b (a := -a) (by omega)
    rw [Int.neg_tmod] at this; omega
  simp only [fits_iff]
  refine ⟨?_, ?_, ?_, ?_, ?_, ?_⟩ <;> (by_cases h : 0 ≤ a <;> omega)
theorem tdiv_no (a b : Int) (ha : fits a = true) (h0 : ¬ b = 0) (h : fits (a.tdiv b) = false) : a = -9223372036854775808 ∧ b = -1 := by
  by_cases h1 : b = -1
  · subst h1
    rw [tdiv_minus, fits_no] at h
    have := (fits_iff a).1 ha
    omega
  · rw [tdiv_fits ha h0 h1] at h; cases h
theorem quo_zero (a : Int) (ha : fits a = true) (w : World) :
    Calls Try.prog 5 #[.int .i64 a, .int .i64 0] w fun e w' => e = .returned (.bool true) ∧ Grown w w' := by
  have C1 := hide (fun w => do_div_zero a ha w)
  clear ha
  go_enter Try.func5, Try.ntmps5
  go_wp2_with fail
  refine (awake_any _).mono ?_; rintro e w1 ⟨rfl, h1⟩
  go_wp2_with fail
  refine (C1.out _).mono ?_; rintro e w2 ⟨rfl, h2⟩
  go_wp2_with fail
  go_ret
  exact ⟨rfl, grown_trans h1 h2⟩
theorem quo_over (w : World) :
    Calls Try.prog 5 #[.int .i64 (-9223372036854775808), .int .i64 (-1)] w fun e w' => e = .returned (.bool true) ∧ Grown w w' := by
  have C1 := hide (fun w => do_div (-9223372036854775808) (-1) (by decide) (by decide) (by decide) w)
  rw [show val (Int.tdiv (-9223372036854775808) (-1)) = 0 from by decide, show err (Int.tdiv (-9223372036854775808) (-1)) = 11 from by decide] at C1
  go_enter Try.func5, Try.ntmps5
  go_wp2_with fail
  refine (awake_any _).mono ?_; rintro e w1 ⟨rfl, h1⟩
  go_wp2_with fail
  refine (C1.out _).mono ?_; rintro e w2 ⟨rfl, h2⟩
  go_wp2_with fail
  go_ret
  exact ⟨rfl, grown_trans h1 h2⟩
set_option maxHeartbeats 2000000 in
theorem quo_core (a b q p r : Int) (fb1 : -9223372036854775808 ≤ b) (fb2 : b ≤ 9223372036854775807) (fr1 : -9223372036854775808 ≤ r) (fr2 : r ≤ 9223372036854775807)
    (C1 : Hid (∀ w, Calls Try.prog 9 #[.string ⟨#[47]⟩, .int .i64 a, .int .i64 b] w fun e w' => e = .returned (.tuple #[.int .i64 q, .int .i64 0]) ∧ Grown w w'))
    (C2 : Hid (∀ w, Calls Try.prog 9 #[.string ⟨#[42]⟩, .int .i64 q, .int .i64 b] w fun e w' => e = .returned (.tuple #[.int .i64 p, .int .i64 0]) ∧ Grown w w'))
    (C3 : Hid (∀ w, Calls Try.prog 9 #[.string ⟨#[45]⟩, .int .i64 a, .int .i64 p] w fun e w' => e = .returned (.tuple #[.int .i64 r, .int .i64 0]) ∧ Grown w w'))
    (hneg : b < 0 → b < r ∧ r < -b) (hpos : 0 < b → r < b ∧ -b < r) (hb : ¬ b = 0) (hl : a < 0 → r ≤ 0) (hg : 0 ≤ a → 0 ≤ r) (w : World) :
    Calls Try.prog 5 #[.int .i64 a, .int .i64 b] w fun e w' => e = .returned (.bool true) ∧ Grown w w' := by
  have T : (b = -9223372036854775808) ∨ (-9223372036854775808 < b ∧ b < 0) ∨ 0 < b := by omega
  have R : r = 0 ∨ (r < 0 ∧ a < 0) ∨ (0 < r ∧ 0 ≤ a) := by
    by_cases ha : a < 0
    · have := hl ha; omega
    · have := hg (by omega); omega
  rcases T with h | ⟨k1, k2⟩ | h
  · subst h
    have ⟨n1, n2⟩ := hneg (by decide)
    clear hneg hpos hb
    rcases R with hr | ⟨r1, r2⟩ | ⟨r1, r2⟩
    · subst hr
      clear hl hg
      go_enter Try.func5, Try.ntmps5
      go_wp2_with fail
      refine (awake_any _).mono ?_; rintro e w1 ⟨rfl, h1⟩
      go_wp2_with fail
      refine (C1.out _).mono ?_; rintro e w2 ⟨rfl, h2⟩
      go_wp2_with fail
      refine (C2.out _).mono ?_; rintro e w3 ⟨rfl, h3⟩
      go_wp2_with fail
      refine (C3.out _).mono ?_; rintro e w4 ⟨rfl, h4⟩
      go_wp2_with fail
      all_goals go_ret
      all_goals exact ⟨by simp [*], grown_trans h1 (grown_trans h2 (grown_trans h3 h4))⟩
    · have p0 : (r == 0) = false := beq_eq_false_iff_ne.2 (by omega)
      have p1 : decide (r < 0) = true := by simp; omega
      have p2 : decide (a < 0) = true := by simp; omega
      clear hl hg
      go_enter Try.func5, Try.ntmps5
      go_wp2_with fail
      refine (awake_any _).mono ?_; rintro e w1 ⟨rfl, h1⟩
      go_wp2_with fail
      refine (C1.out _).mono ?_; rintro e w2 ⟨rfl, h2⟩
      go_wp2_with fail
      refine (C2.out _).mono ?_; rintro e w3 ⟨rfl, h3⟩
      go_wp2_with fail
      refine (C3.out _).mono ?_; rintro e w4 ⟨rfl, h4⟩
      go_wp2_with fail
      all_goals go_ret
      all_goals exact ⟨by simp [*], grown_trans h1 (grown_trans h2 (grown_trans h3 h4))⟩
    · have p0 : (r == 0) = false := beq_eq_false_iff_ne.2 (by omega)
      have p1 : decide (r < 0) = false := by simp; omega
      have p2 : decide (a < 0) = false := by simp; omega
      clear hl hg
      go_enter Try.func5, Try.ntmps5
      go_wp2_with fail
      refine (awake_any _).mono ?_; rintro e w1 ⟨rfl, h1⟩
      go_wp2_with fail
      refine (C1.out _).mono ?_; rintro e w2 ⟨rfl, h2⟩
      go_wp2_with fail
      refine (C2.out _).mono ?_; rintro e w3 ⟨rfl, h3⟩
      go_wp2_with fail
      refine (C3.out _).mono ?_; rintro e w4 ⟨rfl, h4⟩
      go_wp2_with fail
      all_goals go_ret
      all_goals exact ⟨by simp [*], grown_trans h1 (grown_trans h2 (grown_trans h3 h4))⟩
  · have ⟨n1, n2⟩ := hneg k2
    clear hneg hpos hb
    rcases R with hr | ⟨r1, r2⟩ | ⟨r1, r2⟩
    · subst hr
      clear hl hg
      go_enter Try.func5, Try.ntmps5
      go_wp2_with fail
      refine (awake_any _).mono ?_; rintro e w1 ⟨rfl, h1⟩
      go_wp2_with fail
      refine (C1.out _).mono ?_; rintro e w2 ⟨rfl, h2⟩
      go_wp2_with fail
      refine (C2.out _).mono ?_; rintro e w3 ⟨rfl, h3⟩
      go_wp2_with fail
      refine (C3.out _).mono ?_; rintro e w4 ⟨rfl, h4⟩
      go_wp2_with fail
      all_goals go_ret
      all_goals exact ⟨by simp [*], grown_trans h1 (grown_trans h2 (grown_trans h3 h4))⟩
    · have p0 : (r == 0) = false := beq_eq_false_iff_ne.2 (by omega)
      have p1 : decide (r < 0) = true := by simp; omega
      have p2 : decide (a < 0) = true := by simp; omega
      clear hl hg
      go_enter Try.func5, Try.ntmps5
      go_wp2_with fail
      refine (awake_any _).mono ?_; rintro e w1 ⟨rfl, h1⟩
      go_wp2_with fail
      refine (C1.out _).mono ?_; rintro e w2 ⟨rfl, h2⟩
      go_wp2_with fail
      refine (C2.out _).mono ?_; rintro e w3 ⟨rfl, h3⟩
      go_wp2_with fail
      refine (C3.out _).mono ?_; rintro e w4 ⟨rfl, h4⟩
      go_wp2_with fail
      all_goals go_ret
      all_goals exact ⟨by simp [*], grown_trans h1 (grown_trans h2 (grown_trans h3 h4))⟩
    · have p0 : (r == 0) = false := beq_eq_false_iff_ne.2 (by omega)
      have p1 : decide (r < 0) = false := by simp; omega
      have p2 : decide (a < 0) = false := by simp; omega
      clear hl hg
      go_enter Try.func5, Try.ntmps5
      go_wp2_with fail
      refine (awake_any _).mono ?_; rintro e w1 ⟨rfl, h1⟩
      go_wp2_with fail
      refine (C1.out _).mono ?_; rintro e w2 ⟨rfl, h2⟩
      go_wp2_with fail
      refine (C2.out _).mono ?_; rintro e w3 ⟨rfl, h3⟩
      go_wp2_with fail
      refine (C3.out _).mono ?_; rintro e w4 ⟨rfl, h4⟩
      go_wp2_with fail
      all_goals go_ret
      all_goals exact ⟨by simp [*], grown_trans h1 (grown_trans h2 (grown_trans h3 h4))⟩
  · have ⟨n1, n2⟩ := hpos h
    clear hneg hpos hb
    rcases R with hr | ⟨r1, r2⟩ | ⟨r1, r2⟩
    · subst hr
      clear hl hg
      go_enter Try.func5, Try.ntmps5
      go_wp2_with fail
      refine (awake_any _).mono ?_; rintro e w1 ⟨rfl, h1⟩
      go_wp2_with fail
      refine (C1.out _).mono ?_; rintro e w2 ⟨rfl, h2⟩
      go_wp2_with fail
      refine (C2.out _).mono ?_; rintro e w3 ⟨rfl, h3⟩
      go_wp2_with fail
      refine (C3.out _).mono ?_; rintro e w4 ⟨rfl, h4⟩
      go_wp2_with fail
      all_goals go_ret
      all_goals exact ⟨by simp [*], grown_trans h1 (grown_trans h2 (grown_trans h3 h4))⟩
    · have p0 : (r == 0) = false := beq_eq_false_iff_ne.2 (by omega)
      have p1 : decide (r < 0) = true := by simp; omega
      have p2 : decide (a < 0) = true := by simp; omega
      clear hl hg
      go_enter Try.func5, Try.ntmps5
      go_wp2_with fail
      refine (awake_any _).mono ?_; rintro e w1 ⟨rfl, h1⟩
      go_wp2_with fail
      refine (C1.out _).mono ?_; rintro e w2 ⟨rfl, h2⟩
      go_wp2_with fail
      refine (C2.out _).mono ?_; rintro e w3 ⟨rfl, h3⟩
      go_wp2_with fail
      refine (C3.out _).mono ?_; rintro e w4 ⟨rfl, h4⟩
      go_wp2_with fail
      all_goals go_ret
      all_goals exact ⟨by simp [*], grown_trans h1 (grown_trans h2 (grown_trans h3 h4))⟩
    · have p0 : (r == 0) = false := beq_eq_false_iff_ne.2 (by omega)
      have p1 : decide (r < 0) = false := by simp; omega
      have p2 : decide (a < 0) = false := by simp; omega
      clear hl hg
      go_enter Try.func5, Try.ntmps5
      go_wp2_with fail
      refine (awake_any _).mono ?_; rintro e w1 ⟨rfl, h1⟩
      go_wp2_with fail
      refine (C1.out _).mono ?_; rintro e w2 ⟨rfl, h2⟩
      go_wp2_with fail
      refine (C2.out _).mono ?_; rintro e w3 ⟨rfl, h3⟩
      go_wp2_with fail
      refine (C3.out _).mono ?_; rintro e w4 ⟨rfl, h4⟩
      go_wp2_with fail
      all_goals go_ret
      all_goals exact ⟨by simp [*], grown_trans h1 (grown_trans h2 (grown_trans h3 h4))⟩

theorem quo_walk (a0 a1 : Int) (w0 : (Lit.int .i64 a0).wf = true) (w1 : (Lit.int .i64 a1).wf = true) (w : World) :
    Calls Try.prog 5 #[.int .i64 a0, .int .i64 a1] w fun e w' => e = .returned (.bool true) ∧ Grown w w' := by
  have ha := wf64 w0
  have hb := wf64 w1
  by_cases h0 : a1 = 0
  · subst h0; exact quo_zero a0 ha w
  cases hf : fits (a0.tdiv a1)
  · obtain ⟨rfl, rfl⟩ := tdiv_no a0 a1 ha h0 hf
    exact quo_over w
  · obtain ⟨f1, f2, k1, k2, k3, k4⟩ := rem_facts a0 a1 ha h0
    have C1 := hide (fun w => do_div a0 a1 ha hb h0 w)
    have C2 := hide (fun w => do_mul (a0.tdiv a1) a1 hf hb w)
    have C3 := hide (fun w => do_sub a0 (a0.tdiv a1 * a1) ha f1 w)
    rw [val_of hf, err_of hf] at C1
    rw [val_of f1, err_of f1] at C2
    rw [val_of f2, err_of f2] at C3
    have ⟨b1, b2⟩ := (fits_iff _).1 hb
    have ⟨r1, r2⟩ := (fits_iff _).1 f2
    exact quo_core a0 a1 _ _ _ b1 b2 r1 r2 C1 C2 C3 k1 k2 h0 k3 k4 w
end Go.Proofs.Ytkalbincljpceaa
