/-
  What the document's answer returns (the reference's Do, Holds, Is), op by op; and num.Is.
-/
import Derived.Test.YtkalbincljpceaaQuoWalk
namespace Go.Proofs.Ytkalbincljpceaa
open Go.RowKit

/-! ### The plain part: a product that wraps is told by its quotient -/
theorem wrap_mul_back {a b : Int} (hb : fits b = true) (h0 : ¬ b = 0) : ((wrap64 (a * b)).tdiv b != a) = !fits (a * b) := by
  cases hf : fits (a * b)
  · simp only [Bool.not_false, bne_iff_ne]
    intro h
    have e := Int.tdiv_mul_add_tmod (wrap64 (a * b)) b
    rw [h] at e
    have hm : ((wrap64 (a * b)).tmod b).natAbs = (wrap64 (a * b)).natAbs % b.natAbs := Int.natAbs_tmod _ b
    have hl : (wrap64 (a * b)).natAbs % b.natAbs < b.natAbs := Nat.mod_lt _ (by omega)
    obtain ⟨b1, b2⟩ := (fits_iff b).1 hb
    rw [fits_no] at hf
    simp only [wrap64] at *
    generalize a * b = m at *
    omega
  · rw [wrap64_fits hf, Int.mul_tdiv_cancel _ h0]
    simp

theorem radd (a b : Int) (ha : fits a = true) (hb : fits b = true) (w : World) :
    Calls Try.prog 20 #[.int .i64 a, .int .i64 b] w fun e w' => e = .returned (.tuple #[.int .i64 (val (a + b)), .int .i64 (err (a + b))]) ∧ w' = w := by
  have ⟨a1, a2⟩ := (fits_iff a).1 ha
  have ⟨b1, b2⟩ := (fits_iff b).1 hb
  clear ha hb
  have T : b < 0 ∨ b = 0 ∨ 0 < b := by omega
  cases hf : fits (a + b)
  · rw [val_no hf, err_no hf]
    rw [fits_no] at hf
    rcases T with h | h | h
    · have k : (a + b) < -9223372036854775808 ∨ 9223372036854775807 < (a + b) := hf
      have n : ¬ 0 < b := by omega
      have k' : a < -9223372036854775808 - b := by omega
      clear hf k
      go_enter Try.func20, Try.ntmps20
      go_wp2
      all_goals go_ret2
      all_goals exact ⟨rfl, rfl⟩
    · omega
    · have k' : 9223372036854775807 - b < a := by omega
      have n : ¬ b < 0 := by omega
      clear hf
      go_enter Try.func20, Try.ntmps20
      go_wp2
      all_goals go_ret2
      all_goals exact ⟨rfl, rfl⟩
  · rw [val_of hf, err_of hf]
    have ⟨f1, f2⟩ := (fits_iff _).1 hf
    clear hf
    rcases T with h | h | h
    · have n : ¬ 0 < b := by omega
      have k' : ¬ a < -9223372036854775808 - b := by omega
      go_enter Try.func20, Try.ntmps20
      go_wp2
      all_goals go_ret2
      all_goals exact ⟨rfl, rfl⟩
    · subst h
      go_enter Try.func20, Try.ntmps20
      go_wp2
      all_goals go_ret2
      all_goals exact ⟨by simp, rfl⟩
    · have n : ¬ b < 0 := by omega
      have k' : ¬ 9223372036854775807 - b < a := by omega
      go_enter Try.func20, Try.ntmps20
      go_wp2
      all_goals go_ret2
      all_goals exact ⟨rfl, rfl⟩

theorem rsub (a b : Int) (ha : fits a = true) (hb : fits b = true) (w : World) :
    Calls Try.prog 21 #[.int .i64 a, .int .i64 b] w fun e w' => e = .returned (.tuple #[.int .i64 (val (a - b)), .int .i64 (err (a - b))]) ∧ w' = w := by
  have ⟨a1, a2⟩ := (fits_iff a).1 ha
  have ⟨b1, b2⟩ := (fits_iff b).1 hb
  clear ha hb
  have T : b < 0 ∨ b = 0 ∨ 0 < b := by omega
  cases hf : fits (a - b)
  · rw [val_no hf, err_no hf]
    rw [fits_no] at hf
    rcases T with h | h | h
    · have k : (a - b) < -9223372036854775808 ∨ 9223372036854775807 < (a - b) := hf
      have n : ¬ 0 < b := by omega
      have k' : 9223372036854775807 + b < a := by omega
      clear hf k
      go_enter Try.func21, Try.ntmps21
      go_wp2
      all_goals go_ret2
      all_goals exact ⟨rfl, rfl⟩
    · omega
    · have k' : a < -9223372036854775808 + b := by omega
      have n : ¬ b < 0 := by omega
      clear hf
      go_enter Try.func21, Try.ntmps21
      go_wp2
      all_goals go_ret2
      all_goals exact ⟨rfl, rfl⟩
  · rw [val_of hf, err_of hf]
    have ⟨f1, f2⟩ := (fits_iff _).1 hf
    clear hf
    rcases T with h | h | h
    · have n : ¬ 0 < b := by omega
      have k' : ¬ 9223372036854775807 + b < a := by omega
      go_enter Try.func21, Try.ntmps21
      go_wp2
      all_goals go_ret2
      all_goals exact ⟨rfl, rfl⟩
    · subst h
      go_enter Try.func21, Try.ntmps21
      go_wp2
      all_goals go_ret2
      all_goals exact ⟨by simp, rfl⟩
    · have n : ¬ b < 0 := by omega
      have k' : ¬ a < -9223372036854775808 + b := by omega
      go_enter Try.func21, Try.ntmps21
      go_wp2
      all_goals go_ret2
      all_goals exact ⟨rfl, rfl⟩

theorem mul_neg_one_fits (a : Int) : a * -1 = -a := by omega

theorem rmul (a b : Int) (ha : fits a = true) (hb : fits b = true) (w : World) :
    Calls Try.prog 22 #[.int .i64 a, .int .i64 b] w fun e w' => e = .returned (.tuple #[.int .i64 (val (a * b)), .int .i64 (err (a * b))]) ∧ w' = w := by
  have ⟨a1, a2⟩ := (fits_iff a).1 ha
  have ⟨b1, b2⟩ := (fits_iff b).1 hb
  by_cases hb0 : b = 0
  · subst hb0
    rw [Int.mul_zero, show val 0 = 0 from by decide, show err 0 = 0 from by decide]
    clear ha hb
    by_cases ha0 : a = 0
    · subst ha0
      go_enter Try.func22, Try.ntmps22
      go_wp2
      all_goals go_ret2
      all_goals exact ⟨rfl, rfl⟩
    · have p0 : (a == 0) = false := beq_eq_false_iff_ne.2 ha0
      go_enter Try.func22, Try.ntmps22
      go_wp2
      all_goals go_ret2
      all_goals exact ⟨rfl, rfl⟩
  have q0 : (b == 0) = false := beq_eq_false_iff_ne.2 hb0
  by_cases ha0 : a = 0
  · subst ha0
    rw [Int.zero_mul, show val 0 = 0 from by decide, show err 0 = 0 from by decide]
    clear ha hb
    go_enter Try.func22, Try.ntmps22
    go_wp2
    all_goals go_ret2
    all_goals exact ⟨rfl, rfl⟩
  have p0 : (a == 0) = false := beq_eq_false_iff_ne.2 ha0
  by_cases hb1 : b = -1
  · subst hb1
    rw [mul_neg_one_fits]
    by_cases ha1 : a = -9223372036854775808
    · subst ha1
      rw [show val (- -9223372036854775808) = 0 from by decide, show err (- -9223372036854775808) = 11 from by decide]
      clear ha hb
      go_enter Try.func22, Try.ntmps22
      go_wp2
      all_goals go_ret2
      all_goals exact ⟨rfl, rfl⟩
    · have hf : fits (-a) = true := by rw [fits_iff]; omega
      rw [val_of hf, err_of hf]
      have p1 : (a == -9223372036854775808) = false := beq_eq_false_iff_ne.2 ha1
      clear ha hb hf
      by_cases ha2 : a = -1
      · subst ha2
        go_enter Try.func22, Try.ntmps22
        go_wp2
        all_goals go_ret2
        all_goals exact ⟨rfl, rfl⟩
      · have p2 : (a == -1) = false := beq_eq_false_iff_ne.2 ha2
        go_enter Try.func22, Try.ntmps22
        go_wp2
        all_goals go_ret2
        all_goals exact ⟨rfl, rfl⟩
  have q1 : (b == -1) = false := beq_eq_false_iff_ne.2 hb1
  by_cases ha1 : a = -1
  · subst ha1
    by_cases hb2 : b = -9223372036854775808
    · subst hb2
      rw [show val (-1 * -9223372036854775808) = 0 from by decide, show err (-1 * -9223372036854775808) = 11 from by decide]
      clear ha hb
      go_enter Try.func22, Try.ntmps22
      go_wp2
      all_goals go_ret2
      all_goals exact ⟨rfl, rfl⟩
    · have e : -1 * b = -b := by omega
      have hf : fits (-b) = true := by rw [fits_iff]; omega
      rw [e, val_of hf, err_of hf]
      have q2 : (b == -9223372036854775808) = false := beq_eq_false_iff_ne.2 hb2
      have t : (-b).tdiv b = -1 := by rw [Int.neg_tdiv, Int.tdiv_self hb0]
      clear ha hb hf
      go_enter Try.func22, Try.ntmps22
      go_wp2
      all_goals go_ret2
      all_goals exact ⟨rfl, rfl⟩
  have p1 : (a == -1) = false := beq_eq_false_iff_ne.2 ha1
  have hq := wrap_mul_back (a := a) hb hb0
  have ht : wrap64 ((wrap64 (a * b)).tdiv b) = (wrap64 (a * b)).tdiv b := wrap64_fits (tdiv_fits (by rw [fits_iff]; simp only [wrap64]; omega) hb0 hb1)
  cases hf : fits (a * b)
  · rw [val_no hf, err_no hf]
    rw [hf] at hq
    have hq' : ((wrap64 (a * b)).tdiv b != a) = true := hq
    clear ha hb hf hb1 ha1 ha0 hq
    go_enter Try.func22, Try.ntmps22
    go_wp2
    all_goals go_ret2
    all_goals exact ⟨rfl, rfl⟩
  · rw [val_of hf, err_of hf]
    have t : (a * b).tdiv b = a := Int.mul_tdiv_cancel _ hb0
    have ⟨f1, f2⟩ := (fits_iff _).1 hf
    clear ha hb hf hb1 ha1 ha0 hq ht
    go_enter Try.func22, Try.ntmps22
    go_wp2
    all_goals go_ret2
    all_goals exact ⟨rfl, rfl⟩

theorem rdiv_zero (a : Int) (w : World) :
    Calls Try.prog 23 #[.int .i64 a, .int .i64 0] w fun e w' => e = .returned (.tuple #[.int .i64 0, .int .i64 12]) ∧ w' = w := by
  go_enter Try.func23, Try.ntmps23
  go_wp2
  all_goals go_ret2
  all_goals exact ⟨rfl, rfl⟩

theorem rdiv (a b : Int) (ha : fits a = true) (h0 : ¬ b = 0) (w : World) :
    Calls Try.prog 23 #[.int .i64 a, .int .i64 b] w fun e w' => e = .returned (.tuple #[.int .i64 (val (a.tdiv b)), .int .i64 (err (a.tdiv b))]) ∧ w' = w := by
  have q0 : (b == 0) = false := beq_eq_false_iff_ne.2 h0
  have ⟨a1, a2⟩ := (fits_iff a).1 ha
  cases hf : fits (a.tdiv b)
  · obtain ⟨rfl, rfl⟩ := tdiv_no a b ha h0 hf
    rw [val_no hf, err_no hf]
    clear ha hf
    go_enter Try.func23, Try.ntmps23
    go_wp2
    all_goals go_ret2
    all_goals exact ⟨rfl, rfl⟩
  · rw [val_of hf, err_of hf]
    have X := hide (wrap64_fits hf)
    by_cases h1 : a = -9223372036854775808
    · subst h1
      have h2 : ¬ b = -1 := by
        intro h; subst h; revert hf; decide
      have q1 : (b == -1) = false := beq_eq_false_iff_ne.2 h2
      clear ha hf
      go_enter Try.func23, Try.ntmps23
      go_wp2
      all_goals go_ret2
      all_goals exact ⟨by simp; rw [← Int.neg_tdiv]; exact X.out, rfl⟩
    · have p1 : (a == -9223372036854775808) = false := beq_eq_false_iff_ne.2 h1
      clear ha hf
      go_enter Try.func23, Try.ntmps23
      go_wp2
      all_goals go_ret2
      all_goals exact ⟨by simp [X.out], rfl⟩

theorem rdo_add (a b : Int) (ha : fits a = true) (hb : fits b = true) (w : World) :
    Calls Try.prog 10 #[.string ⟨#[43]⟩, .int .i64 a, .int .i64 b] w fun e w' => e = .returned (.tuple #[.int .i64 (val (a + b)), .int .i64 (err (a + b))]) ∧ w' = w := by
  have C := hide (fun w => radd a b ha hb w)
  generalize val (a + b) = p at *
  generalize err (a + b) = q at *
  clear ha hb
  go_enter Try.func10, Try.ntmps10
  go_wp2_with fail
  refine (C.out _).mono ?_; rintro e w1 ⟨rfl, rfl⟩
  go_wp2_with fail
  go_ret2
  exact ⟨rfl, rfl⟩

theorem rdo_sub (a b : Int) (ha : fits a = true) (hb : fits b = true) (w : World) :
    Calls Try.prog 10 #[.string ⟨#[45]⟩, .int .i64 a, .int .i64 b] w fun e w' => e = .returned (.tuple #[.int .i64 (val (a - b)), .int .i64 (err (a - b))]) ∧ w' = w := by
  have C := hide (fun w => rsub a b ha hb w)
  generalize val (a - b) = p at *
  generalize err (a - b) = q at *
  clear ha hb
  go_enter Try.func10, Try.ntmps10
  go_wp2_with fail
  refine (C.out _).mono ?_; rintro e w1 ⟨rfl, rfl⟩
  go_wp2_with fail
  go_ret2
  exact ⟨rfl, rfl⟩

theorem rdo_mul (a b : Int) (ha : fits a = true) (hb : fits b = true) (w : World) :
    Calls Try.prog 10 #[.string ⟨#[42]⟩, .int .i64 a, .int .i64 b] w fun e w' => e = .returned (.tuple #[.int .i64 (val (a * b)), .int .i64 (err (a * b))]) ∧ w' = w := by
  have C := hide (fun w => rmul a b ha hb w)
  generalize val (a * b) = p at *
  generalize err (a * b) = q at *
  clear ha hb
  go_enter Try.func10, Try.ntmps10
  go_wp2_with fail
  refine (C.out _).mono ?_; rintro e w1 ⟨rfl, rfl⟩
  go_wp2_with fail
  go_ret2
  exact ⟨rfl, rfl⟩

theorem rdo_div_zero (a : Int) (w : World) :
    Calls Try.prog 10 #[.string ⟨#[47]⟩, .int .i64 a, .int .i64 0] w fun e w' => e = .returned (.tuple #[.int .i64 0, .int .i64 12]) ∧ w' = w := by
  go_enter Try.func10, Try.ntmps10
  go_wp2_with fail
  refine (rdiv_zero _ _).mono ?_; rintro e w1 ⟨rfl, rfl⟩
  go_wp2_with fail
  go_ret2
  exact ⟨rfl, rfl⟩

theorem rdo_div (a b : Int) (ha : fits a = true) (h0 : ¬ b = 0) (w : World) :
    Calls Try.prog 10 #[.string ⟨#[47]⟩, .int .i64 a, .int .i64 b] w fun e w' => e = .returned (.tuple #[.int .i64 (val (a.tdiv b)), .int .i64 (err (a.tdiv b))]) ∧ w' = w := by
  have C := hide (fun w => rdiv a b ha h0 w)
  generalize val (a.tdiv b) = p at *
  generalize err (a.tdiv b) = q at *
  clear ha h0
  go_enter Try.func10, Try.ntmps10
  go_wp2_with fail
  refine (C.out _).mono ?_; rintro e w1 ⟨rfl, rfl⟩
  go_wp2_with fail
  go_ret2
  exact ⟨rfl, rfl⟩

theorem rdo_else (s : ByteArray) (a b : Int) (h1 : (s.toList == [43]) = false) (h2 : (s.toList == [45]) = false) (h3 : (s.toList == [42]) = false) (h4 : (s.toList == [47]) = false) (w : World) :
    Calls Try.prog 10 #[.string s, .int .i64 a, .int .i64 b] w fun e w' => e = .returned (.tuple #[.int .i64 0, .int .i64 1]) ∧ w' = w := by
  go_enter Try.func10, Try.ntmps10
  go_wp2
  all_goals go_ret2
  all_goals exact ⟨rfl, rfl⟩

theorem rholds_eq (a b : Int) (w : World) :
    Calls Try.prog 12 #[.string ⟨#[61, 61]⟩, .int .i64 a, .int .i64 b] w fun e w' => e = .returned (.tuple #[.bool (a == b), .int .i64 0]) ∧ w' = w := by
  go_enter Try.func12, Try.ntmps12
  go_wp2
  all_goals go_ret2
  all_goals exact ⟨rfl, rfl⟩

theorem rholds_lt (a b : Int) (w : World) :
    Calls Try.prog 12 #[.string ⟨#[60]⟩, .int .i64 a, .int .i64 b] w fun e w' => e = .returned (.tuple #[.bool (decide (a < b)), .int .i64 0]) ∧ w' = w := by
  go_enter Try.func12, Try.ntmps12
  go_wp2
  all_goals go_ret2
  all_goals exact ⟨rfl, rfl⟩

theorem rholds_else (s : ByteArray) (a b : Int) (h1 : (s.toList == [61, 61]) = false) (h2 : (s.toList == [60]) = false) (w : World) :
    Calls Try.prog 12 #[.string s, .int .i64 a, .int .i64 b] w fun e w' => e = .returned (.tuple #[.bool false, .int .i64 1]) ∧ w' = w := by
  go_enter Try.func12, Try.ntmps12
  go_wp2
  all_goals go_ret2
  all_goals exact ⟨rfl, rfl⟩
theorem is_add (w : World) : Calls Try.prog 13 #[.string ⟨#[43]⟩] w fun e w' => e = .returned (.tuple #[.bool true, .bool false]) ∧ w' = w := by
  go_enter Try.func13, Try.ntmps13
  go_wp2
  all_goals go_ret2
  all_goals exact ⟨rfl, rfl⟩
theorem ris_add (w : World) : Calls Try.prog 14 #[.string ⟨#[43]⟩] w fun e w' => e = .returned (.tuple #[.bool true, .bool false]) ∧ w' = w := by
  go_enter Try.func14, Try.ntmps14
  go_wp2
  all_goals go_ret2
  all_goals exact ⟨rfl, rfl⟩
theorem is_sub (w : World) : Calls Try.prog 13 #[.string ⟨#[45]⟩] w fun e w' => e = .returned (.tuple #[.bool true, .bool false]) ∧ w' = w := by
  go_enter Try.func13, Try.ntmps13
  go_wp2
  all_goals go_ret2
  all_goals exact ⟨rfl, rfl⟩
theorem ris_sub (w : World) : Calls Try.prog 14 #[.string ⟨#[45]⟩] w fun e w' => e = .returned (.tuple #[.bool true, .bool false]) ∧ w' = w := by
  go_enter Try.func14, Try.ntmps14
  go_wp2
  all_goals go_ret2
  all_goals exact ⟨rfl, rfl⟩
theorem is_mul (w : World) : Calls Try.prog 13 #[.string ⟨#[42]⟩] w fun e w' => e = .returned (.tuple #[.bool true, .bool false]) ∧ w' = w := by
  go_enter Try.func13, Try.ntmps13
  go_wp2
  all_goals go_ret2
  all_goals exact ⟨rfl, rfl⟩
theorem ris_mul (w : World) : Calls Try.prog 14 #[.string ⟨#[42]⟩] w fun e w' => e = .returned (.tuple #[.bool true, .bool false]) ∧ w' = w := by
  go_enter Try.func14, Try.ntmps14
  go_wp2
  all_goals go_ret2
  all_goals exact ⟨rfl, rfl⟩
theorem is_div (w : World) : Calls Try.prog 13 #[.string ⟨#[47]⟩] w fun e w' => e = .returned (.tuple #[.bool true, .bool false]) ∧ w' = w := by
  go_enter Try.func13, Try.ntmps13
  go_wp2
  all_goals go_ret2
  all_goals exact ⟨rfl, rfl⟩
theorem ris_div (w : World) : Calls Try.prog 14 #[.string ⟨#[47]⟩] w fun e w' => e = .returned (.tuple #[.bool true, .bool false]) ∧ w' = w := by
  go_enter Try.func14, Try.ntmps14
  go_wp2
  all_goals go_ret2
  all_goals exact ⟨rfl, rfl⟩
theorem is_lt (w : World) : Calls Try.prog 13 #[.string ⟨#[60]⟩] w fun e w' => e = .returned (.tuple #[.bool false, .bool true]) ∧ w' = w := by
  go_enter Try.func13, Try.ntmps13
  go_wp2
  all_goals go_ret2
  all_goals exact ⟨rfl, rfl⟩
theorem ris_lt (w : World) : Calls Try.prog 14 #[.string ⟨#[60]⟩] w fun e w' => e = .returned (.tuple #[.bool false, .bool true]) ∧ w' = w := by
  go_enter Try.func14, Try.ntmps14
  go_wp2
  all_goals go_ret2
  all_goals exact ⟨rfl, rfl⟩
theorem is_eq (w : World) : Calls Try.prog 13 #[.string ⟨#[61, 61]⟩] w fun e w' => e = .returned (.tuple #[.bool false, .bool true]) ∧ w' = w := by
  go_enter Try.func13, Try.ntmps13
  go_wp2
  all_goals go_ret2
  all_goals exact ⟨rfl, rfl⟩
theorem ris_eq (w : World) : Calls Try.prog 14 #[.string ⟨#[61, 61]⟩] w fun e w' => e = .returned (.tuple #[.bool false, .bool true]) ∧ w' = w := by
  go_enter Try.func14, Try.ntmps14
  go_wp2
  all_goals go_ret2
  all_goals exact ⟨rfl, rfl⟩
theorem is_else (s : ByteArray) (h1 : (s.toList == [43]) = false) (h2 : (s.toList == [45]) = false) (h3 : (s.toList == [42]) = false) (h4 : (s.toList == [47]) = false) (h5 : (s.toList == [61, 61]) = false) (h6 : (s.toList == [60]) = false) (w : World) :
    Calls Try.prog 13 #[.string s] w fun e w' => e = .returned (.tuple #[.bool false, .bool false]) ∧ w' = w := by
  go_enter Try.func13, Try.ntmps13
  go_wp2
  all_goals go_ret2
  all_goals exact ⟨rfl, rfl⟩
theorem ris_else (s : ByteArray) (h1 : (s.toList == [43]) = false) (h2 : (s.toList == [45]) = false) (h3 : (s.toList == [42]) = false) (h4 : (s.toList == [47]) = false) (h5 : (s.toList == [61, 61]) = false) (h6 : (s.toList == [60]) = false) (w : World) :
    Calls Try.prog 14 #[.string s] w fun e w' => e = .returned (.tuple #[.bool false, .bool false]) ∧ w' = w := by
  go_enter Try.func14, Try.ntmps14
  go_wp2
  all_goals go_ret2
  all_goals exact ⟨rfl, rfl⟩
end Go.Proofs.Ytkalbincljpceaa
