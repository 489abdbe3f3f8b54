/-
  num.Do, num.Holds, num.Is: what each call returns, op by op.
-/
import Derived.Test.YtkalbincljpceaaHalves
namespace Go.Proofs.Ytkalbincljpceaa
open Go.RowKit

theorem grown_trans {a b c : World} (h : Grown a b) (g : Grown b c) : Grown a c :=
  ⟨World.keptBut_trans h.1 g.1, fun x => (g.2.1 x).trans (h.2.1 x), Nat.le_trans h.2.2 g.2.2⟩
theorem wrap64_fits {n : Int} (h : fits n = true) : wrap64 n = n := by
  have := (fits_iff n).1 h; simp only [wrap64]; omega

theorem do_add (a b : Int) (ha : fits a = true) (hb : fits b = true) (w : World) :
    Calls Try.prog 9 #[.string ⟨#[43]⟩, .int .i64 a, .int .i64 b] w fun e w' => e = .returned (.tuple #[.int .i64 (val (a + b)), .int .i64 (err (a + b))]) ∧ Grown w w' := by
  have ⟨a1, a2⟩ := (fits_iff a).1 ha
  have ⟨b1, b2⟩ := (fits_iff b).1 hb
  go_enter Try.func9, Try.ntmps9
  go_wp2_with fail
  refine (widen_any _ ha _).mono ?_; rintro e w' ⟨rfl, c, rfl⟩
  go_wp2_with fail
  refine (widen_any _ hb _).mono ?_; rintro e w' ⟨rfl, c', rfl⟩
  go_wp2_with fail
  refine (sum_any _ _ _).mono ?_; rintro e w' ⟨rfl, c1, c2, c3, rfl⟩
  go_wp2_with fail
  refine (narrow_any _ (by omega) (by omega) _).mono ?_; rintro e w' ⟨rfl, hg⟩
  go_wp2_with fail
  go_ret2
  exact ⟨rfl, grown_trans (by repeat (first | exact Grown.refl _ | apply Grown.drew | apply Grown.alloc)) hg⟩

theorem do_sub (a b : Int) (ha : fits a = true) (hb : fits b = true) (w : World) :
    Calls Try.prog 9 #[.string ⟨#[45]⟩, .int .i64 a, .int .i64 b] w fun e w' => e = .returned (.tuple #[.int .i64 (val (a - b)), .int .i64 (err (a - b))]) ∧ Grown w w' := by
  have ⟨a1, a2⟩ := (fits_iff a).1 ha
  have ⟨b1, b2⟩ := (fits_iff b).1 hb
  rw [show a - b = a + -b from by omega]
  go_enter Try.func9, Try.ntmps9
  go_wp2_with fail
  refine (widen_any _ ha _).mono ?_; rintro e w' ⟨rfl, c, rfl⟩
  go_wp2_with fail
  refine (widen_any _ hb _).mono ?_; rintro e w' ⟨rfl, c', rfl⟩
  go_wp2_with fail
  refine (opposite_any _ _).mono ?_; rintro e w' ⟨rfl, c4, c5, rfl⟩
  go_wp2_with fail
  refine (sum_any _ _ _).mono ?_; rintro e w' ⟨rfl, c1, c2, c3, rfl⟩
  go_wp2_with fail
  refine (narrow_any _ (by omega) (by omega) _).mono ?_; rintro e w' ⟨rfl, hg⟩
  go_wp2_with fail
  go_ret2
  exact ⟨rfl, grown_trans (by repeat (first | exact Grown.refl _ | apply Grown.drew | apply Grown.alloc)) hg⟩

theorem do_mul (a b : Int) (ha : fits a = true) (hb : fits b = true) (w : World) :
    Calls Try.prog 9 #[.string ⟨#[42]⟩, .int .i64 a, .int .i64 b] w fun e w' => e = .returned (.tuple #[.int .i64 (val (a * b)), .int .i64 (err (a * b))]) ∧ Grown w w' := by
  have ⟨m1, m2⟩ := mul_bd ha hb
  go_enter Try.func9, Try.ntmps9
  go_wp2_with fail
  refine (widen_any _ ha _).mono ?_; rintro e w' ⟨rfl, c, rfl⟩
  go_wp2_with fail
  refine (widen_any _ hb _).mono ?_; rintro e w' ⟨rfl, c', rfl⟩
  go_wp2_with fail
  refine (product_any _ _ _).mono ?_; rintro e w' ⟨rfl, c1, c2, c3, rfl⟩
  go_wp2_with fail
  refine (narrow_any _ (by omega) (by omega) _).mono ?_; rintro e w' ⟨rfl, hg⟩
  go_wp2_with fail
  go_ret2
  exact ⟨rfl, grown_trans (by repeat (first | exact Grown.refl _ | apply Grown.drew | apply Grown.alloc)) hg⟩

theorem do_div_zero (a : Int) (ha : fits a = true) (w : World) :
    Calls Try.prog 9 #[.string ⟨#[47]⟩, .int .i64 a, .int .i64 0] w fun e w' => e = .returned (.tuple #[.int .i64 0, .int .i64 12]) ∧ Grown w w' := by
  have hb : fits 0 = true := by decide
  go_enter Try.func9, Try.ntmps9
  go_wp2_with fail
  refine (widen_any _ ha _).mono ?_; rintro e w' ⟨rfl, c, rfl⟩
  go_wp2_with fail
  refine (widen_any _ hb _).mono ?_; rintro e w' ⟨rfl, c', rfl⟩
  go_wp2_with fail
  go_ret2
  exact ⟨rfl, (by repeat (first | exact Grown.refl _ | apply Grown.drew | apply Grown.alloc))⟩

theorem do_div_minus (a : Int) (ha : fits a = true) (w : World) :
    Calls Try.prog 9 #[.string ⟨#[47]⟩, .int .i64 a, .int .i64 (-1)] w fun e w' => e = .returned (.tuple #[.int .i64 (val (a.tdiv (-1))), .int .i64 (err (a.tdiv (-1)))]) ∧ Grown w w' := by
  have hb : fits (-1) = true := by decide
  have ⟨m1, m2⟩ := mul_bd ha hb
  rw [tdiv_minus]
  go_enter Try.func9, Try.ntmps9
  go_wp2_with fail
  refine (widen_any _ ha _).mono ?_; rintro e w' ⟨rfl, c, rfl⟩
  go_wp2_with fail
  refine (widen_any _ hb _).mono ?_; rintro e w' ⟨rfl, c', rfl⟩
  go_wp2_with fail
  refine (product_any _ _ _).mono ?_; rintro e w' ⟨rfl, c1, c2, c3, rfl⟩
  go_wp2_with fail
  refine (narrow_any _ (by omega) (by omega) _).mono ?_; rintro e w' ⟨rfl, hg⟩
  go_wp2_with fail
  go_ret2
  exact ⟨rfl, grown_trans (by repeat (first | exact Grown.refl _ | apply Grown.drew | apply Grown.alloc)) hg⟩

theorem do_div_plain (a b : Int) (ha : fits a = true) (hb : fits b = true) (h0 : ¬ b = 0) (h1 : ¬ b = -1) (w : World) :
    Calls Try.prog 9 #[.string ⟨#[47]⟩, .int .i64 a, .int .i64 b] w fun e w' => e = .returned (.tuple #[.int .i64 (val (a.tdiv b)), .int .i64 (err (a.tdiv b))]) ∧ Grown w w' := by
  have hf := tdiv_fits ha h0 h1
  have X0 := hide (wrap64_fits hf)
  rw [val_of hf, err_of hf]
  have g0 : (b == 0) = false := beq_eq_false_iff_ne.2 h0
  have g1 : (b != -1) = true := bne_iff_ne.2 h1
  clear hf
  go_enter Try.func9, Try.ntmps9
  go_wp2_with fail
  refine (widen_any _ ha _).mono ?_; rintro e w' ⟨rfl, c, rfl⟩
  go_wp2_with fail
  refine (widen_any _ hb _).mono ?_; rintro e w' ⟨rfl, c', rfl⟩
  go_wp2_with fail
  go_ret2
  exact ⟨by simp [X0.out], (by repeat (first | exact Grown.refl _ | apply Grown.drew | apply Grown.alloc))⟩

theorem do_div (a b : Int) (ha : fits a = true) (hb : fits b = true) (h0 : ¬ b = 0) (w : World) :
    Calls Try.prog 9 #[.string ⟨#[47]⟩, .int .i64 a, .int .i64 b] w fun e w' => e = .returned (.tuple #[.int .i64 (val (a.tdiv b)), .int .i64 (err (a.tdiv b))]) ∧ Grown w w' := by
  by_cases h1 : b = -1
  · subst h1; exact do_div_minus a ha w
  · exact do_div_plain a b ha hb h0 h1 w

theorem do_else (s : ByteArray) (a b : Int) (ha : fits a = true) (hb : fits b = true) (h1 : (s.toList == [45]) = false) (h2 : (s.toList == [43]) = false) (h3 : (s.toList == [47]) = false) (h4 : (s.toList == [42]) = false) (w : World) :
    Calls Try.prog 9 #[.string s, .int .i64 a, .int .i64 b] w fun e w' => e = .returned (.tuple #[.int .i64 0, .int .i64 1]) ∧ Grown w w' := by
  go_enter Try.func9, Try.ntmps9
  go_wp2_with fail
  refine (widen_any _ ha _).mono ?_; rintro e w' ⟨rfl, c, rfl⟩
  go_wp2_with fail
  refine (widen_any _ hb _).mono ?_; rintro e w' ⟨rfl, c', rfl⟩
  go_wp2_with fail
  go_ret2
  exact ⟨rfl, (by repeat (first | exact Grown.refl _ | apply Grown.drew | apply Grown.alloc))⟩

theorem do_mark (a b : Int) (ha : fits a = true) (hb : fits b = true) (w : World) :
    Calls Try.prog 9 #[.string ⟨#[63]⟩, .int .i64 a, .int .i64 b] w fun e w' => e = .returned (.tuple #[.int .i64 0, .int .i64 1]) ∧ Grown w w' :=
  do_else _ a b ha hb (by decide +kernel) (by decide +kernel) (by decide +kernel) (by decide +kernel) w

theorem holds_eq (a b : Int) (w : World) :
    Calls Try.prog 11 #[.string ⟨#[61, 61]⟩, .int .i64 a, .int .i64 b] w fun e w' => e = .returned (.tuple #[.bool (a == b), .int .i64 0]) ∧ w' = w := by
  go_enter Try.func11, Try.ntmps11
  go_wp2
  go_ret2
  exact ⟨rfl, rfl⟩
theorem holds_lt (a b : Int) (w : World) :
    Calls Try.prog 11 #[.string ⟨#[60]⟩, .int .i64 a, .int .i64 b] w fun e w' => e = .returned (.tuple #[.bool (decide (a < b)), .int .i64 0]) ∧ w' = w := by
  go_enter Try.func11, Try.ntmps11
  go_wp2
  go_ret2
  exact ⟨rfl, rfl⟩
theorem holds_else (s : ByteArray) (a b : Int) (h1 : (s.toList == [61, 61]) = false) (h2 : (s.toList == [60]) = false) (w : World) :
    Calls Try.prog 11 #[.string s, .int .i64 a, .int .i64 b] w fun e w' => e = .returned (.tuple #[.bool false, .int .i64 1]) ∧ w' = w := by
  go_enter Try.func11, Try.ntmps11
  go_wp2
  go_ret2
  exact ⟨rfl, rfl⟩
theorem is_eqs (w : World) :
    Calls Try.prog 13 #[.string ⟨#[61, 61]⟩] w fun e w' => e = .returned (.tuple #[.bool false, .bool true]) ∧ w' = w := by
  go_enter Try.func13, Try.ntmps13
  go_wp2
  go_ret2
  exact ⟨rfl, rfl⟩
end Go.Proofs.Ytkalbincljpceaa
