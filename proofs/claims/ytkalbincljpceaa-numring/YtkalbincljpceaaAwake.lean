/-
  The calls at the head of every statement of layer 1: they return what the document fixes.
-/
import Derived.Test.YtkalbincljpceaaDo
namespace Go.Proofs.Ytkalbincljpceaa
open Go.RowKit

theorem aw1 (w : World) : Calls Try.prog 9 #[.string ⟨#[47]⟩, .int .i64 (-7), .int .i64 2] w fun e w' => e = .returned (.tuple #[.int .i64 (-3), .int .i64 0]) ∧ Grown w w' := by
  have h := do_div (-7) 2 (by decide) (by decide) (by decide) w
  rw [show val (Int.tdiv (-7) 2) = -3 from by decide, show err (Int.tdiv (-7) 2) = 0 from by decide] at h
  exact h
theorem aw3 (w : World) : Calls Try.prog 9 #[.string ⟨#[42]⟩, .int .i64 4611686018427387904, .int .i64 2] w fun e w' => e = .returned (.tuple #[.int .i64 0, .int .i64 11]) ∧ Grown w w' := by
  have h := do_mul 4611686018427387904 2 (by decide) (by decide) w
  rw [show val (4611686018427387904 * 2) = 0 from by decide, show err (4611686018427387904 * 2) = 11 from by decide] at h
  exact h
theorem aw4 (w : World) : Calls Try.prog 9 #[.string ⟨#[45]⟩, .int .i64 3, .int .i64 5] w fun e w' => e = .returned (.tuple #[.int .i64 (-2), .int .i64 0]) ∧ Grown w w' := by
  have h := do_sub 3 5 (by decide) (by decide) w
  rw [show val (3 - 5) = -2 from by decide, show err (3 - 5) = 0 from by decide] at h
  exact h
theorem aw6 (w : World) : Calls Try.prog 11 #[.string ⟨#[60]⟩, .int .i64 1, .int .i64 2] w fun e w' => e = .returned (.tuple #[.bool true, .int .i64 0]) ∧ w' = w := holds_lt 1 2 w

theorem awake_any (w : World) : Calls Try.prog 8 #[] w fun e w' => e = .returned (.bool true) ∧ Grown w w' := by
  go_enter Try.func8, Try.ntmps8
  go_wp2_with fail
  refine (aw1 _).mono ?_; rintro e w1 ⟨rfl, g1⟩
  go_wp2_with fail
  refine (do_div_zero 1 (by decide) _).mono ?_; rintro e w2 ⟨rfl, g2⟩
  go_wp2_with fail
  refine (aw3 _).mono ?_; rintro e w3 ⟨rfl, g3⟩
  go_wp2_with fail
  refine (aw4 _).mono ?_; rintro e w4 ⟨rfl, g4⟩
  go_wp2_with fail
  refine (do_mark 1 1 (by decide) (by decide) _).mono ?_; rintro e w5 ⟨rfl, g5⟩
  go_wp2_with fail
  refine (aw6 _).mono ?_; rintro e w6 ⟨rfl, rfl⟩
  go_wp2_with fail
  refine (is_eqs _).mono ?_; rintro e w7 ⟨rfl, rfl⟩
  go_wp2_with fail
  go_ret
  exact ⟨rfl, grown_trans g1 (grown_trans g2 (grown_trans g3 (grown_trans g4 g5)))⟩
end Go.Proofs.Ytkalbincljpceaa
