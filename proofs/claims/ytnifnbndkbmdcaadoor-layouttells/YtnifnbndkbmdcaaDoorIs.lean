/-
  THE WALKS OF layout.is, opens, closes, begins.
-/
import Derived.Test.YtnifnbndkbmdcaaDoorBase
namespace Go.Proofs.YtnifnbndkbmdcaaDoor
open Go.RowKit
set_option linter.unusedVariables false
/-- A token is the key word, or the sign, l. -/
def isK (t : Tok) (l : List UInt8) : Bool := t.kd == 4 && t.tx == l
theorem is_any (t : Tok) (l : List UInt8) (w : World) : Calls Tryd.prog 14 #[tv t, .string (S l)] w fun e w' => e = .returned (.bool (isK t l)) ∧ Below w.heap.size w w' := by
  have h1 := S_list t.tx
  have h2 := S_list l
  unfold isK tv
  generalize S t.tx = s at *
  generalize S l = u at *
  generalize t.kd = k at *
  by_cases h : k = 4
  · subst h
    go_enter Tryd.func14, Tryd.ntmps14
    go_wp2
    go_ret
    exact ⟨rfl, (Below.refl _ _).alloc (Nat.le_refl _) _⟩
  · have h4 : (k == 4) = false := by simpa using h
    go_enter Tryd.func14, Tryd.ntmps14
    go_wp2
    go_ret
    exact ⟨by simp [h], (Below.refl _ _).alloc (Nat.le_refl _) _⟩
def opensK (t : Tok) : Bool := isK t [40] || isK t [123]
def closesK (t : Tok) : Bool := isK t [41] || isK t [125]
def beginsK (t : Tok) : Bool := isK t [111, 102] || isK t [100, 111] || isK t [100, 111, 115]
theorem opens_any (t : Tok) (w : World) : Calls Tryd.prog 42 #[tv t] w fun e w' => e = .returned (.bool (opensK t)) ∧ Below w.heap.size w w' := by
  unfold opensK
  have A := hide (fun w => is_any t [40] w)
  have C := hide (fun w => is_any t [123] w)
  have T0 := TB.new w t
  unfold tv at A C ⊢
  cases h : isK t [40] <;> rw [h] at A
  · go_enter Tryd.func42, Tryd.ntmps42
    go_wp2_with fail
    refine (A.out _).mono ?_; rintro e w1 ⟨rfl, b1⟩
    obtain ⟨c0, c1, c2, c3, c4⟩ := (T0.below b1 (by simp)).cells
    go_wp2_with fail
    refine (C.out _).mono ?_; rintro e w2 ⟨rfl, b2⟩; go_wp2_with fail
    go_ret
    exact ⟨by simp, (below_next b1).trans (b2.mono (below_next b1).size)⟩
  · go_enter Tryd.func42, Tryd.ntmps42
    go_wp2_with fail
    refine (A.out _).mono ?_; rintro e w1 ⟨rfl, b1⟩
    go_wp2_with fail
    go_ret
    exact ⟨by simp, below_next b1⟩
theorem closes_any (t : Tok) (w : World) : Calls Tryd.prog 17 #[tv t] w fun e w' => e = .returned (.bool (closesK t)) ∧ Below w.heap.size w w' := by
  unfold closesK
  have A := hide (fun w => is_any t [41] w)
  have C := hide (fun w => is_any t [125] w)
  have T0 := TB.new w t
  unfold tv at A C ⊢
  cases h : isK t [41] <;> rw [h] at A
  · go_enter Tryd.func17, Tryd.ntmps17
    go_wp2_with fail
    refine (A.out _).mono ?_; rintro e w1 ⟨rfl, b1⟩
    obtain ⟨c0, c1, c2, c3, c4⟩ := (T0.below b1 (by simp)).cells
    go_wp2_with fail
    refine (C.out _).mono ?_; rintro e w2 ⟨rfl, b2⟩; go_wp2_with fail
    go_ret
    exact ⟨by simp, (below_next b1).trans (b2.mono (below_next b1).size)⟩
  · go_enter Tryd.func17, Tryd.ntmps17
    go_wp2_with fail
    refine (A.out _).mono ?_; rintro e w1 ⟨rfl, b1⟩
    go_wp2_with fail
    go_ret
    exact ⟨by simp, below_next b1⟩
theorem begins_any (t : Tok) (w : World) : Calls Tryd.prog 43 #[tv t] w fun e w' => e = .returned (.bool (beginsK t)) ∧ Below w.heap.size w w' := by
  unfold beginsK
  have A := hide (fun w => is_any t [111, 102] w)
  have C := hide (fun w => is_any t [100, 111] w)
  have D := hide (fun w => is_any t [100, 111, 115] w)
  have T0 := TB.new w t
  unfold tv at A C D ⊢
  cases h : isK t [111, 102] <;> rw [h] at A
  · cases h2 : isK t [100, 111] <;> rw [h2] at C
    · go_enter Tryd.func43, Tryd.ntmps43
      go_wp2_with fail
      refine (A.out _).mono ?_; rintro e w1 ⟨rfl, b1⟩
      have T1 := T0.below b1 (by simp)
      obtain ⟨c0, c1, c2, c3, c4⟩ := T1.cells
      go_wp2_with fail
      refine (C.out _).mono ?_; rintro e w2 ⟨rfl, b2⟩
      obtain ⟨d0, d1, d2, d3, d4⟩ := (T1.below b2 (Hold.lt T1)).cells
      go_wp2_with fail
      refine (D.out _).mono ?_; rintro e w3 ⟨rfl, b3⟩
      go_wp2_with fail
      go_ret
      have B2 := (below_next b1).trans (b2.mono (below_next b1).size)
      exact ⟨by simp, B2.trans (b3.mono B2.size)⟩
    · go_enter Tryd.func43, Tryd.ntmps43
      go_wp2_with fail
      refine (A.out _).mono ?_; rintro e w1 ⟨rfl, b1⟩
      have T1 := T0.below b1 (by simp)
      obtain ⟨c0, c1, c2, c3, c4⟩ := T1.cells
      go_wp2_with fail
      refine (C.out _).mono ?_; rintro e w2 ⟨rfl, b2⟩
      go_wp2_with fail
      go_ret
      exact ⟨by simp, (below_next b1).trans (b2.mono (below_next b1).size)⟩
  · go_enter Tryd.func43, Tryd.ntmps43
    go_wp2_with fail
    refine (A.out _).mono ?_; rintro e w1 ⟨rfl, b1⟩
    go_wp2_with fail
    go_ret
    exact ⟨by simp, below_next b1⟩
end Go.Proofs.YtnifnbndkbmdcaaDoor
