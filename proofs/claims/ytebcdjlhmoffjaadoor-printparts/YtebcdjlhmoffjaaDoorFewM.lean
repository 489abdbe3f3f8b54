/-
  WHAT Few SAYS: bounds of a tree's parts.
-/
import Derived.Test.YtebcdjlhmoffjaaDoorFew2
import Derived.Test.YtebcdjlhmoffjaaDoorSize
import Derived.Test.YtebcdjlhmoffjaaDoorExprP
namespace Go.Proofs.YtebcdjlhmoffjaaDoor
open Go.RowKit
set_option linter.unusedVariables false
set_option linter.unusedSimpArgs false
theorem len_le_sum (l : List Tr) : l.length ≤ (l.map tsz).sum := by
  induction l with
  | nil => simp
  | cons a r ih => have := tsz_pos a; simp; omega
theorem mem_le_sum {l : List Tr} {k : Tr} (h : k ∈ l) : tsz k ≤ (l.map tsz).sum := by
  induction l with
  | nil => cases h
  | cons a r ih =>
    rcases List.mem_cons.1 h with rfl | h
    · simp
    · have := ih h; simp; omega
theorem le_foldl (l : List Tr) (n : Nat) : n ≤ l.foldl (fun n k => max n (tdp k)) n := by
  induction l generalizing n with
  | nil => simp
  | cons a r ih => rw [List.foldl_cons]; exact Nat.le_trans (Nat.le_max_left _ _) (ih _)
theorem mem_le_foldl {l : List Tr} {k : Tr} (h : k ∈ l) (n : Nat) : tdp k ≤ l.foldl (fun n k => max n (tdp k)) n := by
  induction l generalizing n with
  | nil => cases h
  | cons a r ih =>
    rw [List.foldl_cons]
    rcases List.mem_cons.1 h with rfl | h
    · exact Nat.le_trans (Nat.le_max_right _ _) (le_foldl _ _)
    · exact ih h _
theorem po_le (e : Tr) : ∀ n x, x ∈ po e n → x.1 + tdp x.2 ≤ n + tdp e ∧ tsz x.2 ≤ tsz e ∧ (tsh e = true → tsh x.2 = true) := by
  induction e using Tr.ind with
  | _ e ih =>
    intro n x hx
    rw [po_eq] at hx
    rcases List.mem_cons.1 hx with rfl | hx
    · exact ⟨Nat.le_refl _, Nat.le_refl _, id⟩
    · obtain ⟨k, hk, hx⟩ := List.mem_flatMap.1 hx
      obtain ⟨h1, h2, h3⟩ := ih k hk (n + 1) x hx
      refine ⟨?_, ?_, ?_⟩
      · have := mem_le_foldl hk 0
        rw [tdp_eq e]; omega
      · have := mem_le_sum hk
        rw [tsz_eq e]; omega
      · intro h
        rw [tsh_eq] at h
        simp only [Bool.and_eq_true, List.all_eq_true] at h
        exact h3 (h.2 k hk)
theorem few_parts {e : Tr} (h : fewM e = true) : ∀ x ∈ po e 1, x.1 ≤ 41 ∧ x.2.ks.length ≤ 2000 ∧ x.2.ns.length ≤ 40 ∧ x.2.nm.length ≤ 100 ∧ ∀ s ∈ x.2.ns, s.length ≤ 100 := by
  intro x hx
  unfold fewM at h
  simp only [Bool.and_eq_true, decide_eq_true_eq] at h
  obtain ⟨h1, h2, h3⟩ := po_le e 1 x hx
  have hs := h3 h.2
  rw [tsh_eq] at hs
  simp only [Bool.and_eq_true, List.all_eq_true, decide_eq_true_eq] at hs
  have hl := len_le_sum x.2.ks
  have hz := tsz_eq x.2
  exact ⟨by omega, by omega, hs.1.1.2, hs.1.1.1, hs.1.2⟩
theorem few_D {e : Tr} (h : fewM e = true) : ∀ x ∈ po e 1, x.1 ≤ 1000000 ∧ x.2.ks.length ≤ 1000000 := fun x hx => by have := few_parts h x hx; omega
theorem few_N {e : Tr} (h : fewM e = true) : ∀ x ∈ po e 1, x.2.ns.length ≤ 1000000 := fun x hx => by have := few_parts h x hx; omega
theorem kidsN_cons (x : Nat × Tr) (l : List (Nat × Tr)) : kidsN (x :: l) = x.2.ks.length + kidsN l := by simp [kidsN]
theorem kids_flat (n : Nat) (l : List Tr) (h : ∀ k ∈ l, 1 + kidsN (po k n) = tsz k) : l.length + kidsN (l.flatMap fun k => po k n) = (l.map tsz).sum := by
  induction l with
  | nil => simp [kidsN]
  | cons a r ih =>
    have h1 := h a (by simp)
    have h2 := ih (fun k hk => h k (by simp [hk]))
    rw [List.flatMap_cons, kidsN_app]
    simp
    omega
theorem kidsN_po (e : Tr) : ∀ n, 1 + kidsN (po e n) = tsz e := by
  induction e using Tr.ind with
  | _ e ih =>
    intro n
    rw [po_eq, kidsN_cons, tsz_eq]
    have := kids_flat (n + 1) e.ks (fun k hk => ih k hk (n + 1))
    simp only
    omega
theorem few_size {e : Tr} (h : fewM e = true) : sizeV e = ((tsz e : Nat) : Int) := by
  unfold sizeV
  rw [kidsN_po]
  unfold fewM at h
  simp only [Bool.and_eq_true, decide_eq_true_eq] at h
  rw [if_pos (by omega)]
end Go.Proofs.YtebcdjlhmoffjaaDoor
