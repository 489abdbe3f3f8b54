/-
  dawdlerref02.Same of the same tokens.
-/
import Derived.Test.YtnifnbndkbmdcaaDoorAwake
namespace Go.Proofs.YtnifnbndkbmdcaaDoor
open Go.RowKit
set_option linter.unusedVariables false

set_option maxHeartbeats 1000000 in
theorem same_eq (p1 p2 : Option Addr) (c1 c2 m : Nat) (ts : List Tok) (w : World) (hl : ts.length = m) (hm : m ≤ 2147483647) (h1 : TMem w p1 ts) (h2 : TMem w p2 ts) :
    Calls Tryd.prog 11 #[.slice p1 m c1, .slice p2 m c2] w fun e w' => e = .returned (.bool true) ∧ Below w.heap.size w w' := by
  go_enter Tryd.func11, Tryd.ntmps11
  go_wp2_with fail
  go_loopw [5] (fun i wr => ∃ k : Nat, k ≤ m ∧ i = .int .i64 k ∧ Below w.heap.size w wr) (fun i _ => m - (intOf i).toNat)
  case atStart => exact ⟨0, Nat.zero_le _, rfl, Below.refl _ _⟩
  case round =>
    obtain ⟨k, hk, rfl, hB⟩ := hrel
    by_cases hlt : k < m
    · have A1 := h1.below (Nat.le_refl _) hB
      have A2 := h2.below (Nat.le_refl _) hB
      have hkt : k < ts.length := by omega
      rcases A1 with he | ⟨ba, oa, rfl, hba, hma⟩
      · rw [he] at hkt; simp at hkt
      rcases A2 with he | ⟨bb, ob, rfl, hbb, hmb⟩
      · rw [he] at hkt; simp at hkt
      obtain ⟨a0, a1, a2, a3, a4⟩ := hma k ts[k] (by simp)
      obtain ⟨q0, q1, q2, q3, q4⟩ := hmb k ts[k] (by simp)
      clear hma hmb h1 h2
      generalize ts[k] = t at *
      go_wp2_with fail
      go_quiet (fail)
      go_wp2_with fail
      go_roundw
      case rel => exact ⟨k + 1, by omega, by go_num, hB.trans ⟨rfl, rfl, rfl, Nat.le_refl _, fun _ _ => rfl⟩⟩
      case measure => simp [intOf]; omega
    · go_wp2_with fail
      go_ret
      exact ⟨rfl, hB⟩
end Go.Proofs.YtnifnbndkbmdcaaDoor
