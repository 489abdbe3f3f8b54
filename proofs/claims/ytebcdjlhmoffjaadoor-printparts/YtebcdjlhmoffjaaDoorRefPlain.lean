/-
  THE WALK OF dawdlerref04's plain.
-/
import Derived.Test.YtebcdjlhmoffjaaDoorSound
namespace Go.Proofs.YtebcdjlhmoffjaaDoor
open Go.RowKit
set_option linter.unusedVariables false
set_option linter.unusedSimpArgs false
def namedM (k : Int) : Bool := decide (k = 2 ∨ k = 3 ∨ k = 8 ∨ k = 9)
def boundM (k : Int) : Bool := decide (k = 4 ∨ k = 6 ∨ k = 8 ∨ k = 13)
def rplainM (e : Tr) : Bool := (namedM e.kd || e.nm == []) && (decide (e.kd = 1) || decide (e.nu = 0)) && (boundM e.kd || decide (e.ns.length = 0))
set_option maxHeartbeats 4000000 in
theorem rplain_any (e : Tr) (pn : Option Addr) (cn' : Nat) (pk : Option Addr) (ck : Nat) (w : World) : Calls Tryd.prog 37 #[.agg (cs5 e pn cn' pk ck)] w fun r w' => r = .returned (.bool (rplainM e)) ∧ Below w.heap.size w w' := by
  have HB : Hid (Below w.heap.size w (w.alloc (.cells (cs5 e pn cn' pk ck) 25))) := (Below.refl _ w).alloc (Nat.le_refl _) _
  have HR : Hid (rplainM e = ((namedM e.kd || e.nm == []) && (decide (e.kd = 1) || decide (e.nu = 0)) && (boundM e.kd || decide (e.ns.length = 0)))) := rfl
  generalize rplainM e = rv at *
  unfold cs5 at *
  obtain ⟨kd, nm', nu, ns, ks⟩ := e
  simp only at *
  have hs2 : ((S nm').toList == []) = (nm' == []) := by rw [S_list]
  generalize ns.length = nn at *
  generalize S nm' = sb at *
  generalize (nm' == []) = be at *
  have hZ : nu = 0 ∨ (¬ nu = 0 ∧ (nu == 0) = false) := by by_cases h : nu = 0; exact .inl h; exact .inr ⟨h, by simpa using h⟩
  have hM : nn = 0 ∨ (¬ nn = 0 ∧ ((nn : Int) == 0) = false) := by by_cases h : nn = 0; exact .inl h; exact .inr ⟨h, by simp; omega⟩
  by_cases h1 : kd = 1
  · subst h1
    cases be <;> rcases hM with rfl | ⟨hM, hM2⟩ <;>
    · go_enter Tryd.func37, Tryd.ntmps37
      go_wp2_with fail
      go_ret
      exact ⟨by rw [HR.out]; simp_all [namedM, boundM], HB.out⟩
  by_cases hn : kd = 2 ∨ kd = 3 ∨ kd = 9
  · rcases hn with rfl | rfl | rfl <;> rcases hZ with rfl | ⟨hZ, hZ2⟩ <;> rcases hM with rfl | ⟨hM, hM2⟩ <;>
    · go_enter Tryd.func37, Tryd.ntmps37
      go_wp2_with fail
      go_ret
      exact ⟨by rw [HR.out]; simp_all [namedM, boundM], HB.out⟩
  by_cases h8 : kd = 8
  · subst h8
    rcases hZ with rfl | ⟨hZ, hZ2⟩ <;>
    · go_enter Tryd.func37, Tryd.ntmps37
      go_wp2_with fail
      go_ret
      exact ⟨by rw [HR.out]; simp_all [namedM, boundM], HB.out⟩
  by_cases hb : kd = 4 ∨ kd = 6 ∨ kd = 13
  · rcases hb with rfl | rfl | rfl <;> cases be <;> rcases hZ with rfl | ⟨hZ, hZ2⟩ <;>
    · go_enter Tryd.func37, Tryd.ntmps37
      go_wp2_with fail
      go_ret
      exact ⟨by rw [HR.out]; simp_all [namedM, boundM], HB.out⟩
  simp only [not_or] at hn hb
  obtain ⟨n2, n3, n9⟩ := hn
  obtain ⟨n4, n6, n13⟩ := hb
  cases be <;> rcases hZ with rfl | ⟨hZ, hZ2⟩ <;> rcases hM with rfl | ⟨hM, hM2⟩ <;>
  · go_enter Tryd.func37, Tryd.ntmps37
    go_wp2_with fail
    go_ret
    exact ⟨by rw [HR.out]; simp_all [namedM, boundM], HB.out⟩
end Go.Proofs.YtebcdjlhmoffjaaDoor
