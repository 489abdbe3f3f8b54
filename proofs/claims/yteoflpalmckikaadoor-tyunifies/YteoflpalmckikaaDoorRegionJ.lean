/-
  A region that draws its order and whose last operations (from N on) wait for all the others: what holds of the world need be shown anew behind the others alone.
-/
import Derived.Test.YteoflpalmckikaaDoorBase
import Derived.Deep.RegionHeld3
namespace Go.Proofs.YteoflpalmckikaaDoor
open Go.RowKit
set_option linter.unusedVariables false
section
variable {P : Program} {ops : Array Oper} {Q : Exit → Act → World → Prop} {md : Region.Mode} {S : World → Prop} {N : Nat}
def wpAnyJ (P : Program) (md : Region.Mode) (ops : Array Oper) (Q : Exit → Act → World → Prop) (S : World → Prop) (N : Nat) : Nat → Array Bool → Act → World → Prop
  | 0, ls, a, w => Region.ready md ops ls = [] ∧ Q .normal a w
  | n + 1, ls, a, w => (Region.ready md ops ls = [] → Q .normal a w) ∧ ∀ i ∈ Region.ready md ops ls, wpOp P ops Q i (fun a' w' => (i < N → S w') ∧ wpAnyJ P md ops Q S N n (ls.setIfInBounds i true) a' w') a w
theorem any_of_J (n : Nat) : ∀ (ls : Array Bool) (a : Act) (w : World), wpAnyJ P md ops Q S N n ls a w → wpAny P md ops Q n ls a w := by
  induction n with
  | zero => intro ls a w h; exact h
  | succ n ih => intro ls a w h; exact ⟨h.1, fun i hi => wpOp_mono (fun a' w' h' => ih _ a' w' h'.2) (h.2 i hi)⟩
theorem region_J (n : Nat) {id : Nat} {a : Act} {w : World} (hm : P.follows .mixedOrders = true) (hn : ops.size = n) (h : wpAnyJ P .any ops Q S N n (Array.replicate n false) a w.drew) : (Code.region id ops true).wp P Q a w := by
  subst hn
  exact wp_region_any hm (any_of_J _ _ _ _ h)
/-- Number i may be taken first, if the last ones wait for it. -/
theorem first_J {i : Nat} {oi : Oper} {v : Value} (hi : ops[i]? = some oi) (hsel : ∀ (j : Nat) (o : Oper) cs b, ops[j]? = some o → o.op ≠ .select cs b) (hQ : ∀ c a w, Q (.panic c) (a.put oi.dst v) w → Q (.panic c) a w)
    (hN : ∀ k o, ops[k]? = some o → N ≤ k → ∃ e ∈ o.after, Region.binds md e = true ∧ e.on = i) (n : Nat) : ∀ (ls : Array Bool) (a : Act) (w : World),
      (∀ j oj, ops[j]? = some oj → j ≠ i → ls.getD j true = false → (∀ e ∈ oj.after, Region.binds md e = true → e.on ≠ i) → oi.apart ops oj = true) →
      i ∈ Region.ready md ops ls → YieldsIf P ops S oi v a → S w → wpAnyJ P md ops Q S N n (ls.setIfInBounds i true) (a.put oi.dst v) w → wpAnyJ P md ops Q S N (n + 1) ls a w := by
  induction n with
  | zero =>
    intro ls a w _ hr hy hS H
    refine ⟨fun h => (by rw [h] at hr; cases hr), fun j hj => ?_⟩
    by_cases hji : j = i
    · subst hji; exact hy.wpOp hi hS ⟨fun _ => hS, H⟩
    · have k := ready_mono hj hji
      rw [H.1] at k; cases k
  | succ n ih =>
    intro ls a w hfree hr hy hS H
    refine ⟨fun h => (by rw [h] at hr; cases hr), fun j hj => ?_⟩
    by_cases hji : j = i
    · subst hji; exact hy.wpOp hi hS ⟨fun _ => hS, H⟩
    · obtain ⟨hun, oj, hoj, hall⟩ := mem_ready.1 hj
      have h0 := (mem_ready.1 hr).1
      have hnot : ∀ e ∈ oj.after, Region.binds md e = true → e.on ≠ i := by
        intro e he hb heq
        have h1 := hall e he hb
        rw [heq] at h1
        by_cases hlt : i < ls.size
        · simp [hlt] at h0 h1; rw [h0] at h1; cases h1
        · simp [Array.getElem?_eq_none (Nat.le_of_not_lt hlt)] at h1
      have hjN : j < N := by
        rcases Nat.lt_or_ge j N with h | h
        · exact h
        · obtain ⟨e, he, hb, heq⟩ := hN j oj hoj h
          exact absurd heq (hnot e he hb)
      have h2 := wpOp_putIf hoj (hfree j oj hoj hji hun hnot) (fun cs b => hsel i oi cs b hi) (fun cs b => hsel j oj cs b hoj) hQ hy (H.2 j (ready_mono hj hji))
      have hfree' : ∀ k ok, ops[k]? = some ok → k ≠ i → (ls.setIfInBounds j true).getD k true = false → (∀ e ∈ ok.after, Region.binds md e = true → e.on ≠ i) → oi.apart ops ok = true := by
        intro k ok hk hki hu hno
        refine hfree k ok hk hki ?_ hno
        by_cases hjk : j = k
        · subst hjk; exact hun
        · rw [getD_set_ne true hjk] at hu; exact hu
      refine wpOp_mono (fun a' w' h3 => ⟨fun _ => h3.2.1 hjN, ih _ a' w' hfree' (ready_mono hr (Ne.symm hji)) h3.1 (h3.2.1 hjN) ?_⟩) h2
      rw [Array.setIfInBounds_comm _ _ hji]
      exact h3.2.2
def lastWait (md : Region.Mode) (ops : Array Oper) (N i : Nat) : Bool := (ops.toList.drop N).all fun o => o.after.toList.any fun e => Region.binds md e && e.on == i
theorem take_J {i : Nat} {oi : Oper} (v : Value) {n : Nat} {ls : Array Bool} {a : Act} {w : World} (hi : ops[i]? = some oi) (hs : Region.noSelect ops = true) (hf : Region.free md ops ls i = true) (hr : (Region.ready md ops ls).contains i = true) (hN : lastWait md ops N i = true)
    (hQ : ∀ c a w, Q (.panic c) (a.put oi.dst v) w → Q (.panic c) a w) (hy : YieldsIf P ops S oi v a) (hS : S w) (h : wpAnyJ P md ops Q S N n (ls.setIfInBounds i true) (a.put oi.dst v) w) : wpAnyJ P md ops Q S N (n + 1) ls a w := by
  refine first_J hi (Region.noSelect_spec hs) hQ ?_ n ls a w (Region.free_spec hi hf) (by simpa using hr) hy hS h
  intro k o hk hNk
  have hm : o ∈ ops.toList.drop N := by
    rw [List.mem_iff_getElem?]
    refine ⟨k - N, ?_⟩
    rw [List.getElem?_drop, show N + (k - N) = k by omega]
    simpa using hk
  have h1 := List.all_eq_true.1 hN o hm
  obtain ⟨e, he, h2⟩ := List.any_eq_true.1 h1
  simp at h2
  exact ⟨e, by simpa using he, h2.1, h2.2⟩
theorem take_D {i : Nat} {oi : Oper} (d : Tmp) (v : Value) {n : Nat} {ls : Array Bool} {a : Act} {w : World} (hi : ops[i]? = some oi) (hd : oi.dst = some d) (hs : Region.noSelect ops = true) (hf : Region.free md ops ls i = true) (hr : (Region.ready md ops ls).contains i = true) (hN : lastWait md ops N i = true)
    (hQ : ∀ c a w, Q (.panic c) (a.put (some d) v) w → Q (.panic c) a w) (hy : YieldsIf P ops S oi v a) (hS : S w) (h : wpAnyJ P md ops Q S N n (ls.setIfInBounds i true) (a.put (some d) v) w) : wpAnyJ P md ops Q S N (n + 1) ls a w :=
  take_J v hi hs hf hr hN (by rw [hd]; exact hQ) hy hS (by rw [hd]; exact h)
theorem ready_J {rs : List Nat} {n : Nat} {ls : Array Bool} {a : Act} {w : World} (hr : Region.ready md ops ls = rs) (hne : rs ≠ []) (h : ∀ i ∈ rs, wpOp P ops Q i (fun a' w' => (i < N → S w') ∧ wpAnyJ P md ops Q S N n (ls.setIfInBounds i true) a' w') a w) : wpAnyJ P md ops Q S N (n + 1) ls a w :=
  ⟨fun h0 => absurd (hr ▸ h0) hne, hr ▸ h⟩
theorem done_J {ls : Array Bool} {a : Act} {w : World} (hr : Region.ready md ops ls = []) (h : Q .normal a w) (n : Nat) : wpAnyJ P md ops Q S N n ls a w := by
  cases n with
  | zero => exact ⟨hr, h⟩
  | succ n => exact ⟨fun _ => h, by rw [hr]; simp⟩
/-- One operation, what follows a letter. -/
theorem op_J {i : Nat} {o : Oper} {R : Act → World → Prop} {a : Act} {w : World} (hi : ops[i]? = some o) (hg : o.guard = none) (h : ∀ K, (∀ a' w', R a' w' → K a' w') → Oper.wp P o a w K Q) : wpOp P ops Q i R a w := by
  have hw : Region.wanted o (yielded ops a.tmps) = true := by simp [Region.wanted, hg]
  unfold wpOp
  simp only [hi, hw, if_true]
  exact .inl (h R fun _ _ h => h)
theorem op_W {i : Nat} {o : Oper} {R : Act → World → Prop} {a : Act} {w : World} (hi : ops[i]? = some o) (hw : Region.wanted o (yielded ops a.tmps) = true) (h : ∀ K, (∀ a' w', R a' w' → K a' w') → Oper.wp P o a w K Q) : wpOp P ops Q i R a w := by
  unfold wpOp
  simp only [hi, hw, if_true]
  exact .inl (h R fun _ _ h => h)
end
end Go.Proofs.YteoflpalmckikaaDoor
