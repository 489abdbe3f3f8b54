/-
  TIES AS A FOREST: who tells for whom, with a measure that falls along the ties. No program in it.
-/
import Derived.Test.YteoflpalmckikaaDoorLayM
namespace Go.Proofs.YteoflpalmckikaaDoor
set_option linter.unusedVariables false
set_option linter.unusedSimpArgs false
/-- Each place leads, in at most d steps, to the one that tells for it. -/
structure Fo (ties : List Nat) (ro d : Nat → Nat) : Prop where
  step : ∀ i t, ties[i]? = some t → t < ties.length ∧ ((t = i ∧ ro i = i ∧ d i = 0) ∨ (t ≠ i ∧ ro i = ro t ∧ d t < d i))
  far : ∀ i, ties.length ≤ i → ro i = i
theorem Fo.lt {ties : List Nat} {ro d : Nat → Nat} (h : Fo ties ro d) (k : Nat) : ∀ i, d i ≤ k → i < ties.length → ro i < ties.length ∧ ties[ro i]? = some (ro i) ∧ ro (ro i) = ro i := by
  induction k with
  | zero =>
    intro i hd hi
    obtain ⟨h1, h2 | h2⟩ := h.step i _ (List.getElem?_eq_getElem hi)
    · rw [h2.2.1]
      exact ⟨hi, by rw [List.getElem?_eq_getElem hi, h2.1], h2.2.1⟩
    · have := h2.2.2
      omega
  | succ k ih =>
    intro i hd hi
    obtain ⟨h1, h2 | h2⟩ := h.step i _ (List.getElem?_eq_getElem hi)
    · rw [h2.2.1]
      exact ⟨hi, by rw [List.getElem?_eq_getElem hi, h2.1], h2.2.1⟩
    · have := h2.2.2
      have h3 := ih ties[i] (by omega) h1
      rw [← h2.2.1] at h3
      exact h3
theorem Fo.root {ties : List Nat} {ro d : Nat → Nat} (h : Fo ties ro d) {i : Nat} (hi : i < ties.length) : ro i < ties.length ∧ ties[ro i]? = some (ro i) ∧ ro (ro i) = ro i := h.lt _ i (Nat.le_refl _) hi
theorem Fo.idem {ties : List Nat} {ro d : Nat → Nat} (h : Fo ties ro d) (i : Nat) : ro (ro i) = ro i := by
  by_cases hi : i < ties.length
  · exact (h.root hi).2.2
  · rw [h.far i (by omega), h.far i (by omega)]
/-- A place that tells for itself. -/
theorem Fo.self {ties : List Nat} {ro d : Nat → Nat} (h : Fo ties ro d) {i : Nat} (hi : ties[i]? = some i) : ro i = i ∧ d i = 0 := by
  obtain ⟨_, h2 | h2⟩ := h.step i i hi
  · exact h2.2
  · exact absurd rfl h2.1
/-- The way made shorter. -/
theorem Fo.halve {ties : List Nat} {ro d : Nat → Nat} (h : Fo ties ro d) {i p q : Nat} (hi : ties[i]? = some p) (hp : ties[p]? = some q) (hne : p ≠ i) : Fo (ties.set i q) ro d := by
  refine ⟨fun j t hj => ?_, fun j hj => h.far j (by simpa using hj)⟩
  rw [List.length_set]
  by_cases e : i = j
  · subst e
    rw [List.getElem?_set_self (List.getElem?_eq_some_iff.1 hi).1] at hj
    cases hj
    obtain ⟨a1, a2 | a2⟩ := h.step i p hi
    · exact absurd a2.1 hne
    · obtain ⟨b1, b2 | b2⟩ := h.step p q hp
      · rw [b2.1]
        exact ⟨a1, .inr a2⟩
      · refine ⟨b1, .inr ⟨fun e => ?_, a2.2.1.trans b2.2.1, by omega⟩⟩
        have := a2.2.2
        have := b2.2.2
        rw [e] at this
        omega
  · rw [List.getElem?_set_ne e] at hj
    exact h.step j t hj
/-- One place that tells, under another one. -/
theorem Fo.merge {ties : List Nat} {ro d : Nat → Nat} (h : Fo ties ro d) {a b : Nat} (ha : ties[a]? = some a) (hb : ties[b]? = some b) (hne : a ≠ b) : Fo (ties.set b a) (mergeR ro a b) (fun i => if ro i = b then d i + 1 else d i) := by
  obtain ⟨ha1, ha2⟩ := h.self ha
  obtain ⟨hb1, hb2⟩ := h.self hb
  have hal := (List.getElem?_eq_some_iff.1 ha).1
  have hbl := (List.getElem?_eq_some_iff.1 hb).1
  refine ⟨fun j t hj => ?_, fun j hj => ?_⟩
  · rw [List.length_set]
    by_cases e : b = j
    · subst e
      rw [List.getElem?_set_self hbl] at hj
      cases hj
      refine ⟨hal, .inr ⟨hne, ?_, ?_⟩⟩
      · unfold mergeR
        rw [if_pos hb1, if_neg (by rw [ha1]; exact hne), ha1]
      · rw [if_neg (by rw [ha1]; exact hne), if_pos hb1]
        omega
    · rw [List.getElem?_set_ne e] at hj
      obtain ⟨h1, h2 | h2⟩ := h.step j t hj
      · obtain ⟨rfl, h3, h4⟩ := h2
        have hnb : ro t ≠ b := fun e' => e (by rw [← e', h3])
        refine ⟨h1, .inl ⟨rfl, ?_, ?_⟩⟩
        · unfold mergeR
          rw [if_neg hnb, h3]
        · rw [if_neg hnb, h4]
      · refine ⟨h1, .inr ⟨h2.1, ?_, ?_⟩⟩
        · unfold mergeR
          rw [h2.2.1]
        · rw [h2.2.1]
          have := h2.2.2
          split <;> omega
  · have hj' : ties.length ≤ j := by simpa using hj
    unfold mergeR
    rw [h.far j hj', if_neg (by omega)]
/-- At the start. -/
theorem Fo.start (n : Nat) : Fo (List.range n) id (fun _ => 0) := by
  refine ⟨fun i t h => ?_, fun _ _ => rfl⟩
  have hi : i < n := by simpa using (List.getElem?_eq_some_iff.1 h).1
  rw [List.getElem?_range hi] at h
  cases h
  exact ⟨by simpa using hi, .inl ⟨rfl, rfl, rfl⟩⟩
/-- How many places tell for themselves. -/
def rootN (ties : List Nat) : Nat := ((List.range ties.length).filter fun i => ties[i]? == some i).length
theorem rootN_merge {ties : List Nat} {a b : Nat} (hb : ties[b]? = some b) (hne : a ≠ b) : rootN (ties.set b a) < rootN ties := by
  unfold rootN
  rw [List.length_set]
  have hbl := (List.getElem?_eq_some_iff.1 hb).1
  have sub : ∀ l : List Nat, (l.filter fun i => (ties.set b a)[i]? == some i).length ≤ (l.filter fun i => ties[i]? == some i).length ∧ (b ∈ l → (l.filter fun i => (ties.set b a)[i]? == some i).length < (l.filter fun i => ties[i]? == some i).length) := by
    intro l
    induction l with
    | nil => exact ⟨Nat.le_refl _, fun h => by cases h⟩
    | cons x r ih =>
      by_cases e : b = x
      · subst e
        have e1 : ((ties.set b a)[b]? == some b) = false := by
          rw [List.getElem?_set_self hbl]
          simpa using hne
        have e2 : (ties[b]? == some b) = true := by rw [hb]; simp
        rw [List.filter_cons, List.filter_cons, e1, e2]
        simp only [Bool.false_eq_true, if_false, if_true, List.length_cons]
        have := ih.1
        exact ⟨by omega, fun _ => by omega⟩
      · have e1 : (ties.set b a)[x]? = ties[x]? := List.getElem?_set_ne e
        rw [List.filter_cons, List.filter_cons, e1]
        split
        · simp only [List.length_cons]
          refine ⟨by have := ih.1; omega, fun h => ?_⟩
          rcases List.mem_cons.1 h with h | h
          · exact absurd h e
          · have := ih.2 h; omega
        · refine ⟨ih.1, fun h => ?_⟩
          rcases List.mem_cons.1 h with h | h
          · exact absurd h e
          · exact ih.2 h
  exact (sub _).2 (List.mem_range.2 hbl)
end Go.Proofs.YteoflpalmckikaaDoor
