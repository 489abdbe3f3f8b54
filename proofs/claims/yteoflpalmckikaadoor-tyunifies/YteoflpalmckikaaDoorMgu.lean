/-
  WHAT IS TOLD OF TWO TYPES: the least facts that make them one; there is one such list at most. No program in it.
-/
import Derived.Test.YteoflpalmckikaaDoorMath
namespace Go.Proofs.YteoflpalmckikaaDoor
set_option linter.unusedVariables false
set_option linter.unusedSimpArgs false

/-- A list of facts that is what is told of two types. -/
structure Told (a b : Ty) (l : List (Int × Ty)) : Prop where
  rise : l.Pairwise fun x y => x.1 < y.1
  one : sub (look l) a = sub (look l) b
  theirs : ∀ f ∈ l, f.1 ∈ hls a ∨ f.1 ∈ hls b
  idem : ∀ f ∈ l, ∀ m ∈ hls f.2, ∀ g ∈ l, g.1 ≠ m
  least : ∀ f ∈ l, ∀ m, f.2 = hole m → m < f.1
  most : ∀ r : Int → Ty, sub r a = sub r b → ∀ f ∈ l, sub r f.2 = r f.1
theorem look_none {l : List (Int × Ty)} {n : Int} (h : ∀ f ∈ l, f.1 ≠ n) : look l n = hole n := by
  unfold look
  rw [List.find?_eq_none.2 (fun f hf => by simpa using h f hf)]
theorem look_some {l : List (Int × Ty)} (hr : l.Pairwise fun x y => x.1 < y.1) {f : Int × Ty} (hf : f ∈ l) : look l f.1 = f.2 := by
  unfold look
  induction l with
  | nil => cases hf
  | cons g r ih =>
    rw [List.pairwise_cons] at hr
    rcases List.mem_cons.1 hf with rfl | hf
    · simp
    · have := hr.1 f hf
      have hne : (g.1 == f.1) = false := by simp; omega
      rw [List.find?_cons, hne]
      exact ih hr.2 hf
theorem look_cases {l : List (Int × Ty)} (n : Int) : (∃ f ∈ l, f.1 = n ∧ look l n = f.2) ∨ ((∀ f ∈ l, f.1 ≠ n) ∧ look l n = hole n) := by
  unfold look
  cases h : l.find? (fun f => f.1 == n) with
  | none => exact .inr ⟨fun f hf => by simpa using List.find?_eq_none.1 h f hf, rfl⟩
  | some f => exact .inl ⟨f, List.mem_of_find?_eq_some h, by simpa using List.find?_some h, rfl⟩
theorem Told.gen {a b : Ty} {l : List (Int × Ty)} (h : Told a b l) {r : Int → Ty} (hr : sub r a = sub r b) (n : Int) : sub r (look l n) = r n := by
  rcases look_cases (l := l) n with ⟨f, hf, e, hl⟩ | ⟨_, hl⟩
  · rw [hl, h.most r hr f hf, e]
  · rw [hl, sub_hole]
/-- A hole that is in what is told has no fact. -/
theorem Told.free {a b : Ty} {l : List (Int × Ty)} (h : Told a b l) {n m : Int} (hm : m ∈ hls (look l n)) : look l m = hole m := by
  rcases look_cases (l := l) n with ⟨f, hf, e, hl⟩ | ⟨hn, hl⟩
  · rw [hl] at hm
    exact look_none fun g hg => h.idem f hf m hm g hg
  · rw [hl, hls_hole] at hm
    simp at hm
    subst hm
    exact hl
theorem hole_inj {a b : Int} (h : hole a = hole b) : a = b := by unfold hole at h; simpa using h
theorem sub_is_hole {s : Int → Ty} {t : Ty} {m : Int} (h : sub s t = hole m) : t.nm.isEmpty = true ∧ s t.n = hole m := by
  cases e : t.nm.isEmpty
  · rw [sub_node _ _ e] at h
    unfold hole at h
    simp at h
    rw [h.1] at e
    simp at e
  · rw [sub_at _ _ e] at h
    exact ⟨rfl, h⟩
theorem Told.fixed {a b : Ty} {l l' : List (Int × Ty)} (h : Told a b l) (h' : Told a b l') {m : Int} (hm : look l m = hole m) : ∃ k, hls (look l' m) = [k] ∧ look l k = hole m ∧ m ≤ k ∧ look l' k = hole k := by
  have e := h'.gen h.one m
  rw [hm] at e
  obtain ⟨e1, e2⟩ := sub_is_hole e
  refine ⟨(look l' m).n, hls_at _ e1, e2, ?_, h'.free (n := m) (by rw [hls_at _ e1]; simp)⟩
  rcases look_cases (l := l) (look l' m).n with ⟨f, hf, e3, hl⟩ | ⟨hn, hl⟩
  · have := h.least f hf m (by rw [← hl]; exact e2)
    omega
  · rw [hl] at e2
    have := hole_inj e2
    omega
theorem Told.same_free {a b : Ty} {l l' : List (Int × Ty)} (h : Told a b l) (h' : Told a b l') {m : Int} (hm : look l m = hole m) : hls (look l' m) = [m] ∧ look l' m = hole m := by
  obtain ⟨k, e1, e2, e3, e4⟩ := h.fixed h' hm
  obtain ⟨j, f1, f2, f3, f4⟩ := h'.fixed h e4
  rw [e2, hls_hole] at f1
  simp at f1
  subst f1
  obtain rfl : k = m := by omega
  exact ⟨e1, e4⟩
theorem Told.look_eq {a b : Ty} {l l' : List (Int × Ty)} (h : Told a b l) (h' : Told a b l') (ok : ∀ n, allT ok1 (look l n) = true) (n : Int) : look l' n = look l n := by
  have e := h.gen h'.one n
  rw [← e]
  conv => rhs; rw [← sub_id _ (ok n)]
  refine sub_congr _ fun m hm => ?_
  exact (h.same_free h' (h.free hm)).2
theorem sorted_ext {l l' : List (Int × Ty)} (hr : l.Pairwise fun x y => x.1 < y.1) (hr' : l'.Pairwise fun x y => x.1 < y.1) (h : ∀ f, f ∈ l ↔ f ∈ l') : l = l' := by
  induction l generalizing l' with
  | nil => cases l' with
    | nil => rfl
    | cons g r => exact absurd ((h g).2 (by simp)) (by simp)
  | cons f r ih => cases l' with
    | nil => exact absurd ((h f).1 (by simp)) (by simp)
    | cons g r' =>
      rw [List.pairwise_cons] at hr hr'
      have e : f = g := by
        rcases List.mem_cons.1 ((h f).1 (by simp)) with e | e
        · exact e
        · rcases List.mem_cons.1 ((h g).2 (by simp)) with e' | e'
          · exact e'.symm
          · have h1 := hr'.1 f e
            have h2 := hr.1 g e'
            omega
      subst e
      rw [ih hr.2 hr'.2 fun x => ?_]
      constructor
      · intro hx
        rcases List.mem_cons.1 ((h x).1 (by simp [hx])) with e | e
        · subst e; exact absurd (hr.1 x hx) (by omega)
        · exact e
      · intro hx
        rcases List.mem_cons.1 ((h x).2 (by simp [hx])) with e | e
        · subst e; exact absurd (hr'.1 x hx) (by omega)
        · exact e
theorem Told.fact_ne {a b : Ty} {l : List (Int × Ty)} (h : Told a b l) {f : Int × Ty} (hf : f ∈ l) : look l f.1 ≠ hole f.1 := by
  rw [look_some h.rise hf]
  intro e
  exact absurd (h.least f hf _ e) (by omega)
/-- There is one at most. -/
theorem Told.uniq {a b : Ty} {l l' : List (Int × Ty)} (h : Told a b l) (h' : Told a b l') (ok : ∀ f ∈ l, allT ok1 f.2 = true) (pos : ∀ n, n ∈ hls a ∨ n ∈ hls b → 0 ≤ n) : l = l' := by
  have okl : ∀ n, 0 ≤ n → allT ok1 (look l n) = true := by
    intro n hn
    rcases look_cases (l := l) n with ⟨f, hf, e, hl⟩ | ⟨_, hl⟩
    · rw [hl]; exact ok f hf
    · rw [hl, allT_eq]
      simp [hole, ok1, hn]
  have le : ∀ n, 0 ≤ n → look l' n = look l n := by
    intro n hn
    have e := h.gen h'.one n
    rw [← e]
    conv => rhs; rw [← sub_id _ (okl n hn)]
    refine sub_congr _ fun m hm => ?_
    exact (h.same_free h' (h.free hm)).2
  have mem : ∀ (x y : List (Int × Ty)), Told a b x → Told a b y → (∀ n, 0 ≤ n → look y n = look x n) → ∀ f ∈ x, f ∈ y := by
    intro x y hx hy hxy f hf
    have h0 := pos _ (hx.theirs f hf)
    have e := hxy f.1 h0
    have hne := hx.fact_ne hf
    rcases look_cases (l := y) f.1 with ⟨g, hg, e', hl⟩ | ⟨_, hl⟩
    · rw [e, look_some hx.rise hf] at hl
      have : f = g := by rcases f with ⟨f1, f2⟩; rcases g with ⟨g1, g2⟩; simp at e' hl; simp [e', hl]
      rw [this]; exact hg
    · rw [e] at hl; exact absurd hl hne
  exact sorted_ext h.rise h'.rise fun f => ⟨mem l l' h h' le f, mem l' l h' h (fun n hn => (le n hn).symm) f⟩
/-- P8.3, of types that may be. -/
def tellF (l : List (Int × Ty)) : Prop := ∀ f ∈ l, chk f.2 = true
/-- With more alike around them it is the same. -/
theorem Told.wrap {a b c : Ty} {l : List (Int × Ty)} (nm : List UInt8) (hn : nm.isEmpty = false) (h : Told a b l) : Told ⟨nm, 0, [a, c]⟩ ⟨nm, 0, [b, c]⟩ l where
  rise := h.rise
  one := by
    rw [sub_node _ _ (by exact hn), sub_node _ _ (by exact hn)]
    simp [h.one]
  theirs := by
    intro f hf
    rw [hls_node _ (by exact hn), hls_node _ (by exact hn)]
    simp
    rcases h.theirs f hf with e | e
    · exact .inl (.inl e)
    · exact .inr (.inl e)
  idem := h.idem
  least := h.least
  most := by
    intro r hr
    rw [sub_node _ _ (by exact hn), sub_node _ _ (by exact hn)] at hr
    simp at hr
    exact h.most r hr
theorem Told.swap {a b : Ty} {l : List (Int × Ty)} (h : Told a b l) : Told b a l := ⟨h.rise, h.one.symm, fun f hf => (h.theirs f hf).symm, h.idem, h.least, fun r hr => h.most r hr.symm⟩
theorem Told.self (a : Ty) : Told a a [] := ⟨by simp, rfl, by simp, by simp, by simp, by simp⟩
end Go.Proofs.YteoflpalmckikaaDoor
