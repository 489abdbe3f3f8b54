/-
  WHAT UNIFY COMES TO (UnifyQ), out of the web; and what the laws of layer 8 ask of it. No program in it.
-/
import Derived.Test.YteoflpalmckikaaDoorWeb4
namespace Go.Proofs.YteoflpalmckikaaDoor
set_option linter.unusedVariables false
set_option linter.unusedSimpArgs false
/-- What ty.Unify tells of two types that may be: the facts, or that whatever makes them one is somewhere none that may be. -/
def UnifyQ (a b : Ty) (l : List (Int × Ty)) (e : Int) : Prop := (e = 0 ∧ Told a b l ∧ tellF l) ∨ (e = 80 ∧ l = [] ∧ ∀ r : Int → Ty, sub r a = sub r b → ∃ m, (m ∈ hls a ∨ m ∈ hls b) ∧ chk (r m) = false)
section
variable {sh fc : Nat → Option Shp} {ro : Nat → Nat} {lea : Nat → Int} {tm : Nat → Ty} {hp : Int → Option Nat} {n x y : Nat}
theorem Tied.fits (h : Tied sh fc ro lea tm hp n x y) {r : Int → Ty} (hr : sub r (tm x) = sub r (tm y)) {m : Int} {i : Nat} (hm : hp m = some i) (hc : chk (r m) = true) : ∃ T, Gd fc ro lea 60 i = some T ∧ tsz T ≤ 2000 := by
  obtain ⟨hi, hs, h4, h0⟩ := h.laid.spot _ i hm
  have hA := h.agr _ (h.laid.fit r) hr
  have hv : sub r (tm i) = r m := by rw [h4, sub_hole]
  obtain ⟨_, c2, c3⟩ := (chk_iff _).1 hc
  obtain ⟨T, hT⟩ := gd_deep (lea := lea) (h.laid.fit r) hA h.own h.idem 60 i (by show tdp (sub r (tm i)) ≤ 60; rw [hv]; exact c2)
  have hmo := h.most hr hi hT
  rw [hv] at hmo
  have := sub_sz (s := r) T (h.holes 60 i T hi hT).1
  rw [hmo] at this
  exact ⟨T, hT, by omega⟩
theorem unify_ok (h : Tied sh fc ro lea tm hp n x y) {l : List (Int × Ty)} (ht : Told1 fc ro lea hp l) (hth : ∀ m i, hp m = some i → m ∈ hls (tm x) ∨ m ∈ hls (tm y)) : UnifyQ (tm x) (tm y) l 0 := .inl ⟨rfl, h.told ht hth⟩
theorem unify_great (h : Tied sh fc ro lea tm hp n x y) (hth : ∀ m i, hp m = some i → m ∈ hls (tm x) ∨ m ∈ hls (tm y)) {m : Int} {i : Nat} (hm : hp m = some i) (hno : ∀ T, Gd fc ro lea 60 i = some T → ¬ tsz T ≤ 2000) : UnifyQ (tm x) (tm y) [] 80 := by
  refine .inr ⟨rfl, rfl, fun r hr => ⟨m, hth m i hm, ?_⟩⟩
  cases hc : chk (r m) with
  | false => rfl
  | true =>
    obtain ⟨T, h1, h2⟩ := h.fits hr hm hc
    exact absurd h2 (hno T h1)
theorem unify_none (h : Laid sh tm hp n) (hno : ∀ V, Fit sh V → V x ≠ V y) : UnifyQ (tm x) (tm y) [] 80 := .inr ⟨rfl, rfl, fun r hr => absurd hr (hno _ (h.fit r))⟩
end
theorem chk_hole {m : Int} (h : 0 ≤ m) : chk (hole m) = true := by
  rw [chk_iff]
  refine ⟨by rw [allT_eq]; simp [hole, ok1, h], ?_, ?_⟩
  · rw [tdp_le]; intro k hk; cases hk
  · rw [tsz_eq]; show 1 + 0 ≤ 2000; omega
theorem chk_look {l : List (Int × Ty)} (h : ∀ f ∈ l, chk f.2 = true) {m : Int} (hm : 0 ≤ m) : chk (look l m) = true := by
  rcases look_cases (l := l) m with ⟨f, hf, _, e⟩ | ⟨_, e⟩
  · rw [e]; exact h f hf
  · rw [e]; exact chk_hole hm
theorem chk_pos {a : Ty} (h : chk a = true) : ∀ n ∈ hls a, 0 ≤ n := hls_pos a ((chk_iff a).1 h).1
theorem told_pos {a b : Ty} (ha : chk a = true) (hb : chk b = true) : ∀ n, n ∈ hls a ∨ n ∈ hls b → 0 ≤ n := fun n hn => hn.elim (chk_pos ha n) (chk_pos hb n)
/-- A unifier by facts that may be: Unify tells facts. -/
theorem UnifyQ.ok {a b : Ty} {l : List (Int × Ty)} {e : Int} (h : UnifyQ a b l e) (ha : chk a = true) (hb : chk b = true) {s : List (Int × Ty)} (hs : ∀ f ∈ s, chk f.2 = true) (hr : sub (look s) a = sub (look s) b) : e = 0 ∧ Told a b l ∧ tellF l := by
  rcases h with h | ⟨_, _, h⟩
  · exact h
  · obtain ⟨m, h1, h2⟩ := h _ hr
    rw [chk_look hs (told_pos ha hb m h1)] at h2
    cases h2
/-- TyTurns: with more alike around them it is the same. -/
theorem turns_math {a b c : Ty} {l m : List (Int × Ty)} {e f : Int} (nm : List UInt8) (hn : nm.isEmpty = false) (hx : chk ⟨nm, 0, [a, c]⟩ = true) (hy : chk ⟨nm, 0, [b, c]⟩ = true) (ha : chk a = true) (hb : chk b = true) (h : UnifyQ a b l e) (k : UnifyQ ⟨nm, 0, [a, c]⟩ ⟨nm, 0, [b, c]⟩ m f) : e = f ∧ l = m := by
  have wrap : ∀ r : Int → Ty, sub r a = sub r b ↔ sub r ⟨nm, 0, [a, c]⟩ = sub r ⟨nm, 0, [b, c]⟩ := fun r => by
    rw [sub_node r ⟨nm, 0, [a, c]⟩ hn, sub_node r ⟨nm, 0, [b, c]⟩ hn]
    simp
  have h' := h
  have k' := k
  rcases h with ⟨rfl, h1, h2⟩ | ⟨rfl, rfl, h3⟩
  · obtain ⟨rfl, k1, k2⟩ := k'.ok hx hy h2 ((wrap _).1 h1.one)
    exact ⟨rfl, (h1.wrap nm hn).uniq k1 (fun f hf => ((chk_iff _).1 (h2 f hf)).1) (told_pos hx hy)⟩
  · rcases k with ⟨rfl, k1, k2⟩ | ⟨rfl, rfl, _⟩
    · obtain ⟨h4, _⟩ := h'.ok ha hb k2 ((wrap _).2 k1.one)
      cases h4
    · exact ⟨rfl, rfl⟩
/-- A type and itself need no facts. -/
theorem self_math {a : Ty} {l : List (Int × Ty)} {e : Int} (ha : chk a = true) (h : UnifyQ a a l e) : e = 0 ∧ l = [] := by
  obtain ⟨rfl, h1, h2⟩ := h.ok ha ha (s := []) (fun f hf => by cases hf) rfl
  exact ⟨rfl, h1.uniq (Told.self a) (fun f hf => ((chk_iff _).1 (h2 f hf)).1) (told_pos ha ha)⟩
/-- Both ways it is the same. -/
theorem swap_math {a b : Ty} {l m : List (Int × Ty)} {e f : Int} (ha : chk a = true) (hb : chk b = true) (h : UnifyQ a b l e) (k : UnifyQ b a m f) : e = f ∧ l = m := by
  have h' := h
  have k' := k
  rcases h with ⟨rfl, h1, h2⟩ | ⟨rfl, rfl, h3⟩
  · obtain ⟨rfl, k1, k2⟩ := k'.ok hb ha h2 h1.one.symm
    exact ⟨rfl, h1.swap.uniq k1 (fun f hf => ((chk_iff _).1 (h2 f hf)).1) (told_pos hb ha)⟩
  · rcases k with ⟨rfl, k1, k2⟩ | ⟨rfl, rfl, _⟩
    · obtain ⟨h4, _⟩ := h'.ok ha hb k2 k1.one.symm
      cases h4
    · exact ⟨rfl, rfl⟩
/-- Any two answers are one. -/
theorem UnifyQ.uniq {a b : Ty} {l m : List (Int × Ty)} {e f : Int} (ha : chk a = true) (hb : chk b = true) (h : UnifyQ a b l e) (k : UnifyQ a b m f) : e = f ∧ l = m := by
  have h' := h
  have k' := k
  rcases h with ⟨rfl, h1, h2⟩ | ⟨rfl, rfl, h3⟩
  · obtain ⟨rfl, k1, k2⟩ := k'.ok ha hb h2 h1.one
    exact ⟨rfl, h1.uniq k1 (fun f hf => ((chk_iff _).1 (h2 f hf)).1) (told_pos ha hb)⟩
  · rcases k with ⟨rfl, k1, k2⟩ | ⟨rfl, rfl, _⟩
    · obtain ⟨h4, _⟩ := h'.ok ha hb k2 k1.one
      cases h4
    · exact ⟨rfl, rfl⟩
/-- TyOne: no hole of which there is a fact is left. -/
theorem one_left {a b : Ty} {l : List (Int × Ty)} (h : Told a b l) : ∀ m ∈ hls (sub (look l) a), ∀ f ∈ l, f.1 ≠ m := by
  intro m hm f hf e
  rw [hls_sub] at hm
  obtain ⟨k, _, hk⟩ := List.mem_flatMap.1 hm
  have := h.free hk
  rw [← e] at this
  exact h.fact_ne hf this
/-- TyLeast: what is told says no more than facts that make the two one. -/
theorem least_math {a b : Ty} {l s : List (Int × Ty)} (h : Told a b l) (hr : sub (look s) a = sub (look s) b) : ∀ f ∈ l, sub (look s) f.2 = look s f.1 := fun f hf => h.most _ hr f hf
theorem applyM_ok {l : List (Int × Ty)} {t : Ty} (ht : chk t = true) (hl : ∀ f ∈ l, 0 ≤ f.1 ∧ chk f.2 = true) : applyM l t = sub (look l) t := by
  unfold applyM
  rw [if_pos]
  rw [ht, Bool.true_and, List.all_eq_true]
  intro f hf
  simp [(hl f hf).1, (hl f hf).2]
theorem told_apply {a b t : Ty} {l : List (Int × Ty)} (ha : chk a = true) (hb : chk b = true) (h : Told a b l) (hf : tellF l) (ht : chk t = true) : applyM l t = sub (look l) t := applyM_ok ht fun f hm => ⟨told_pos ha hb _ (h.theirs f hm), hf f hm⟩
end Go.Proofs.YteoflpalmckikaaDoor
