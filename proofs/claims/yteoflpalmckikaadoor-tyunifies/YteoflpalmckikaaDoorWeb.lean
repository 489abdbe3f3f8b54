/-
  THE WEB OF TWO TYPES, as mathematics: places, who tells for whom, and what is told of the places that tell. No program in it.
-/
import Derived.Test.YteoflpalmckikaaDoorMgu
namespace Go.Proofs.YteoflpalmckikaaDoor
set_option linter.unusedVariables false
set_option linter.unusedSimpArgs false
/-- A shape: a name, and the places of its Args. -/
abbrev Shp := List UInt8 × List Nat
/-- Places that are one by the tellers, or by pairs that wait, are one. -/
def Rel (ro : Nat → Nat) (pend : List (Nat × Nat)) (x y : Nat) : Prop := ∀ f : Nat → Nat, (∀ i j, ro i = ro j → f i = f j) → (∀ p ∈ pend, f p.1 = f p.2) → f x = f y
theorem Rel.nil {ro : Nat → Nat} {x y : Nat} (h : Rel ro [] x y) : ro x = ro y := h ro (fun _ _ h => h) (fun p hp => by cases hp)
/-- Each place with a shape: its teller's is of the same name, of Args that are one with its own. -/
def Cl (sh fc : Nat → Option Shp) (ro : Nat → Nat) (pend : List (Nat × Nat)) : Prop := ∀ i nm as, sh i = some (nm, as) → ∃ bs, fc (ro i) = some (nm, bs) ∧ bs.length = as.length ∧ ∀ (k x y : Nat), as[k]? = some x → bs[k]? = some y → Rel ro pend x y
/-- What is told of a place that tells was some place's that it tells for. -/
def Own (sh fc : Nat → Option Shp) (ro : Nat → Nat) : Prop := ∀ r s, ro r = r → fc r = some s → ∃ i, ro i = r ∧ sh i = some s
/-- Values of the places that go with the shapes. -/
def Fit (sh : Nat → Option Shp) (V : Nat → Ty) : Prop := ∀ i nm as, sh i = some (nm, as) → V i = ⟨nm, 0, as.map V⟩
/-- Two places that tell, made one: the first one tells for both. -/
def mergeR (ro : Nat → Nat) (a b : Nat) : Nat → Nat := fun i => if ro i = b then a else ro i
def mergeF (fc : Nat → Option Shp) (a b : Nat) : Nat → Option Shp := fun r => if r = a ∧ fc a = none then fc b else fc r
theorem mergeR_one {ro : Nat → Nat} {a b i j : Nat} (h : ro i = ro j) : mergeR ro a b i = mergeR ro a b j := by unfold mergeR; rw [h]
theorem mergeR_idem {ro : Nat → Nat} {a b : Nat} (hi : ∀ i, ro (ro i) = ro i) (ha : ro a = a) (hne : a ≠ b) (i : Nat) : mergeR ro a b (mergeR ro a b i) = mergeR ro a b i := by
  unfold mergeR
  split
  · rw [ha, if_neg hne]
  · rename_i h
    rw [hi, if_neg h]
theorem cl_merge {sh fc : Nat → Option Shp} {ro : Nat → Nat} {pend : List (Nat × Nat)} {x y : Nat} (h : Cl sh fc ro ((x, y) :: pend)) (hne : ro x ≠ ro y) (hx : ro (ro x) = ro x)
    (hs : ∀ s t, fc (ro x) = some s → fc (ro y) = some t → s.1 = t.1 ∧ s.2.length = t.2.length) :
    Cl sh (mergeF fc (ro x) (ro y)) (mergeR ro (ro x) (ro y)) ((match fc (ro x), fc (ro y) with | some s, some t => s.2.zip t.2 | _, _ => []) ++ pend) := by
  intro i nm as hi
  obtain ⟨bs, h1, h2, h3⟩ := h i nm as hi
  have old : ∀ f : Nat → Nat, (∀ i j, mergeR ro (ro x) (ro y) i = mergeR ro (ro x) (ro y) j → f i = f j) → (∀ p ∈ (match fc (ro x), fc (ro y) with | some s, some t => s.2.zip t.2 | _, _ => []) ++ pend, f p.1 = f p.2) → (∀ i j, ro i = ro j → f i = f j) ∧ ∀ p ∈ (x, y) :: pend, f p.1 = f p.2 := by
    intro f hf hp
    refine ⟨fun i j e => hf i j (mergeR_one e), fun p hpp => ?_⟩
    rcases List.mem_cons.1 hpp with rfl | hpp
    · refine hf _ _ ?_
      unfold mergeR
      rw [if_neg hne, if_pos rfl]
    · exact hp p (List.mem_append_right _ hpp)
  by_cases hb : ro i = ro y
  · have e : mergeR ro (ro x) (ro y) i = ro x := by unfold mergeR; rw [if_pos hb]
    rw [e]
    rw [hb] at h1
    cases ha : fc (ro x) with
    | none =>
      refine ⟨bs, by unfold mergeF; rw [if_pos ⟨rfl, ha⟩]; exact h1, h2, fun k u v hu hv => ?_⟩
      intro f hf hp
      rw [ha] at old
      obtain ⟨o1, o2⟩ := old f hf hp
      exact h3 k u v hu hv f o1 o2
    | some s =>
      obtain ⟨s1, s2⟩ := hs s _ ha h1
      refine ⟨s.2, by unfold mergeF; rw [if_neg (by rw [ha]; simp), ha, ← show s.1 = nm from s1], by rw [s2]; exact h2, fun k u v hu hv => ?_⟩
      intro f hf hp
      rw [ha, h1] at old
      rw [h1] at hp
      obtain ⟨o1, o2⟩ := old f hf hp
      have hk : k < bs.length := by rw [h2]; exact (List.getElem?_eq_some_iff.1 hu).1
      have hw : bs[k]? = some bs[k] := List.getElem?_eq_getElem hk
      rw [h3 k u bs[k] hu hw f o1 o2]
      refine (hp (v, bs[k]) (List.mem_append_left _ ?_)).symm
      refine List.mem_iff_getElem?.2 ⟨k, ?_⟩
      rw [List.getElem?_zip_eq_some]
      exact ⟨hv, hw⟩
  · have e : mergeR ro (ro x) (ro y) i = ro i := by unfold mergeR; rw [if_neg hb]
    rw [e]
    refine ⟨bs, by unfold mergeF; rw [if_neg (by rintro ⟨e1, e2⟩; rw [e1, e2] at h1; cases h1)]; exact h1, h2, fun k u v hu hv => ?_⟩
    intro f hf hp
    obtain ⟨o1, o2⟩ := old f hf hp
    exact h3 k u v hu hv f o1 o2
theorem own_merge {sh fc : Nat → Option Shp} {ro : Nat → Nat} {a b : Nat} (h : Own sh fc ro) (ha : ro a = a) (hb : ro b = b) (hne : a ≠ b) : Own sh (mergeF fc a b) (mergeR ro a b) := by
  intro r s hr hs
  unfold mergeF at hs
  split at hs
  · rename_i hc
    obtain ⟨i, h1, h2⟩ := h b s hb hs
    exact ⟨i, by unfold mergeR; rw [if_pos h1, hc.1], h2⟩
  · have hrr : ro r = r ∧ r ≠ b := by
      unfold mergeR at hr
      split at hr
      · rename_i hc
        rw [← hr] at hc
        exact absurd (ha.symm.trans hc) hne
      · rename_i hc
        exact ⟨hr, fun e => hc (by rw [hr, e])⟩
    obtain ⟨i, h1, h2⟩ := h r s hrr.1 hs
    exact ⟨i, by unfold mergeR; rw [if_neg (by rw [h1]; exact hrr.2)]; exact h1, h2⟩
/-- Whoever goes with the shapes, and by whom two places are one, is alike along the tellers. -/
def Agr (ro : Nat → Nat) (V : Nat → Ty) : Prop := ∀ i j, ro i = ro j → V i = V j
theorem agr_merge {ro : Nat → Nat} {V : Nat → Ty} {x y : Nat} (hA : Agr ro V) (hi : ∀ i, ro (ro i) = ro i) (h : V x = V y) : Agr (mergeR ro (ro x) (ro y)) V := by
  have key : ∀ i, V i = V (mergeR ro (ro x) (ro y) i) := fun i => by
    unfold mergeR
    split
    · rename_i hc
      rw [hA i y hc, ← h]
      exact hA _ _ (hi x).symm
    · exact hA _ _ (hi i).symm
  intro i j e
  rw [key i, key j, e]
/-- What follows of two places that are one by whoever goes with the shapes. -/
theorem agr_args {sh fc : Nat → Option Shp} {ro : Nat → Nat} {V : Nat → Ty} {a b : Nat} {s t : Shp} (hF : Fit sh V) (hA : Agr ro V) (hO : Own sh fc ro) (ha : ro a = a) (hb : ro b = b) (h : V a = V b) (hs : fc a = some s) (ht : fc b = some t) : s.1 = t.1 ∧ s.2.length = t.2.length ∧ ∀ (k u v : Nat), s.2[k]? = some u → t.2[k]? = some v → V u = V v := by
  obtain ⟨i, h1, h2⟩ := hO a s ha hs
  obtain ⟨j, h3, h4⟩ := hO b t hb ht
  have e1 : V i = V a := hA _ _ (h1.trans ha.symm)
  have e2 : V j = V b := hA _ _ (h3.trans hb.symm)
  have e3 := hF i s.1 s.2 h2
  have e4 := hF j t.1 t.2 h4
  have e5 : (⟨s.1, 0, s.2.map V⟩ : Ty) = ⟨t.1, 0, t.2.map V⟩ := by rw [← e3, ← e4, e1, e2, h]
  simp only [Ty.mk.injEq, true_and] at e5
  obtain ⟨k1, k2⟩ := e5
  refine ⟨k1, by have := congrArg List.length k2; simpa using this, fun k u v hu hv => ?_⟩
  have := congrArg (fun l => l[k]?) k2
  simp only [List.getElem?_map, hu, hv, Option.map_some, Option.some.injEq] at this
  exact this
end Go.Proofs.YteoflpalmckikaaDoor
