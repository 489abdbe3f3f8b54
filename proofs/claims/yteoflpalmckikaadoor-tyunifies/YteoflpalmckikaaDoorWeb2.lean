/-
  WHAT A PLACE OF THE WEB IS, as a type. No program in it.
-/
import Derived.Test.YteoflpalmckikaaDoorWeb
namespace Go.Proofs.YteoflpalmckikaaDoor
set_option linter.unusedVariables false
set_option linter.unusedSimpArgs false
def allS {α : Type} : List (Option α) → Option (List α)
  | [] => some []
  | none :: _ => none
  | some a :: r => (allS r).map (a :: ·)
theorem allS_iff {α : Type} (l : List (Option α)) : ∀ m, allS l = some m ↔ l = m.map some := by
  induction l with
  | nil => intro m; cases m <;> simp [allS]
  | cons a r ih =>
    intro m
    cases a with
    | none => cases m <;> simp [allS]
    | some a =>
      cases m with
      | nil => simp [allS]
      | cons b m =>
        simp only [allS, Option.map_eq_some_iff, List.map_cons, List.cons.injEq, Option.some.injEq]
        constructor
        · rintro ⟨x, h1, rfl, rfl⟩; exact ⟨rfl, (ih _).1 h1⟩
        · rintro ⟨rfl, h⟩; exact ⟨m, (ih _).2 h, rfl, rfl⟩
/-- The type that a place is, of at most so many levels. -/
def Gd (fc : Nat → Option Shp) (ro : Nat → Nat) (lea : Nat → Int) : Nat → Nat → Option Ty
  | 0, _ => none
  | lv + 1, i => match fc (ro i) with
    | none => some (hole (lea (ro i)))
    | some s => (allS (s.2.map (Gd fc ro lea lv))).map fun l => ⟨s.1, 0, l⟩
section
variable {sh fc : Nat → Option Shp} {ro : Nat → Nat} {lea : Nat → Int}
theorem gd_none {lv i : Nat} (h : fc (ro i) = none) : Gd fc ro lea (lv + 1) i = some (hole (lea (ro i))) := by rw [Gd, h]
theorem gd_some {lv i : Nat} {s : Shp} (h : fc (ro i) = some s) (T : Ty) : Gd fc ro lea (lv + 1) i = some T ↔ ∃ l, s.2.map (Gd fc ro lea lv) = l.map some ∧ T = ⟨s.1, 0, l⟩ := by
  rw [Gd, h]
  simp only [Option.map_eq_some_iff]
  constructor
  · rintro ⟨l, h1, rfl⟩; exact ⟨l, (allS_iff _ _).1 h1, rfl⟩
  · rintro ⟨l, h1, rfl⟩; exact ⟨l, (allS_iff _ _).2 h1, rfl⟩
theorem gd_ro {lv i j : Nat} (h : ro i = ro j) : Gd fc ro lea lv i = Gd fc ro lea lv j := by
  cases lv with
  | zero => rfl
  | succ lv => rw [Gd, Gd, h]
theorem gd_mono (lv : Nat) : ∀ i T, Gd fc ro lea lv i = some T → Gd fc ro lea (lv + 1) i = some T := by
  induction lv with
  | zero => intro i T h; cases h
  | succ lv ih =>
    intro i T h
    cases hs : fc (ro i) with
    | none => rw [gd_none hs] at h ⊢; exact h
    | some s =>
      rw [gd_some hs] at h ⊢
      obtain ⟨l, h1, rfl⟩ := h
      refine ⟨l, ?_, rfl⟩
      rw [← h1]
      refine List.map_congr_left fun k hk => ?_
      have hl : Gd fc ro lea lv k ∈ s.2.map (Gd fc ro lea lv) := List.mem_map.2 ⟨k, hk, rfl⟩
      rw [h1] at hl
      obtain ⟨t, _, ht⟩ := List.mem_map.1 hl
      rw [ih k t ht.symm, ← ht]
theorem gd_more {lv lv' i : Nat} {T : Ty} (h : Gd fc ro lea lv i = some T) (hl : lv ≤ lv') : Gd fc ro lea lv' i = some T := by
  induction hl with
  | refl => exact h
  | step _ ih => exact gd_mono _ _ _ ih
/-- A list of places, each of which is a type, is one at some level. -/
theorem gd_all (l : List Nat) (g : Nat → Ty) (h : ∀ i ∈ l, ∃ lv, Gd fc ro lea lv i = some (g i)) : ∃ lv, l.map (Gd fc ro lea lv) = (l.map g).map some := by
  induction l with
  | nil => exact ⟨0, rfl⟩
  | cons a r ih =>
    obtain ⟨m, hm⟩ := h a List.mem_cons_self
    obtain ⟨n, hn⟩ := ih fun i hi => h i (List.mem_cons_of_mem _ hi)
    refine ⟨max m n, ?_⟩
    simp only [List.map_cons, List.cons.injEq]
    refine ⟨gd_more hm (Nat.le_max_left _ _), ?_⟩
    rw [List.map_map] at hn ⊢
    refine List.map_congr_left fun k hk => ?_
    have hk2 : Gd fc ro lea n k = some (g k) := by
      have h1 : r.map (Gd fc ro lea n) = r.map (some ∘ g) := hn
      exact List.map_inj_left.1 h1 k hk
    exact gd_more hk2 (Nat.le_max_right _ _)
/-- With what its holes are, each place is its type. -/
theorem gd_sub {tm : Nat → Ty} {sg : Int → Ty} (hC : Cl sh fc ro []) (hT : ∀ i nm as, sh i = some (nm, as) → tm i = ⟨nm, 0, as.map tm⟩ ∧ nm.isEmpty = false) (P : Nat → Prop) (hP : ∀ i nm as, P i → sh i = some (nm, as) → ∀ j ∈ as, P j)
    (hH : ∀ i, P i → sh i = none → ∃ m, tm i = hole m ∧ ∃ lv, Gd fc ro lea lv i = some (sg m)) (t : Ty) : ∀ i, P i → tm i = t → ∃ lv, Gd fc ro lea lv i = some (sub sg t) := by
  induction t using Ty.ind with
  | _ t ih =>
    intro i hi ht
    cases hs : sh i with
    | none =>
      obtain ⟨m, h1, h2⟩ := hH i hi hs
      rw [← ht, h1, sub_hole]
      exact h2
    | some s =>
      obtain ⟨nm, as⟩ := s
      obtain ⟨h1, h2⟩ := hT i nm as hs
      obtain ⟨bs, h3, h4, h5⟩ := hC i nm as hs
      rw [ht] at h1
      have hk : ∀ j ∈ as, ∃ lv, Gd fc ro lea lv j = some (sub sg (tm j)) := fun j hj => ih (tm j) (by rw [h1]; exact List.mem_map.2 ⟨j, hj, rfl⟩) j (hP i nm as hi hs j hj) rfl
      obtain ⟨lv, hlv⟩ := gd_all as (fun j => sub sg (tm j)) hk
      refine ⟨lv + 1, (gd_some h3 _).2 ⟨as.map fun j => sub sg (tm j), ?_, ?_⟩⟩
      · rw [← hlv]
        refine List.ext_getElem? fun k => ?_
        rw [List.getElem?_map, List.getElem?_map]
        by_cases hk : k < as.length
        · have e1 := List.getElem?_eq_getElem hk
          have e2 : bs[k]? = some (bs[k]'(by omega)) := List.getElem?_eq_getElem _
          rw [e1, e2]
          simp only [Option.map_some, Option.some.injEq]
          exact gd_ro (h5 k _ _ e1 e2).nil.symm
        · have e3 : bs[k]? = none := List.getElem?_eq_none (by omega)
          have e4 : as[k]? = none := List.getElem?_eq_none (by omega)
          show Option.map _ bs[k]? = Option.map _ as[k]?
          rw [e3, e4]
      · rw [h1, sub_node _ _ h2, List.map_map]
        rfl
/-- Whatever goes with the shapes says no more than what a place is. -/
theorem gd_most {V : Nat → Ty} {r : Int → Ty} (hF : Fit sh V) (hA : Agr ro V) (hO : Own sh fc ro) (hi : ∀ i, ro (ro i) = ro i) (hn : ∀ i nm as, sh i = some (nm, as) → nm.isEmpty = false) (P : Nat → Prop) (hP : ∀ i s, P i → fc (ro i) = some s → ∀ j ∈ s.2, P j)
    (hL : ∀ i, P i → fc (ro i) = none → r (lea (ro i)) = V i) (lv : Nat) : ∀ i T, P i → Gd fc ro lea lv i = some T → sub r T = V i := by
  induction lv with
  | zero => intro i T _ h; cases h
  | succ lv ih =>
    intro i T hPi h
    cases hs : fc (ro i) with
    | none =>
      rw [gd_none hs] at h
      cases h
      rw [sub_hole]
      exact hL i hPi hs
    | some s =>
      obtain ⟨l, h1, rfl⟩ := (gd_some hs _).1 h
      obtain ⟨j, h2, h3⟩ := hO (ro i) s (hi i) hs
      have h4 := hF j s.1 s.2 h3
      have h5 : V j = V i := hA _ _ h2
      rw [← h5, h4, sub_node _ _ (by exact hn j s.1 s.2 h3)]
      simp only [Ty.mk.injEq, true_and]
      refine List.ext_getElem? fun k => ?_
      rw [List.getElem?_map, List.getElem?_map]
      have h6 := congrArg (fun x => x[k]?) h1
      simp only [List.getElem?_map] at h6
      cases hk : s.2[k]? with
      | none =>
        rw [hk] at h6
        cases hl : l[k]? with
        | none => rfl
        | some T => rw [hl] at h6; cases h6
      | some u =>
        rw [hk] at h6
        cases hl : l[k]? with
        | none => rw [hl] at h6; cases h6
        | some T =>
          rw [hl] at h6
          simp only [Option.map_some, Option.some.injEq] at h6 ⊢
          exact ih u T (hP i s hPi hs u (List.mem_of_getElem? hk)) h6
/-- What goes with the shapes and is not too deep: the place is a type at that depth. -/
theorem gd_deep {V : Nat → Ty} (hF : Fit sh V) (hA : Agr ro V) (hO : Own sh fc ro) (hi : ∀ i, ro (ro i) = ro i) (lv : Nat) : ∀ i, tdp (V i) ≤ lv → ∃ T, Gd fc ro lea lv i = some T := by
  induction lv with
  | zero => intro i h; exact absurd h (by have := tdp_pos (V i); omega)
  | succ lv ih =>
    intro i h
    cases hs : fc (ro i) with
    | none => exact ⟨_, gd_none hs⟩
    | some s =>
      obtain ⟨j, h2, h3⟩ := hO (ro i) s (hi i) hs
      have h4 := hF j s.1 s.2 h3
      have h5 : V j = V i := hA _ _ h2
      rw [← h5, h4, tdp_le] at h
      have hk : ∀ u ∈ s.2, ∃ T, Gd fc ro lea lv u = some T := fun u hu => ih u (h (V u) (List.mem_map.2 ⟨u, hu, rfl⟩))
      have hall : ∀ l : List Nat, (∀ u ∈ l, ∃ T, Gd fc ro lea lv u = some T) → ∃ m : List Ty, l.map (Gd fc ro lea lv) = m.map some := by
        intro l
        induction l with
        | nil => intro _; exact ⟨[], rfl⟩
        | cons a q ihl =>
          intro hq
          obtain ⟨T, hT⟩ := hq a List.mem_cons_self
          obtain ⟨m, hm⟩ := ihl fun u hu => hq u (List.mem_cons_of_mem _ hu)
          exact ⟨T :: m, by rw [List.map_cons, List.map_cons, hT, hm]⟩
      obtain ⟨m, hm⟩ := hall s.2 hk
      exact ⟨_, (gd_some hs _).2 ⟨m, hm, rfl⟩⟩
/-- Of as many levels at most. -/
theorem gd_tdp (lv : Nat) : ∀ i T, Gd fc ro lea lv i = some T → tdp T ≤ lv := by
  induction lv with
  | zero => intro i T h; cases h
  | succ lv ih =>
    intro i T h
    cases hs : fc (ro i) with
    | none =>
      rw [gd_none hs] at h
      cases h
      rw [tdp_le]
      intro k hk
      cases hk
    | some s =>
      obtain ⟨l, h1, rfl⟩ := (gd_some hs _).1 h
      rw [tdp_le]
      intro k hk
      have h2 : some k ∈ l.map some := List.mem_map.2 ⟨k, hk, rfl⟩
      rw [← h1] at h2
      obtain ⟨u, _, hu⟩ := List.mem_map.1 h2
      exact ih u k hu
end
end Go.Proofs.YteoflpalmckikaaDoor
