/-
  WHAT IS TOLD OF TWO TYPES BY THEIR WEB is what Mgu.lean calls told; and if it is too deep, or too great, nothing that may be is. No program in it.
-/
import Derived.Test.YteoflpalmckikaaDoorWeb2
namespace Go.Proofs.YteoflpalmckikaaDoor
set_option linter.unusedVariables false
set_option linter.unusedSimpArgs false
/-- Types that were laid: places below n, with their types; each hole has one place. -/
structure Laid (sh : Nat → Option Shp) (tm : Nat → Ty) (hp : Int → Option Nat) (n : Nat) : Prop where
  shape : ∀ i nm as, sh i = some (nm, as) → tm i = ⟨nm, 0, as.map tm⟩ ∧ nm.isEmpty = false ∧ nm.length ≤ 20 ∧ ∀ j ∈ as, j < n
  leaf : ∀ i, i < n → sh i = none → ∃ m, tm i = hole m ∧ hp m = some i
  spot : ∀ m i, hp m = some i → i < n ∧ sh i = none ∧ tm i = hole m ∧ 0 ≤ m
/-- The web of two types, once all that follows is tied. -/
structure Tied (sh fc : Nat → Option Shp) (ro : Nat → Nat) (lea : Nat → Int) (tm : Nat → Ty) (hp : Int → Option Nat) (n x y : Nat) : Prop where
  laid : Laid sh tm hp n
  idem : ∀ i, ro (ro i) = ro i
  cl : Cl sh fc ro []
  own : Own sh fc ro
  one : ro x = ro y
  agr : ∀ V, Fit sh V → V x = V y → Agr ro V
  low : ∀ m i, hp m = some i → lea (ro i) ≤ m ∧ ∃ j, hp (lea (ro i)) = some j ∧ ro j = ro i
  xn : x < n
  yn : y < n
variable {sh fc : Nat → Option Shp} {ro : Nat → Nat} {lea : Nat → Int} {tm : Nat → Ty} {hp : Int → Option Nat} {n x y : Nat}
theorem Laid.fit (h : Laid sh tm hp n) (r : Int → Ty) : Fit sh fun i => sub r (tm i) := by
  intro i nm as hs
  obtain ⟨h1, h2, _⟩ := h.shape i nm as hs
  show sub r (tm i) = _
  rw [h1, sub_node _ _ h2, List.map_map]
  rfl
theorem Tied.arg (h : Tied sh fc ro lea tm hp n x y) {i : Nat} {s : Shp} (hs : fc (ro i) = some s) : ∀ j ∈ s.2, j < n := by
  obtain ⟨j, _, h3⟩ := h.own (ro i) s (h.idem i) hs
  exact (h.laid.shape j s.1 s.2 h3).2.2.2
theorem Tied.leafN (h : Tied sh fc ro lea tm hp n x y) {i : Nat} (hi : i < n) (hs : fc (ro i) = none) : ∃ m j, tm i = hole m ∧ hp m = some i ∧ hp (lea (ro i)) = some j ∧ ro j = ro i := by
  have h1 : sh i = none := by
    cases hx : sh i with
    | none => rfl
    | some s =>
      obtain ⟨bs, h2, _⟩ := h.cl i s.1 s.2 hx
      rw [hs] at h2; cases h2
  obtain ⟨m, h2, h3⟩ := h.laid.leaf i hi h1
  obtain ⟨_, j, h4, h5⟩ := h.low m i h3
  exact ⟨m, j, h2, h3, h4, h5⟩
theorem Tied.most (h : Tied sh fc ro lea tm hp n x y) {r : Int → Ty} (hr : sub r (tm x) = sub r (tm y)) {lv i : Nat} {T : Ty} (hi : i < n) (hg : Gd fc ro lea lv i = some T) : sub r T = sub r (tm i) := by
  have hA := h.agr _ (h.laid.fit r) hr
  refine gd_most (h.laid.fit r) hA h.own h.idem (fun i nm as hs => (h.laid.shape i nm as hs).2.1) (fun i => i < n) (fun i s _ hs => h.arg hs) (fun i hi hs => ?_) lv i T hi hg
  obtain ⟨m, j, _, _, h4, h5⟩ := h.leafN hi hs
  have e := hA j i h5
  simp only at e
  rw [(h.laid.spot _ j h4).2.2.1, sub_hole] at e
  exact e
/-- Holes of what a place is are least ones. -/
theorem Tied.holes (h : Tied sh fc ro lea tm hp n x y) (lv : Nat) : ∀ i T, i < n → Gd fc ro lea lv i = some T → allT ok1 T = true ∧ ∀ m ∈ hls T, ∃ j, j < n ∧ hp m = some j ∧ fc (ro j) = none ∧ lea (ro j) = m := by
  induction lv with
  | zero => intro i T _ hg; cases hg
  | succ lv ih =>
    intro i T hi hg
    cases hs : fc (ro i) with
    | none =>
      rw [gd_none hs] at hg
      cases hg
      obtain ⟨m, j, _, _, h4, h5⟩ := h.leafN hi hs
      obtain ⟨k1, _, _, k4⟩ := h.laid.spot _ j h4
      refine ⟨?_, fun m hm => ?_⟩
      · rw [allT_eq]
        simp [hole, ok1, k4]
      · rw [hls_hole] at hm
        obtain rfl := List.mem_singleton.1 hm
        exact ⟨j, k1, h4, by rw [h5]; exact hs, by rw [h5]⟩
    | some s =>
      obtain ⟨l, h1, rfl⟩ := (gd_some hs _).1 hg
      obtain ⟨q, _, h3⟩ := h.own (ro i) s (h.idem i) hs
      obtain ⟨_, n1, n2, _⟩ := h.laid.shape q s.1 s.2 h3
      have hk : ∀ k ∈ l, ∃ u ∈ s.2, Gd fc ro lea lv u = some k := fun k hk => by
        have h2 : some k ∈ l.map some := List.mem_map.2 ⟨k, hk, rfl⟩
        rw [← h1] at h2
        exact List.mem_map.1 h2
      refine ⟨?_, fun m hm => ?_⟩
      · rw [allT_eq, Bool.and_eq_true]
        refine ⟨?_, List.all_eq_true.2 fun k hkk => ?_⟩
        · show ok1 ⟨s.1, 0, l⟩ = true
          unfold ok1
          simp only [n1]
          simp [n2]
        · obtain ⟨u, hu, hgu⟩ := hk k hkk
          exact (ih u k (h.arg hs u hu) hgu).1
      · rw [hls_node _ (by exact n1)] at hm
        obtain ⟨k, hkk, hmk⟩ := List.mem_flatMap.1 hm
        obtain ⟨u, hu, hgu⟩ := hk k hkk
        exact (ih u k (h.arg hs u hu) hgu).2 m hmk
/-- The list that is told: rising, of each hole that is another type. -/
structure Told1 (fc : Nat → Option Shp) (ro : Nat → Nat) (lea : Nat → Int) (hp : Int → Option Nat) (l : List (Int × Ty)) : Prop where
  rise : l.Pairwise fun f g => f.1 < g.1
  fact : ∀ f ∈ l, ∃ i, hp f.1 = some i ∧ Gd fc ro lea 60 i = some f.2 ∧ f.2 ≠ hole f.1
  all : ∀ m i, hp m = some i → ∃ T, Gd fc ro lea 60 i = some T ∧ tsz T ≤ 2000 ∧ (T = hole m ∨ (m, T) ∈ l)
theorem Told1.look {l : List (Int × Ty)} (h : Told1 fc ro lea hp l) {m : Int} {i : Nat} (hm : hp m = some i) : Gd fc ro lea 60 i = some (look l m) := by
  obtain ⟨T, h1, _, h3⟩ := h.all m i hm
  rw [h1]
  rcases h3 with rfl | h3
  · rw [look_none]
    intro f hf e
    obtain ⟨j, k1, k2, k3⟩ := h.fact f hf
    rw [e, hm] at k1
    cases k1
    rw [h1] at k2
    exact k3 (by rw [← Option.some.inj k2, e])
  · have := look_some h.rise h3
    simp only at this
    rw [this]
theorem Tied.told (h : Tied sh fc ro lea tm hp n x y) {l : List (Int × Ty)} (ht : Told1 fc ro lea hp l) (hth : ∀ m i, hp m = some i → m ∈ hls (tm x) ∨ m ∈ hls (tm y)) : Told (tm x) (tm y) l ∧ tellF l := by
  have hsub : ∀ i, i < n → ∃ lv, Gd fc ro lea lv i = some (sub (Go.Proofs.YteoflpalmckikaaDoor.look l) (tm i)) := fun i hi =>
    gd_sub h.cl (fun i nm as hs => ⟨(h.laid.shape i nm as hs).1, (h.laid.shape i nm as hs).2.1⟩) (fun i => i < n) (fun i nm as _ hs => (h.laid.shape i nm as hs).2.2.2) (fun i hi hs => by
      obtain ⟨m, h1, h2⟩ := h.laid.leaf i hi hs
      exact ⟨m, h1, 60, ht.look h2⟩) _ i hi rfl
  refine ⟨⟨ht.rise, ?_, fun f hf => ?_, fun f hf m hm g hg e => ?_, fun f hf m e => ?_, fun r hr f hf => ?_⟩, fun f hf => ?_⟩
  · obtain ⟨p, hp1⟩ := hsub x h.xn
    obtain ⟨q, hq1⟩ := hsub y h.yn
    have e1 := gd_more hp1 (Nat.le_max_left p q)
    have e2 := gd_more hq1 (Nat.le_max_right p q)
    rw [gd_ro h.one, e2] at e1
    exact (Option.some.inj e1).symm
  · obtain ⟨i, h1, _⟩ := ht.fact f hf
    exact hth _ i h1
  · obtain ⟨i, h1, h2, _⟩ := ht.fact f hf
    obtain ⟨j, k1, k2, k3, k4⟩ := (h.holes 60 i f.2 (h.laid.spot _ i h1).1 h2).2 m hm
    obtain ⟨j', q1, q2, q3⟩ := ht.fact g hg
    rw [e, k2] at q1
    cases q1
    rw [gd_none k3, k4] at q2
    exact q3 (by rw [← Option.some.inj q2, e])
  · obtain ⟨i, h1, h2, h3⟩ := ht.fact f hf
    have hi := (h.laid.spot _ i h1).1
    have hle := (h.low _ i h1).1
    rw [e] at h2 h3
    cases hs : fc (ro i) with
    | none =>
      rw [gd_none hs] at h2
      have := hole_inj (Option.some.inj h2)
      have hne : m ≠ f.1 := fun e => h3 (by rw [e])
      omega
    | some s =>
      obtain ⟨q, _, k3⟩ := h.own (ro i) s (h.idem i) hs
      have n1 := (h.laid.shape q s.1 s.2 k3).2.1
      obtain ⟨l', _, k2⟩ := (gd_some hs _).1 h2
      have : s.1 = [] := (congrArg Ty.nm k2).symm
      rw [this] at n1
      cases n1
  · obtain ⟨i, h1, h2, _⟩ := ht.fact f hf
    obtain ⟨hi, _, h4, _⟩ := h.laid.spot _ i h1
    rw [h.most hr hi h2, h4, sub_hole]
  · obtain ⟨i, h1, h2, _⟩ := ht.fact f hf
    obtain ⟨hi, _, _, _⟩ := h.laid.spot _ i h1
    obtain ⟨T, k1, k2, _⟩ := ht.all _ i h1
    rw [h2] at k1
    cases k1
    rw [chk_iff]
    exact ⟨(h.holes 60 i _ hi h2).1, gd_tdp 60 i _ h2, k2⟩
/-- If some hole is too deep, or too great, nothing that is told of the two may be. -/
theorem Tied.none (h : Tied sh fc ro lea tm hp n x y) {m : Int} {i : Nat} (hm : hp m = some i) (hno : ∀ T, Gd fc ro lea 60 i = some T → ¬ tsz T ≤ 2000) (l : List (Int × Ty)) (ht : Told (tm x) (tm y) l) : ¬ tellF l := by
  intro hf
  obtain ⟨hi, hs, h4, h0⟩ := h.laid.spot _ i hm
  have hA := h.agr _ (h.laid.fit (look l)) ht.one
  have hv : sub (look l) (tm i) = look l m := by rw [h4, sub_hole]
  have hch : chk (look l m) = true := by
    rcases look_cases (l := l) m with ⟨f, hfl, _, e⟩ | ⟨_, e⟩
    · rw [e]; exact hf f hfl
    · rw [e, chk_iff]
      refine ⟨by rw [allT_eq]; simp [hole, ok1, h0], ?_, ?_⟩
      · rw [tdp_le]; intro k hk; cases hk
      · rw [tsz_eq]; show 1 + 0 ≤ 2000; omega
  obtain ⟨_, c2, c3⟩ := (chk_iff _).1 hch
  obtain ⟨T, hT⟩ := gd_deep (lea := lea) (h.laid.fit (look l)) hA h.own h.idem 60 i (by show tdp (sub (look l) (tm i)) ≤ 60; rw [hv]; exact c2)
  have hmo := h.most ht.one hi hT
  rw [hv] at hmo
  have := sub_sz (s := look l) T (h.holes 60 i T hi hT).1
  rw [hmo] at this
  exact hno T hT (by omega)
/-- If what was tied does not go together, nothing is told of the two. -/
theorem Laid.no (h : Laid sh tm hp n) (hno : ∀ V, Fit sh V → V x ≠ V y) (l : List (Int × Ty)) (ht : Told (tm x) (tm y) l) : False := hno _ (h.fit (look l)) ht.one
end Go.Proofs.YteoflpalmckikaaDoor
