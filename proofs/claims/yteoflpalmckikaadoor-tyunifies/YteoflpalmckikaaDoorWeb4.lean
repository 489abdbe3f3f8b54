/-
  TYING, step by step: what a call of tie must come to (TieR), and that its steps come to it. No program in it.
-/
import Derived.Test.YteoflpalmckikaaDoorWeb3
namespace Go.Proofs.YteoflpalmckikaaDoor
set_option linter.unusedVariables false
set_option linter.unusedSimpArgs false
variable {sh fc fc' fc'' : Nat → Option Shp} {ro ro' ro'' : Nat → Nat} {x y a b : Nat}
/-- The web in the course of tying x and y. -/
structure WS (sh : Nat → Option Shp) (x y : Nat) (fc : Nat → Option Shp) (ro : Nat → Nat) : Prop where
  idem : ∀ i, ro (ro i) = ro i
  own : Own sh fc ro
  agr : ∀ V, Fit sh V → V x = V y → Agr ro V
/-- Whoever goes with the shapes and makes x and y one makes a and b one. -/
def Must (sh : Nat → Option Shp) (x y a b : Nat) : Prop := ∀ V, Fit sh V → V x = V y → V a = V b
/-- From one web to a later one, in which the pairs ps no longer wait. -/
structure Goes (sh : Nat → Option Shp) (x y : Nat) (ps : List (Nat × Nat)) (fc : Nat → Option Shp) (ro : Nat → Nat) (fc' : Nat → Option Shp) (ro' : Nat → Nat) : Prop where
  ws : WS sh x y fc' ro'
  more : ∀ i j, ro i = ro j → ro' i = ro' j
  pair : ∀ p ∈ ps, ro' p.1 = ro' p.2
  cl : ∀ pend, Cl sh fc ro (ps ++ pend) → Cl sh fc' ro' pend
/-- What a call of tie comes to. -/
def TieR (sh : Nat → Option Shp) (x y a b : Nat) (fc : Nat → Option Shp) (ro : Nat → Nat) (r : Bool) (fc' : Nat → Option Shp) (ro' : Nat → Nat) : Prop := if r then Goes sh x y [(a, b)] fc ro fc' ro' else ∀ V, Fit sh V → V x ≠ V y
theorem Cl.drop {ps pend : List (Nat × Nat)} (h : Cl sh fc ro (ps ++ pend)) (hp : ∀ p ∈ ps, ro p.1 = ro p.2) : Cl sh fc ro pend := by
  intro i nm as hi
  obtain ⟨bs, h1, h2, h3⟩ := h i nm as hi
  refine ⟨bs, h1, h2, fun k u v hu hv f hf hpp => h3 k u v hu hv f hf fun p hpm => ?_⟩
  rcases List.mem_append.1 hpm with h4 | h4
  · exact hf _ _ (hp p h4)
  · exact hpp p h4
theorem Goes.refl {ps : List (Nat × Nat)} (h : WS sh x y fc ro) (hp : ∀ p ∈ ps, ro p.1 = ro p.2) : Goes sh x y ps fc ro fc ro := ⟨h, fun _ _ e => e, hp, fun pend hc => hc.drop hp⟩
theorem Goes.trans {ps qs : List (Nat × Nat)} (h : Goes sh x y ps fc ro fc' ro') (k : Goes sh x y qs fc' ro' fc'' ro'') : Goes sh x y (ps ++ qs) fc ro fc'' ro'' := by
  refine ⟨k.ws, fun i j e => k.more i j (h.more i j e), fun p hp => ?_, fun pend hc => k.cl pend (h.cl (qs ++ pend) (by rw [← List.append_assoc]; exact hc))⟩
  rcases List.mem_append.1 hp with h1 | h1
  · exact k.more _ _ (h.pair p h1)
  · exact k.pair p h1
/-- At the start each place tells for itself. -/
theorem web_start (sh : Nat → Option Shp) (x y : Nat) : WS sh x y sh id ∧ ∀ pend, Cl sh sh id pend := by
  refine ⟨⟨fun _ => rfl, fun r s _ hs => ⟨r, rfl, hs⟩, fun V _ _ i j e => by rw [show i = j from e]⟩, fun pend i nm as hi => ⟨as, hi, rfl, fun k u v hu hv => ?_⟩⟩
  rw [hu] at hv
  cases hv
  exact fun f _ _ => rfl
/-- Places that are one by now. -/
theorem tie_same (h : WS sh x y fc ro) (e : ro a = ro b) : TieR sh x y a b fc ro true fc ro := by
  unfold TieR
  rw [if_pos rfl]
  exact Goes.refl h fun p hp => by obtain rfl := List.mem_singleton.1 hp; exact e
/-- Shapes that don't fit. -/
theorem tie_bad (h : WS sh x y fc ro) (hm : Must sh x y a b) {s t : Shp} (hs : fc (ro a) = some s) (ht : fc (ro b) = some t) (hne : ¬ (s.1 = t.1 ∧ s.2.length = t.2.length)) : ∀ V, Fit sh V → V x ≠ V y := by
  intro V hF e
  have hA := h.agr V hF e
  have hab : V (ro a) = V (ro b) := by rw [hA _ _ (h.idem a), hA _ _ (h.idem b)]; exact hm V hF e
  obtain ⟨h1, h2, _⟩ := agr_args hF hA h.own (h.idem a) (h.idem b) hab hs ht
  exact hne ⟨h1, h2⟩
/-- Two places that tell, made one. -/
theorem tie_merge (h : WS sh x y fc ro) (hm : Must sh x y a b) (hne : ro a ≠ ro b) (hfit : ∀ s t, fc (ro a) = some s → fc (ro b) = some t → s.1 = t.1 ∧ s.2.length = t.2.length) :
    WS sh x y (mergeF fc (ro a) (ro b)) (mergeR ro (ro a) (ro b)) ∧ (∀ i j, ro i = ro j → mergeR ro (ro a) (ro b) i = mergeR ro (ro a) (ro b) j) ∧ mergeR ro (ro a) (ro b) a = mergeR ro (ro a) (ro b) b ∧
    ∀ pend, Cl sh fc ro ((a, b) :: pend) → Cl sh (mergeF fc (ro a) (ro b)) (mergeR ro (ro a) (ro b)) ((match fc (ro a), fc (ro b) with | some s, some t => s.2.zip t.2 | _, _ => []) ++ pend) := by
  refine ⟨⟨mergeR_idem h.idem (h.idem a) hne, own_merge h.own (h.idem a) (h.idem b) hne, fun V hF e => agr_merge (h.agr V hF e) h.idem (hm V hF e)⟩, fun i j e => mergeR_one e, ?_, fun pend hc => cl_merge hc hne (h.idem a) hfit⟩
  unfold mergeR
  rw [if_neg hne, if_pos rfl]
/-- With nothing that follows. -/
theorem tie_leaf (h : WS sh x y fc ro) (hm : Must sh x y a b) (hne : ro a ≠ ro b) (hn : fc (ro a) = none ∨ fc (ro b) = none) : TieR sh x y a b fc ro true (mergeF fc (ro a) (ro b)) (mergeR ro (ro a) (ro b)) := by
  obtain ⟨h1, h2, h3, h4⟩ := tie_merge h hm hne (fun s t hs ht => by rcases hn with e | e <;> simp_all)
  unfold TieR
  rw [if_pos rfl]
  refine ⟨h1, h2, fun p hp => by obtain rfl := List.mem_singleton.1 hp; exact h3, fun pend hc => ?_⟩
  have h5 := h4 pend hc
  rcases hn with e | e
  · rw [e] at h5; exact h5
  · rw [e] at h5
    cases hx : fc (ro a) with
    | none => rw [hx] at h5; exact h5
    | some s => rw [hx] at h5; exact h5
/-- With the Args that follow: all of them tied. -/
theorem tie_args (h : WS sh x y fc ro) (hm : Must sh x y a b) (hne : ro a ≠ ro b) {s t : Shp} (hs : fc (ro a) = some s) (ht : fc (ro b) = some t) (hst : s.1 = t.1 ∧ s.2.length = t.2.length) (hg : Goes sh x y (s.2.zip t.2) (mergeF fc (ro a) (ro b)) (mergeR ro (ro a) (ro b)) fc' ro') : TieR sh x y a b fc ro true fc' ro' := by
  obtain ⟨h1, h2, h3, h4⟩ := tie_merge h hm hne (fun s' t' hs' ht' => by rw [hs] at hs'; rw [ht] at ht'; cases hs'; cases ht'; exact hst)
  unfold TieR
  rw [if_pos rfl]
  refine ⟨hg.ws, fun i j e => hg.more i j (h2 i j e), fun p hp => by obtain rfl := List.mem_singleton.1 hp; exact hg.more _ _ h3, fun pend hc => ?_⟩
  have h5 := h4 pend hc
  rw [hs, ht] at h5
  exact hg.cl pend h5
/-- What must be one of the Args. -/
theorem must_args (h : WS sh x y fc ro) (hm : Must sh x y a b) {s t : Shp} (hs : fc (ro a) = some s) (ht : fc (ro b) = some t) {k u v : Nat} (hu : s.2[k]? = some u) (hv : t.2[k]? = some v) : Must sh x y u v := by
  intro V hF e
  have hA := h.agr V hF e
  have hab : V (ro a) = V (ro b) := by rw [hA _ _ (h.idem a), hA _ _ (h.idem b)]; exact hm V hF e
  exact (agr_args hF hA h.own (h.idem a) (h.idem b) hab hs ht).2.2 k u v hu hv
/-- One more of the Args. -/
theorem goes_next {l m : List Nat} {i u v : Nat} (h : Goes sh x y ((l.zip m).take i) fc ro fc' ro') (hu : l[i]? = some u) (hv : m[i]? = some v) (k : TieR sh x y u v fc' ro' true fc'' ro'') : Goes sh x y ((l.zip m).take (i + 1)) fc ro fc'' ro'' := by
  unfold TieR at k
  rw [if_pos rfl] at k
  have e : (l.zip m).take (i + 1) = (l.zip m).take i ++ [(u, v)] := by
    rw [List.take_add_one]
    have : (l.zip m)[i]? = some (u, v) := by rw [List.getElem?_zip_eq_some]; exact ⟨hu, hv⟩
    rw [this]
    rfl
  rw [e]
  exact h.trans k
/-- What tie of x and y comes to at last. -/
theorem tie_end (h : TieR sh x y x y sh id true fc ro) : WS sh x y fc ro ∧ ro x = ro y ∧ Cl sh fc ro [] := by
  unfold TieR at h
  rw [if_pos rfl] at h
  exact ⟨h.ws, h.pair (x, y) List.mem_cons_self, h.cl [] ((web_start sh x y).2 _)⟩
end Go.Proofs.YteoflpalmckikaaDoor
