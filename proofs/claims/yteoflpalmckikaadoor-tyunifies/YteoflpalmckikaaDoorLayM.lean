/-
  LAYING A TYPE into the web, as mathematics. No program in it.
-/
import Derived.Test.YteoflpalmckikaaDoorLawM
namespace Go.Proofs.YteoflpalmckikaaDoor
set_option linter.unusedVariables false
set_option linter.unusedSimpArgs false
/-- What is laid: each place's type, shapes, and the places of holes. -/
structure LS where
  tm : List Ty
  sh : Nat → Option Shp
  hp : Int → Option Nat
def updN (f : Nat → Option Shp) (i : Nat) (s : Shp) : Nat → Option Shp := fun j => if j = i then some s else f j
def updI (f : Int → Option Nat) (m : Int) (i : Nat) : Int → Option Nat := fun k => if k = m then some i else f k
def LS.at (st : LS) (i : Nat) : Ty := st.tm.getD i (hole 0)
/-- One after the other. -/
def layL (l : List (Ty × (LS → Nat × LS))) (acc : List Nat × LS) : List Nat × LS := l.foldl (fun acc k => (acc.1 ++ [(k.2 acc.2).1], (k.2 acc.2).2)) acc
def layF (t : Ty) (ks : List (Ty × (LS → Nat × LS))) (st : LS) : Nat × LS :=
  if t.nm.isEmpty then
    match st.hp t.n with
    | some i => (i, st)
    | none => (st.tm.length, ⟨st.tm ++ [t], st.sh, updI st.hp t.n st.tm.length⟩)
  else (st.tm.length, ⟨(layL ks ([], ⟨st.tm ++ [t], st.sh, st.hp⟩)).2.tm, updN (layL ks ([], ⟨st.tm ++ [t], st.sh, st.hp⟩)).2.sh st.tm.length (t.nm, (layL ks ([], ⟨st.tm ++ [t], st.sh, st.hp⟩)).1), (layL ks ([], ⟨st.tm ++ [t], st.sh, st.hp⟩)).2.hp⟩)
def lay (t : Ty) : LS → Nat × LS := t.fold layF
theorem lay_eq (t : Ty) (st : LS) : lay t st = layF t (t.ar.map fun k => (k, lay k)) st := by unfold lay; rw [Ty.fold_eq]
/-- What holds of what is laid; the places O are of types whose Args are being laid. -/
structure LayI (st : LS) (O : List Nat) : Prop where
  wait : ∀ i ∈ O, i < st.tm.length ∧ st.sh i = none
  far : ∀ i, st.tm.length ≤ i → st.sh i = none
  node : ∀ i nm as, st.sh i = some (nm, as) → st.at i = ⟨nm, 0, as.map st.at⟩ ∧ nm.isEmpty = false ∧ nm.length ≤ 20 ∧ ∀ j ∈ as, j < st.tm.length
  leaf : ∀ i, i < st.tm.length → i ∉ O → st.sh i = none → ∃ m, st.at i = hole m ∧ st.hp m = some i
  spot : ∀ m i, st.hp m = some i → i < st.tm.length ∧ st.sh i = none ∧ st.at i = hole m ∧ 0 ≤ m ∧ i ∉ O
/-- Nothing that was laid is changed. -/
structure Ext (st st' : LS) : Prop where
  len : st.tm.length ≤ st'.tm.length
  tm : ∀ i, i < st.tm.length → st'.at i = st.at i
  sh : ∀ i, i < st.tm.length → st'.sh i = st.sh i
theorem Ext.refl (st : LS) : Ext st st := ⟨Nat.le_refl _, fun _ _ => rfl, fun _ _ => rfl⟩
theorem Ext.trans {a b c : LS} (h : Ext a b) (k : Ext b c) : Ext a c := ⟨Nat.le_trans h.len k.len, fun i hi => (k.tm i (Nat.lt_of_lt_of_le hi h.len)).trans (h.tm i hi), fun i hi => (k.sh i (Nat.lt_of_lt_of_le hi h.len)).trans (h.sh i hi)⟩
theorem at_push (st : LS) (t : Ty) (sh : Nat → Option Shp) (hp : Int → Option Nat) : (∀ i, i < st.tm.length → (LS.mk (st.tm ++ [t]) sh hp).at i = st.at i) ∧ (LS.mk (st.tm ++ [t]) sh hp).at st.tm.length = t := by
  refine ⟨fun i hi => ?_, ?_⟩
  · unfold LS.at
    simp only [List.getD_eq_getElem?_getD, List.getElem?_append_left hi]
  · unfold LS.at
    simp [List.getD_eq_getElem?_getD]
theorem map_at {st st' : LS} {as : List Nat} (h : ∀ j ∈ as, j < st.tm.length) (he : Ext st st') : as.map st'.at = as.map st.at := List.map_congr_left fun j hj => he.tm j (h j hj)
theorem lay_ok (t : Ty) : allT ok1 t = true → ∀ (st : LS) (O : List Nat), LayI st O → LayI (lay t st).2 O ∧ Ext st (lay t st).2 ∧ (lay t st).1 < (lay t st).2.tm.length ∧ (lay t st).2.at (lay t st).1 = t ∧ (lay t st).1 ∉ O := by
  induction t using Ty.ind with
  | _ t ih =>
    intro hok st O hI
    obtain ⟨ho1, hks⟩ := allT_kid hok
    rw [lay_eq]
    unfold layF
    by_cases hn : t.nm.isEmpty = true
    · rw [if_pos hn]
      obtain ⟨hpos, _, heq⟩ := ok1_hole t ho1 hn
      cases hh : st.hp t.n with
      | some i =>
        obtain ⟨h1, h2, h3, h4, h5⟩ := hI.spot t.n i hh
        exact ⟨hI, Ext.refl _, h1, h3.trans heq.symm, h5⟩
      | none =>
        obtain ⟨p1, p2⟩ := at_push st t st.sh (updI st.hp t.n st.tm.length)
        have hlen : (LS.mk (st.tm ++ [t]) st.sh (updI st.hp t.n st.tm.length)).tm.length = st.tm.length + 1 := by simp
        have hE : Ext st (LS.mk (st.tm ++ [t]) st.sh (updI st.hp t.n st.tm.length)) := ⟨by rw [hlen]; omega, p1, fun _ _ => rfl⟩
        have hO : st.tm.length ∉ O := fun h => by have := (hI.wait _ h).1; omega
        refine ⟨⟨fun i hi => ⟨by rw [hlen]; have := (hI.wait i hi).1; omega, (hI.wait i hi).2⟩, fun i hi => hI.far i (by rw [hlen] at hi; omega), fun i nm as hs => ?_, fun i hi hiO hs => ?_, fun m i hm => ?_⟩, hE, by show st.tm.length < (LS.mk (st.tm ++ [t]) st.sh (updI st.hp t.n st.tm.length)).tm.length; rw [hlen]; omega, p2, hO⟩
        · obtain ⟨h1, h2, h3, h4⟩ := hI.node i nm as hs
          have hil : i < st.tm.length := by
            apply Classical.byContradiction
            intro hc
            have := hI.far i (by omega)
            rw [show st.sh i = some (nm, as) from hs] at this
            cases this
          exact ⟨by rw [p1 i hil, h1, map_at h4 hE], h2, h3, fun j hj => by rw [hlen]; have := h4 j hj; omega⟩
        · rw [hlen] at hi
          by_cases hil : i < st.tm.length
          · obtain ⟨m, h1, h2⟩ := hI.leaf i hil hiO hs
            refine ⟨m, by rw [p1 i hil]; exact h1, ?_⟩
            show updI st.hp t.n st.tm.length m = some i
            unfold updI
            rw [if_neg (fun e => by rw [e, hh] at h2; cases h2)]
            exact h2
          · obtain rfl : i = st.tm.length := by omega
            refine ⟨t.n, by rw [p2]; exact heq, ?_⟩
            show updI st.hp t.n st.tm.length t.n = _
            unfold updI
            rw [if_pos rfl]
        · have hm' : updI st.hp t.n st.tm.length m = some i := hm
          unfold updI at hm'
          split at hm'
          · rename_i e
            cases hm'
            exact ⟨by rw [hlen]; omega, hI.far _ (Nat.le_refl _), by rw [p2, e]; exact heq, by rw [e]; exact hpos, hO⟩
          · obtain ⟨h1, h2, h3, h4, h5⟩ := hI.spot m i hm'
            exact ⟨by rw [hlen]; omega, h2, by rw [p1 i h1]; exact h3, h4, h5⟩
    · have hn' : t.nm.isEmpty = false := by simpa using hn
      rw [if_neg hn]
      obtain ⟨hlen20, hn0⟩ := ok1_node t ho1 hn'
      obtain ⟨p1, p2⟩ := at_push st t st.sh st.hp
      have hlen : (LS.mk (st.tm ++ [t]) st.sh st.hp).tm.length = st.tm.length + 1 := by simp
      have hE : Ext st (LS.mk (st.tm ++ [t]) st.sh st.hp) := ⟨by rw [hlen]; omega, p1, fun _ _ => rfl⟩
      have hO : st.tm.length ∉ O := fun h => by have := (hI.wait _ h).1; omega
      have hI1 : LayI (LS.mk (st.tm ++ [t]) st.sh st.hp) (st.tm.length :: O) := by
        refine ⟨fun i hi => ?_, fun i hi => hI.far i (by rw [hlen] at hi; omega), fun i nm as hs => ?_, fun i hi hiO hs => ?_, fun m i hm => ?_⟩
        · rcases List.mem_cons.1 hi with rfl | hi
          · exact ⟨by rw [hlen]; omega, hI.far _ (Nat.le_refl _)⟩
          · exact ⟨by rw [hlen]; have := (hI.wait i hi).1; omega, (hI.wait i hi).2⟩
        · obtain ⟨h1, h2, h3, h4⟩ := hI.node i nm as hs
          have hil : i < st.tm.length := by
            apply Classical.byContradiction
            intro hc
            have := hI.far i (by omega)
            rw [show st.sh i = some (nm, as) from hs] at this
            cases this
          exact ⟨by rw [p1 i hil, h1, map_at h4 hE], h2, h3, fun j hj => by rw [hlen]; have := h4 j hj; omega⟩
        · rw [hlen] at hi
          have hil : i < st.tm.length := by
            have : i ≠ st.tm.length := fun e => hiO (by rw [e]; exact List.mem_cons_self)
            omega
          obtain ⟨m, h1, h2⟩ := hI.leaf i hil (fun h => hiO (List.mem_cons_of_mem _ h)) hs
          exact ⟨m, by rw [p1 i hil]; exact h1, h2⟩
        · obtain ⟨h1, h2, h3, h4, h5⟩ := hI.spot m i hm
          exact ⟨by rw [hlen]; omega, h2, by rw [p1 i h1]; exact h3, h4, fun h => by
            rcases List.mem_cons.1 h with e | h
            · omega
            · exact h5 h⟩
      have key : ∀ (l : List Ty), (∀ k ∈ l, k ∈ t.ar) → ∀ (acc : List Nat × LS), LayI acc.2 (st.tm.length :: O) → (∀ j ∈ acc.1, j < acc.2.tm.length) → LayI (layL (l.map fun k => (k, lay k)) acc).2 (st.tm.length :: O) ∧ Ext acc.2 (layL (l.map fun k => (k, lay k)) acc).2 ∧ (∀ j ∈ (layL (l.map fun k => (k, lay k)) acc).1, j < (layL (l.map fun k => (k, lay k)) acc).2.tm.length) ∧ (layL (l.map fun k => (k, lay k)) acc).1.map (layL (l.map fun k => (k, lay k)) acc).2.at = acc.1.map acc.2.at ++ l := by
        intro l
        induction l with
        | nil => intro _ acc hA hj; exact ⟨hA, Ext.refl _, hj, by rw [List.append_nil]; rfl⟩
        | cons k r ihr =>
          intro hl acc hA hj
          obtain ⟨a1, a2, a3, a4, a5⟩ := ih k (hl k List.mem_cons_self) (hks k (hl k List.mem_cons_self)) acc.2 _ hA
          obtain ⟨b1, b2, b3, b4⟩ := ihr (fun q hq => hl q (List.mem_cons_of_mem _ hq)) (acc.1 ++ [(lay k acc.2).1], (lay k acc.2).2) a1 (fun j hjm => by
            rcases List.mem_append.1 hjm with h | h
            · exact Nat.lt_of_lt_of_le (hj j h) a2.len
            · obtain rfl := List.mem_singleton.1 h; exact a3)
          refine ⟨b1, a2.trans b2, b3, ?_⟩
          have e : layL ((k :: r).map fun k => (k, lay k)) acc = layL (r.map fun k => (k, lay k)) (acc.1 ++ [(lay k acc.2).1], (lay k acc.2).2) := rfl
          rw [e, b4, List.map_append, map_at hj a2, List.map_singleton, a4, List.append_assoc]
          rfl
      obtain ⟨c1, c2, c3, c4⟩ := key t.ar (fun _ h => h) ([], LS.mk (st.tm ++ [t]) st.sh st.hp) hI1 (fun j hj => by cases hj)
      generalize layL (t.ar.map fun k => (k, lay k)) ([], LS.mk (st.tm ++ [t]) st.sh st.hp) = R at *
      obtain ⟨as, s2⟩ := R
      simp only at c1 c2 c3 c4 ⊢
      have hb : st.tm.length < s2.tm.length := by have := c2.len; rw [hlen] at this; omega
      have hat : s2.at st.tm.length = t := (c2.tm _ (by rw [hlen]; omega)).trans p2
      have hatt : ∀ i, (LS.mk s2.tm (updN s2.sh st.tm.length (t.nm, as)) s2.hp).at i = s2.at i := fun _ => rfl
      refine ⟨⟨fun i hi => ?_, fun i hi => ?_, fun i nm bs hs => ?_, fun i hi hiO hs => ?_, fun m i hm => ?_⟩, ⟨Nat.le_trans hE.len c2.len, fun i hi => ((hE.trans c2).tm i hi), fun i hi => ?_⟩, hb, hat, hO⟩
      · refine ⟨(c1.wait i (List.mem_cons_of_mem _ hi)).1, ?_⟩
        show updN s2.sh st.tm.length (t.nm, as) i = none
        unfold updN
        rw [if_neg (fun e => hO (by rw [← e]; exact hi))]
        exact (c1.wait i (List.mem_cons_of_mem _ hi)).2
      · show updN s2.sh st.tm.length (t.nm, as) i = none
        have hi' : s2.tm.length ≤ i := hi
        unfold updN
        rw [if_neg (by omega)]
        exact c1.far i hi'
      · have hs' : updN s2.sh st.tm.length (t.nm, as) i = some (nm, bs) := hs
        unfold updN at hs'
        split at hs'
        · rename_i e
          cases hs'
          rw [e]
          refine ⟨?_, hn', hlen20, c3⟩
          show s2.at st.tm.length = ⟨t.nm, 0, as.map s2.at⟩
          rw [hat, Ty.ext_iff']
          exact ⟨rfl, hn0, by rw [c4]; rfl⟩
        · exact c1.node i nm bs hs'
      · have hs' : updN s2.sh st.tm.length (t.nm, as) i = none := hs
        unfold updN at hs'
        split at hs'
        · cases hs'
        · rename_i e
          exact c1.leaf i hi (fun h => by
            rcases List.mem_cons.1 h with h | h
            · exact e h
            · exact hiO h) hs'
      · obtain ⟨h1, h2, h3, h4, h5⟩ := c1.spot m i hm
        refine ⟨h1, ?_, h3, h4, fun h => h5 (List.mem_cons_of_mem _ h)⟩
        show updN s2.sh st.tm.length (t.nm, as) i = none
        unfold updN
        rw [if_neg (fun e => h5 (by rw [e]; exact List.mem_cons_self))]
        exact h2
      · show updN s2.sh st.tm.length (t.nm, as) i = st.sh i
        unfold updN
        rw [if_neg (by omega)]
        exact (hE.trans c2).sh i hi
/-- Two types, laid one after the other. -/
theorem lay_two {a b : Ty} (ha : allT ok1 a = true) (hb : allT ok1 b = true) : ∃ st x y, (lay b (lay a ⟨[], fun _ => none, fun _ => none⟩).2) = (y, st) ∧ x = (lay a ⟨[], fun _ => none, fun _ => none⟩).1 ∧ Laid st.sh st.at st.hp st.tm.length ∧ st.at x = a ∧ st.at y = b ∧ x < st.tm.length ∧ y < st.tm.length := by
  have h0 : LayI ⟨[], fun _ => none, fun _ => none⟩ [] := ⟨fun i hi => (by cases hi), fun _ _ => rfl, fun i nm as h => (by cases h), fun i hi => (by cases hi), fun m i h => (by cases h)⟩
  obtain ⟨a1, a2, a3, a4, _⟩ := lay_ok a ha _ _ h0
  obtain ⟨b1, b2, b3, b4, _⟩ := lay_ok b hb _ _ a1
  refine ⟨_, _, _, rfl, rfl, ⟨b1.node, fun i hi hs => b1.leaf i hi (fun h => by cases h) hs, fun m i hm => ?_⟩, (b2.tm _ a3).trans a4, b4, Nat.lt_of_lt_of_le a3 b2.len, b3⟩
  obtain ⟨h1, h2, h3, h4, _⟩ := b1.spot m i hm
  exact ⟨h1, h2, h3, h4⟩
end Go.Proofs.YteoflpalmckikaaDoor
