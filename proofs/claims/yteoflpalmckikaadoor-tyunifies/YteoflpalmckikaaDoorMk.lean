/-
  A LIST OF TYPES THAT A CALL MAKES ITSELF, one behind the other, in a row of its own.
-/
import Derived.Test.YteoflpalmckikaaDoorFits
import Derived.Test.YteoflpalmckikaaDoorRegionJ
import Derived.Deep.AppendLies
namespace Go.Proofs.YteoflpalmckikaaDoor
open Go.RowKit
set_option linter.unusedVariables false
set_option linter.unusedSimpArgs false
theorem info24 : (Tryd.prog.info? 24).map (fun i => (i.zero, i.size, i.bytes)) = some (some (.agg #[.string ⟨#[]⟩, .int .i64 0, .slice none 0 0]), 3, 48) := by kernel_rfl
/-- The cells of a block that was just made, as an append reads them. -/
theorem cells_new (w : World) (l : List Value) (t : TypeId) : ∀ j u, l[j]? = some u → (w.alloc (.cells l.toArray t)).cell? ((⟨w.heap.size, 0, none⟩ : Addr).add j) = some u := by
  intro j u hj
  have e : ((⟨w.heap.size, 0, none⟩ : Addr).add j) = ⟨w.heap.size, j, none⟩ := by simp [Addr.add]; omega
  rw [e, (Hold.new w l.toArray t).cell j]
  simpa using hj
/-- Blocks that were made from one world to another one. -/
def New (n m : Nat) (b : Nat) : Prop := n ≤ b ∧ b < m
/-- Blocks of what is in a list that is made: no box, not its own row. -/
def Kd (base bM : Nat) (v : Value) (w : World) (b : Nat) : Prop := base ≤ b ∧ b < w.heap.size ∧ b ≠ bM ∧ some b ≠ v.ownBlock
def Row3 (base bM : Nat) (w : World) (v : Value) (l : List Ty) : Prop := ∃ L : List (List Value), L.length = l.length ∧ (∀ ds ∈ L, ds.length = 3) ∧ w.ownsRow base 24 3 v l.length L.flatten ∧ v.ownBlock ≠ some bM ∧ ∀ (i : Nat) t, l[i]? = some t → ∃ ds, L[i]? = some ds ∧ TyIn (Kd base bM v w) w t ds
theorem Row3.nil (base bM : Nat) (w : World) : Row3 base bM w (.slice none 0 0) [] := ⟨[], rfl, by simp, World.ownsRow_nil _ _ _ _, by simp [Value.ownBlock], by simp⟩
theorem Row3.keep {base bM : Nat} {w w' : World} {v : Value} {l : List Ty} (h : Row3 base bM w v l) (k : KP (fun b => base ≤ b ∧ b < w.heap.size ∧ b ≠ bM) w w') : Row3 base bM w' v l := by
  obtain ⟨L, h1, h2, h3, h4, h5⟩ := h
  refine ⟨L, h1, h2, ?_, h4, fun i t ht => ?_⟩
  · rcases h3 with ⟨e1, e2 | ⟨g, cap, cur, hv, hb, hg, r⟩⟩
    · exact ⟨e1, .inl e2⟩
    · refine ⟨e1, .inr ⟨g, cap, cur, hv, hb, (k.block g ⟨hb, (Array.getElem?_eq_some_iff.1 hg).1, fun e => h4 (by rw [hv, e]; rfl)⟩).trans hg, r⟩⟩
  · obtain ⟨ds, e1, e2⟩ := h5 i t ht
    exact ⟨ds, e1, TyIn.keep (k.mono fun b hb => ⟨hb.1, hb.2.1, hb.2.2.1⟩) (fun b hb => ⟨hb.1, Nat.lt_of_lt_of_le hb.2.1 k.size, hb.2.2⟩) _ _ e2⟩
theorem Row3.slice {base bM : Nat} {w : World} {v : Value} {l : List Ty} (h : Row3 base bM w v l) : ∃ p c, v = .slice p l.length c ∧ SlOK p l.length c := by
  obtain ⟨L, h1, h2, h3, h4, h5⟩ := h
  rcases h3 with ⟨e1, ⟨e2, e3⟩ | ⟨g, cap, cur, hv, hb, hg, r1, r2, r⟩⟩
  · exact ⟨none, 0, by rw [e3]; exact e2, by omega, by omega, fun _ => rfl⟩
  · exact ⟨_, _, hv, r1, r2, fun h => by cases h⟩
theorem flat_at {L : List (List Value)} (h : ∀ ds ∈ L, ds.length = 3) {i : Nat} {ds : List Value} (hi : L[i]? = some ds) {j : Nat} {d : Value} (hj : ds[j]? = some d) : L.flatten[i * 3 + j]? = some d := by
  induction L generalizing i with
  | nil => simp at hi
  | cons a r ih =>
    have ha := h a (by simp)
    rw [List.flatten_cons]
    cases i with
    | zero =>
      simp at hi
      subst hi
      rw [List.getElem?_append_left (by have := (List.getElem?_eq_some_iff.1 hj).1; omega)]
      simpa using hj
    | succ i =>
      rw [List.getElem?_append_right (by omega), ha]
      have := ih (fun ds hd => h ds (by simp [hd])) (i := i) (by simpa using hi)
      rw [show (i + 1) * 3 + j - 3 = i * 3 + j by omega]
      exact this
theorem Row3.tm {base bM : Nat} {w : World} {p : Option Addr} {c n : Nat} {l : List Ty} (h : Row3 base bM w (.slice p n c) l) : TM (New base w.heap.size) w p l := by
  obtain ⟨L, h1, h2, h3, h4, h5⟩ := h
  cases hl : l with
  | nil => exact .inl rfl
  | cons x r =>
    right
    rw [← hl]
    have hn : 0 < l.length := by rw [hl]; simp
    have h3' := h3
    rcases h3 with ⟨e1, ⟨e2, e3⟩ | ⟨g, cap, cur, hv, hb, hg, r1, r2, r⟩⟩
    · omega
    · cases hv
      refine ⟨g, 0, rfl, ⟨hb, (Array.getElem?_eq_some_iff.1 hg).1⟩, fun i t ht => ?_⟩
      obtain ⟨ds, e5, e6⟩ := h5 i t ht
      refine ⟨ds, h2 ds (List.mem_of_getElem? e5), fun j d hd => ?_, TyIn.keep (KP.refl _ w) (fun b hb => ⟨hb.1, hb.2.1⟩) _ _ e6⟩
      have := row_cell h3' (flat_at h2 e5 hd)
      rw [Nat.zero_add]
      exact this
theorem TyIn.three {P : Nat → Prop} {w : World} {t : Ty} {ds : List Value} (h : TyIn P w t ds) : ds.length = 3 ∧ ∀ u ∈ ds, u.oneCell' = true := by
  rw [TyIn_iff] at h
  obtain ⟨pk, ck, rfl, _⟩ := h
  exact ⟨rfl, by simp [Value.oneCell']⟩
/-- One more: W0 is where the list stood, W where the new one was made, W1 behind the append (x: the block of what is appended). -/
theorem Row3.push {base bM x : Nat} {W0 W W1 : World} {v : Value} {l : List Ty} {t : Ty} {ds : List Value} {g cap : Nat} {L : List (List Value)} (h1 : L.length = l.length) (h2 : ∀ ds ∈ L, ds.length = 3) (h5 : ∀ (i : Nat) t, l[i]? = some t → ∃ ds, L[i]? = some ds ∧ TyIn (Kd base bM v W0) W0 t ds) (hb0 : KP (fun b => base ≤ b ∧ b < W0.heap.size) W0 W) (ht : TyIn (New W0.heap.size W.heap.size) W t ds) (hbase : base ≤ W0.heap.size) (hM : bM < W0.heap.size)
    (hlt : ∀ r, v.ownBlock = some r → r < W0.heap.size) (hown : W1.ownsRow base 24 3 (.slice (some ⟨g, 0, none⟩) (l.length + 1) cap) (l.length + 1) (L.flatten ++ ds)) (hgr : (W.alloc (.cells ds.toArray 24)).grownBy W1 v.ownBlock) (hat : v.ownBlock = some g ∨ g = W.heap.size + 1) (hv : v.ownBlock ≠ some bM) (u : Value) (off : Nat) (hH : ∃ C t', Hold bM C t' W1) :
    Row3 base bM (W1.setCell ⟨bM, off, none⟩ u) (.slice (some ⟨g, 0, none⟩) (l ++ [t]).length cap) (l ++ [t]) := by
  have hgM : g ≠ bM := by
    rcases hat with h | h
    · intro e; subst e; exact hv h
    · have := hb0.size; omega
  have hlen : (l ++ [t]).length = l.length + 1 := by simp
  have hgW : ∀ r, v.ownBlock = some r → r < W0.heap.size := hlt
  have hk : KP (fun b => b < W.heap.size ∧ b ≠ bM ∧ some b ≠ v.ownBlock) W (W1.setCell ⟨bM, off, none⟩ u) :=
    ((KP.alloc W _ fun b hb => hb.1).trans (KP.of_grown hgr fun b hb => ⟨by simp; omega, hb.2.2⟩)).trans (KP.setCell _ _ _ _ fun h => h.2.1 rfl)
  have hsz : W.heap.size + 1 ≤ (W1.setCell ⟨bM, off, none⟩ u).heap.size := by have := hgr.size; simp at this ⊢; omega
  refine ⟨L ++ [ds], by simp [h1], ?_, ?_, by simpa [Value.ownBlock] using hgM, ?_⟩
  · intro d hd
    rcases List.mem_append.1 hd with hd | hd
    · exact h2 d hd
    · simp at hd; rw [hd]; exact ht.three.1
  · rw [hlen, List.flatten_append]
    simp only [List.flatten_cons, List.flatten_nil, List.append_nil]
    refine row_keep hown fun b hb _ => Below.heap_setCell _ _ _ b fun e => ?_
    have hbg : g = b := by simpa [Value.ownBlock] using hb
    exact hgM (hbg.trans e)
  · intro i s hs
    have hne : ∀ b, some b ≠ v.ownBlock → b < W.heap.size → g ≠ b := by
      intro b hb hl e
      rcases hat with h | h
      · rw [e] at h; exact hb h.symm
      · omega
    rcases Nat.lt_trichotomy i l.length with hi | hi | hi
    · rw [List.getElem?_append_left hi] at hs
      obtain ⟨d, e1, e2⟩ := h5 i s hs
      refine ⟨d, by rw [List.getElem?_append_left (by omega)]; exact e1, ?_⟩
      have k1 : KP (Kd base bM v W0) W0 (W1.setCell ⟨bM, off, none⟩ u) := (hb0.mono fun b (hb : Kd base bM v W0 b) => ⟨hb.1, hb.2.1⟩).trans (hk.mono fun b hb => ⟨Nat.lt_of_lt_of_le hb.2.1 hb0.size, hb.2.2.1, hb.2.2.2⟩)
      refine TyIn.keep k1 (fun b hb => ⟨hb.1, Nat.lt_of_lt_of_le hb.2.1 k1.size, hb.2.2.1, fun e => ?_⟩) _ _ e2
      have e' : b = g := by simpa [Value.ownBlock] using e
      exact hne b hb.2.2.2 (Nat.lt_of_lt_of_le hb.2.1 hb0.size) e'.symm
    · subst hi
      simp at hs
      subst hs
      refine ⟨ds, by rw [← h1]; simp, ?_⟩
      have k1 : KP (New W0.heap.size W.heap.size) W (W1.setCell ⟨bM, off, none⟩ u) := hk.mono fun b hb => ⟨hb.2, by have := hb.1; omega, fun e => by have := hgW b e.symm; have := hb.1; omega⟩
      refine TyIn.keep k1 (fun b hb => ⟨Nat.le_trans hbase hb.1, by have := hb.2; omega, by have := hb.1; omega, fun e => ?_⟩) _ _ ht
      have e' : b = g := by simpa [Value.ownBlock] using e
      exact hne b (fun e2 => by have := hgW b e2.symm; have := hb.1; omega) hb.2 e'.symm
    · rw [List.getElem?_append_right (by omega)] at hs
      have hz : i - l.length ≠ 0 := by omega
      obtain ⟨k, hk'⟩ : ∃ k, i - l.length = k + 1 := ⟨i - l.length - 1, by omega⟩
      rw [hk'] at hs
      simp at hs
end Go.Proofs.YteoflpalmckikaaDoor
