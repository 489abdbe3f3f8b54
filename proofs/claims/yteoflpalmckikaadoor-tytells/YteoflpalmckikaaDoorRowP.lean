/-
  A LIST OF TYPES THAT IS MADE, of types that lie in blocks of P or were made too.
-/
import Derived.Test.YteoflpalmckikaaDoorFilled
namespace Go.Proofs.YteoflpalmckikaaDoor
open Go.RowKit
set_option linter.unusedVariables false
set_option linter.unusedSimpArgs false
/-- Blocks of what is in a list that is made: no box, not its own row. -/
def KdP (P : Nat → Prop) (base bM : Nat) (v : Value) (w : World) (b : Nat) : Prop := (P b ∨ base ≤ b) ∧ b < w.heap.size ∧ b ≠ bM ∧ some b ≠ v.ownBlock
def RowP (P : Nat → Prop) (base bM : Nat) (w : World) (v : Value) (l : List Ty) : Prop := ∃ L : List (List Value), L.length = l.length ∧ (∀ ds ∈ L, ds.length = 3) ∧ w.ownsRow base 24 3 v l.length L.flatten ∧ v.ownBlock ≠ some bM ∧ ∀ (i : Nat) t, l[i]? = some t → ∃ ds, L[i]? = some ds ∧ TyIn (KdP P base bM v w) w t ds
theorem RowP.nil (P : Nat → Prop) (base bM : Nat) (w : World) : RowP P base bM w (.slice none 0 0) [] := ⟨[], rfl, by simp, World.ownsRow_nil _ _ _ _, by simp [Value.ownBlock], by simp⟩
theorem RowP.keep {P : Nat → Prop} {base bM : Nat} {w w' : World} {v : Value} {l : List Ty} (h : RowP P base bM w v l) (k : KP (fun b => (P b ∨ base ≤ b) ∧ b < w.heap.size ∧ b ≠ bM) w w') : RowP P base bM w' v l := by
  obtain ⟨L, h1, h2, h3, h4, h5⟩ := h
  refine ⟨L, h1, h2, ?_, h4, fun i t ht => ?_⟩
  · rcases h3 with ⟨e1, e2 | ⟨g, cap, cur, hv, hb, hg, r⟩⟩
    · exact ⟨e1, .inl e2⟩
    · refine ⟨e1, .inr ⟨g, cap, cur, hv, hb, (k.block g ⟨.inr hb, (Array.getElem?_eq_some_iff.1 hg).1, fun e => h4 (by rw [hv, e]; rfl)⟩).trans hg, r⟩⟩
  · obtain ⟨ds, e1, e2⟩ := h5 i t ht
    exact ⟨ds, e1, TyIn.keep (k.mono fun b hb => ⟨hb.1, hb.2.1, hb.2.2.1⟩) (fun b hb => ⟨hb.1, Nat.lt_of_lt_of_le hb.2.1 k.size, hb.2.2⟩) _ _ e2⟩
theorem RowP.slice {P : Nat → Prop} {base bM : Nat} {w : World} {v : Value} {l : List Ty} (h : RowP P base bM w v l) : ∃ p c, v = .slice p l.length c ∧ SlOK p l.length c := by
  obtain ⟨L, h1, h2, h3, h4, h5⟩ := h
  rcases h3 with ⟨e1, ⟨e2, e3⟩ | ⟨g, cap, cur, hv, hb, hg, r1, r2, r⟩⟩
  · exact ⟨none, 0, by rw [e3]; exact e2, by omega, by omega, fun _ => rfl⟩
  · exact ⟨_, _, hv, r1, r2, fun h => by cases h⟩
theorem RowP.tm {P : Nat → Prop} {base bM : Nat} {w : World} {p : Option Addr} {c n : Nat} {l : List Ty} (h : RowP P base bM w (.slice p n c) l) : TM (fun b => (P b ∨ base ≤ b) ∧ b < w.heap.size) w p l := by
  obtain ⟨L, h1, h2, h3, h4, h5⟩ := h
  cases hl : l with
  | nil => exact .inl rfl
  | cons x r =>
    right
    rw [← hl]
    have hn : 0 < l.length := by rw [hl]; simp
    have h3' := h3
    rcases h3 with ⟨e1, ⟨e2, e3⟩ | ⟨g, cap, cur, hv, hb, hg, r1, r2, r⟩⟩
    · omega
    · cases hv
      refine ⟨g, 0, rfl, ⟨.inr hb, (Array.getElem?_eq_some_iff.1 hg).1⟩, fun i t ht => ?_⟩
      obtain ⟨ds, e5, e6⟩ := h5 i t ht
      refine ⟨ds, h2 ds (List.mem_of_getElem? e5), fun j d hd => ?_, TyIn.keep (KP.refl _ w) (fun b hb => ⟨hb.1, hb.2.1⟩) _ _ e6⟩
      have := row_cell h3' (flat_at h2 e5 hd)
      rw [Nat.zero_add]
      exact this
/-- One more: W0 is where the list stood, W where the new one was made, W1 behind the append (x: the block of what is appended). -/
theorem RowP.push {P : Nat → Prop} {base bM x : Nat} {W0 W W1 : World} {v : Value} {l : List Ty} {t : Ty} {ds : List Value} {g cap : Nat} {L : List (List Value)} (h1 : L.length = l.length) (h2 : ∀ ds ∈ L, ds.length = 3) (h5 : ∀ (i : Nat) t, l[i]? = some t → ∃ ds, L[i]? = some ds ∧ TyIn (KdP P base bM v W0) W0 t ds) (hb0 : KP (fun b => (P b ∨ base ≤ b) ∧ b < W0.heap.size) W0 W) (ht : TyIn (fun b => P b ∨ New W0.heap.size W.heap.size b) W t ds) (hPb : ∀ b, P b → b < base ∧ b ≠ bM) (hbase : base ≤ W0.heap.size) (hM : bM < W0.heap.size)
    (hlt : ∀ r, v.ownBlock = some r → base ≤ r ∧ r < W0.heap.size) (hown : W1.ownsRow base 24 3 (.slice (some ⟨g, 0, none⟩) (l.length + 1) cap) (l.length + 1) (L.flatten ++ ds)) (hgr : (W.alloc (.cells ds.toArray 24)).grownBy W1 v.ownBlock) (hat : v.ownBlock = some g ∨ g = W.heap.size + 1) (hv : v.ownBlock ≠ some bM) (u : Value) (off : Nat) (hH : ∃ C t', Hold bM C t' W1) :
    RowP P base bM (W1.setCell ⟨bM, off, none⟩ u) (.slice (some ⟨g, 0, none⟩) (l ++ [t]).length cap) (l ++ [t]) := by
  have hgM : g ≠ bM := by
    rcases hat with h | h
    · intro e; subst e; exact hv h
    · have := hb0.size; omega
  have hlen : (l ++ [t]).length = l.length + 1 := by simp
  have hgW : ∀ r, v.ownBlock = some r → r < W0.heap.size := fun r h => (hlt r h).2
  have hk : KP (fun b => b < W.heap.size ∧ b ≠ bM ∧ some b ≠ v.ownBlock) W (W1.setCell ⟨bM, off, none⟩ u) :=
    ((KP.alloc W _ fun b hb => hb.1).trans (KP.of_grown hgr fun b hb => ⟨by simp; omega, hb.2.2⟩)).trans (KP.setCell _ _ _ _ fun h => h.2.1 rfl)
  have hsz : W.heap.size + 1 ≤ (W1.setCell ⟨bM, off, none⟩ u).heap.size := by have := hgr.size; simp at this ⊢; omega
  refine ⟨L ++ [ds], by simp [h1], ?_, ?_, by simpa [Value.ownBlock] using hgM, ?_⟩
  · intro d hd
    rcases List.mem_append.1 hd with hd | hd
    · exact h2 d hd
    · simp at hd; rw [hd]; exact ht.three.1
  · rw [hlen, List.flatten_append]
    simp only [List.flatten_cons, List.flatten_nil, List.append_nil]
    refine row_keep hown fun b hb _ => Below.heap_setCell _ _ _ b fun e => ?_
    have hbg : g = b := by simpa [Value.ownBlock] using hb
    exact hgM (hbg.trans e)
  · intro i s hs
    have hne : ∀ b, some b ≠ v.ownBlock → b < W.heap.size → g ≠ b := by
      intro b hb hl e
      rcases hat with h | h
      · rw [e] at h; exact hb h.symm
      · omega
    rcases Nat.lt_trichotomy i l.length with hi | hi | hi
    · rw [List.getElem?_append_left hi] at hs
      obtain ⟨d, e1, e2⟩ := h5 i s hs
      refine ⟨d, by rw [List.getElem?_append_left (by omega)]; exact e1, ?_⟩
      have k1 : KP (KdP P base bM v W0) W0 (W1.setCell ⟨bM, off, none⟩ u) := (hb0.mono fun b (hb : KdP P base bM v W0 b) => ⟨hb.1, hb.2.1⟩).trans (hk.mono fun b hb => ⟨Nat.lt_of_lt_of_le hb.2.1 hb0.size, hb.2.2.1, hb.2.2.2⟩)
      refine TyIn.keep k1 (fun b hb => ⟨hb.1, Nat.lt_of_lt_of_le hb.2.1 k1.size, hb.2.2.1, fun e => ?_⟩) _ _ e2
      have e' : b = g := by simpa [Value.ownBlock] using e
      exact hne b hb.2.2.2 (Nat.lt_of_lt_of_le hb.2.1 hb0.size) e'.symm
    · subst hi
      simp at hs
      subst hs
      refine ⟨ds, by rw [← h1]; simp, ?_⟩
      have hsW := hb0.size
      have hQ : ∀ b, (P b ∨ New W0.heap.size W.heap.size b) → (P b ∨ base ≤ b) ∧ b < W.heap.size ∧ b ≠ bM ∧ some b ≠ v.ownBlock := fun b hb => by
        rcases hb with hb | hb
        · obtain ⟨h1, h2⟩ := hPb b hb
          exact ⟨.inl hb, by omega, h2, fun e => by have := (hlt b e.symm).1; omega⟩
        · exact ⟨.inr (Nat.le_trans hbase hb.1), hb.2, by have := hb.1; omega, fun e => by have := hgW b e.symm; have := hb.1; omega⟩
      have k1 : KP (fun b => P b ∨ New W0.heap.size W.heap.size b) W (W1.setCell ⟨bM, off, none⟩ u) := hk.mono fun b hb => (hQ b hb).2
      refine TyIn.keep k1 (fun b hb => ?_) _ _ ht
      obtain ⟨q1, q2, q3, q4⟩ := hQ b hb
      refine ⟨q1, by omega, q3, fun e => ?_⟩
      have e' : b = g := by simpa [Value.ownBlock] using e
      exact hne b q4 q2 e'.symm
    · rw [List.getElem?_append_right (by omega)] at hs
      have hz : i - l.length ≠ 0 := by omega
      obtain ⟨k, hk'⟩ : ∃ k, i - l.length = k + 1 := ⟨i - l.length - 1, by omega⟩
      rw [hk'] at hs
      simp at hs
end Go.Proofs.YteoflpalmckikaaDoor
