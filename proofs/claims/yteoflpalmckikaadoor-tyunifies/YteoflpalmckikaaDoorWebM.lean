/-
  THE WEB IN MEMORY, and the walk of web.teller.
-/
import Derived.Test.YteoflpalmckikaaDoorMapI
import Derived.Test.YteoflpalmckikaaDoorFilled
import Derived.Test.YteoflpalmckikaaDoorGrowM
namespace Go.Proofs.YteoflpalmckikaaDoor
open Go.RowKit
set_option linter.unusedVariables false
set_option linter.unusedSimpArgs false
def natV (l : List Nat) : List Value := l.map fun i => .int .i64 (i : Nat)
theorem natV_len (l : List Nat) : (natV l).length = l.length := by simp [natV]
theorem natV_at {l : List Nat} {i x : Nat} (h : l[i]? = some x) : (natV l)[i]? = some (.int .i64 x) := by unfold natV; rw [List.getElem?_map, h]; rfl
/-- A shape's value: its Args lie in a row of their own, which is not the ties'. -/
def ShV (w : World) (D : Nat) (v : Value) (s : Shp) (x : Value) : Prop := ∃ p c, x = .agg #[.string (S s.1), .slice p s.2.length c] ∧ w.ownsRow D 3 1 (.slice p s.2.length c) s.2.length (natV s.2) ∧ ∀ g, (Value.slice p s.2.length c).ownBlock = some g → some g ≠ v.ownBlock
def natM (hp : Int → Option Nat) : Int → Option Value := fun m => (hp m).map fun i => .int .i64 (i : Nat)
/-- The web. -/
structure WM (D B hB fB lB : Nat) (v : Value) (ties : List Nat) (hp : Int → Option Nat) (fc : Nat → Option Shp) (le : Nat → Option Int) (w : World) : Prop where
  base : D ≤ B ∧ D ≤ hB ∧ D ≤ fB ∧ D ≤ lB
  ne : hB ≠ fB ∧ hB ≠ lB ∧ fB ≠ lB
  cell : Hold B #[v, .map (some hB), .map (some fB), .map (some lB)] 64 w
  row : w.ownsRow D 3 1 v ties.length (natV ties)
  hol : MapI w hB (natM hp)
  fac : ∃ fv, MapI w fB fv ∧ (∀ (i : Nat) s, fc i = some s → ∃ x, fv i = some x ∧ ShV w D v s x) ∧ ∀ i : Nat, fc i = none → fv i = none
  lea : ∃ lv, MapI w lB lv ∧ ∀ i : Nat, lv i = (le i).map (.int .i64 ·)
  few : ties.length ≤ 100000
/-- Blocks that are none of the web's own. -/
def Wk (B hB fB lB : Nat) (v : Value) (w : World) (b : Nat) : Prop := b < w.heap.size ∧ b ≠ B ∧ b ≠ hB ∧ b ≠ fB ∧ b ≠ lB ∧ some b ≠ v.ownBlock
/-- All blocks but the ties'. -/
def Wt (v : Value) (w : World) (b : Nat) : Prop := b < w.heap.size ∧ some b ≠ v.ownBlock
theorem ShV.keep {w w' : World} {D : Nat} {v : Value} {s : Shp} {x : Value} (h : ShV w D v s x) (k : ∀ g, some g ≠ v.ownBlock → g < w.heap.size → (∃ C, w.heap[g]? = some (.cells C 3 (0, 0))) → w'.heap[g]? = w.heap[g]?) : ShV w' D v s x := by
  obtain ⟨p, c, rfl, h2, h3⟩ := h
  refine ⟨p, c, rfl, ?_, h3⟩
  rcases h2 with ⟨e1, e2 | ⟨g, cap, cur, hv, hb, hg, r⟩⟩
  · exact ⟨e1, .inl e2⟩
  · refine ⟨e1, .inr ⟨g, cap, cur, hv, hb, (k g (h3 g (by rw [hv]; rfl)) (Array.getElem?_eq_some_iff.1 hg).1 ⟨cur, hg⟩).trans hg, r⟩⟩
section
variable {D B hB fB lB : Nat} {v : Value} {ties : List Nat} {hp : Int → Option Nat} {fc : Nat → Option Shp} {le : Nat → Option Int} {w w' : World}
theorem WM.below (h : WM D B hB fB lB v ties hp fc le w) (k : Below w.heap.size w w') : WM D B hB fB lB v ties hp fc le w' := by
  obtain ⟨fv, f1, f2, f3⟩ := h.fac
  obtain ⟨lv, l1, l2⟩ := h.lea
  exact ⟨h.base, h.ne, h.cell.below k h.cell.lt, row_keep h.row fun g _ hg => k.block g hg, h.hol.below k h.hol.lt, ⟨fv, f1.below k f1.lt, fun i s hs => by
    obtain ⟨x, e1, e2⟩ := f2 i s hs
    exact ⟨x, e1, e2.keep fun g _ hg _ => k.block g hg⟩, f3⟩, ⟨lv, l1.below k l1.lt, l2⟩, h.few⟩
theorem WM.alloc (h : WM D B hB fB lB v ties hp fc le w) (o : Obj) : WM D B hB fB lB v ties hp fc le (w.alloc o) := h.below ((Below.refl _ w).alloc (Nat.le_refl _) o)
/-- A row of ties is there, once there is a place. -/
theorem WM.slice (h : WM D B hB fB lB v ties hp fc le w) (hn : 0 < ties.length) : ∃ g c, v = .slice (some ⟨g, 0, none⟩) ties.length c ∧ D ≤ g ∧ g < w.heap.size ∧ ∃ cur, Hold g cur 3 w := by
  rcases h.row.2 with ⟨_, h3⟩ | ⟨g, cap, cur, hv, hb, hg, r1, r2, r3, r4⟩
  · omega
  · exact ⟨g, cap, hv, hb, (Array.getElem?_eq_some_iff.1 hg).1, cur, hg⟩
/-- A row with one of its values turned. -/
theorem row_set {W : World} {base n cap g i : Nat} {e : TypeId} {xs : List Value} (h : W.ownsRow base e 1 (.slice (some ⟨g, 0, none⟩) n cap) n xs) (hi : i < n) (v : Value) : (W.setCell ⟨g, i, none⟩ v).ownsRow base e 1 (.slice (some ⟨g, 0, none⟩) n cap) n (xs.set i v) := by
  rcases h with ⟨h1, ⟨h2, _⟩ | ⟨g', cap', cur, hv, hb, hg, r1, r2, r3, r4⟩⟩
  · cases h2
  · cases hv
    have hH : Hold g (cur.setIfInBounds i v) e (W.setCell ⟨g, i, none⟩ v) := Hold.set (show Hold g cur e W from hg) i v
    refine ⟨by rw [List.length_set]; exact h1, .inr ⟨g, cap, cur.setIfInBounds i v, rfl, hb, hH, r1, r2, by simpa using r3, ?_⟩⟩
    rw [← r4, Array.toList_setIfInBounds, List.take_set]
/-- One of the ties, written. -/
theorem WM.tie {g c i x : Nat} (h : WM D B hB fB lB (.slice (some ⟨g, 0, none⟩) ties.length c) ties hp fc le w) (hi : i < ties.length) : WM D B hB fB lB (.slice (some ⟨g, 0, none⟩) ties.length c) (ties.set i x) hp fc le (w.setCell ⟨g, i, none⟩ (.int .i64 x)) ∧ KP (fun b => some b ≠ (Value.slice (some ⟨g, 0, none⟩) ties.length c).ownBlock) w (w.setCell ⟨g, i, none⟩ (.int .i64 x)) := by
  obtain ⟨fv, f1, f2, f3⟩ := h.fac
  obtain ⟨lv, l1, l2⟩ := h.lea
  have hgB : g ≠ B := fun e => row_ne h.cell h.row (by decide) (by rw [e]; rfl)
  have hgh : g ≠ hB := fun e => h.hol.row_ne h.row (by rw [e]; rfl)
  have hgf : g ≠ fB := fun e => f1.row_ne h.row (by rw [e]; rfl)
  have hgl : g ≠ lB := fun e => l1.row_ne h.row (by rw [e]; rfl)
  refine ⟨⟨h.base, h.ne, h.cell.other hgB.symm _ _, ?_, h.hol.setCell _ hgh.symm, ⟨fv, f1.setCell _ hgf.symm, fun j s hs => ?_, f3⟩, ⟨lv, l1.setCell _ hgl.symm, l2⟩, by rw [List.length_set]; exact h.few⟩, KP.setCell _ _ _ _ fun hk => hk rfl⟩
  · have := row_set h.row hi (.int .i64 (x : Nat))
    rw [List.length_set]
    have e : natV (ties.set i x) = (natV ties).set i (.int .i64 (x : Nat)) := by unfold natV; rw [List.map_set]
    rw [e]
    exact this
  · obtain ⟨y, e1, e2⟩ := f2 j s hs
    exact ⟨y, e1, e2.keep fun g' hg' _ _ => Below.heap_setCell _ _ _ g' fun e => hg' (by rw [show g' = g from e]; rfl)⟩
theorem WM.at (h : WM D B hB fB lB v ties hp fc le w) {g c i x : Nat} (hv : v = .slice (some ⟨g, 0, none⟩) ties.length c) (hx : ties[i]? = some x) : w.cell? ⟨g, i, none⟩ = some (.int .i64 x) := by
  have := h.row
  rw [hv] at this
  exact row_cell this (natV_at hx)
end
theorem Fo.root_iff {ties : List Nat} {ro d : Nat → Nat} (h : Fo ties ro d) {i : Nat} (hi : i < ties.length) : ties[i]? = some i ↔ ro i = i := by
  constructor
  · exact fun e => (h.self e).1
  · intro e
    have := (h.root hi).2.1
    rw [e] at this
    exact this
theorem Fo.rootN_eq {ties ties' : List Nat} {ro d d' : Nat → Nat} (h : Fo ties ro d) (h' : Fo ties' ro d') (hl : ties'.length = ties.length) : rootN ties' = rootN ties := by
  unfold rootN
  rw [hl]
  congr 1
  refine List.filter_congr fun i hi => ?_
  have hi' := List.mem_range.1 hi
  rw [Bool.eq_iff_iff, beq_iff_eq, beq_iff_eq, h.root_iff hi', h'.root_iff (by omega)]
end Go.Proofs.YteoflpalmckikaaDoor
