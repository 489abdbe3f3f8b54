/-
  WHAT IS WRITTEN INTO THE WEB: one more place, a hole's place, a fact, a least number.
-/
import Derived.Test.YteoflpalmckikaaDoorTeller
import Derived.Test.YteoflpalmckikaaDoorCanonP
namespace Go.Proofs.YteoflpalmckikaaDoor
open Go.RowKit
set_option linter.unusedVariables false
set_option linter.unusedSimpArgs false
theorem base_mono {w : World} {B B' e size n : Nat} {v : Value} {xs : List Value} (h : w.ownsRow B e size v n xs) (hb : B' ≤ B) : w.ownsRow B' e size v n xs := by
  obtain ⟨h1, h2⟩ := h
  refine ⟨h1, ?_⟩
  rcases h2 with h2 | ⟨g, cap, cur, e1, e2, e3⟩
  · exact .inl h2
  · exact .inr ⟨g, cap, cur, e1, by omega, e3⟩
theorem natV_range (n : Nat) : natV (List.range (n + 1)) = natV (List.range n) ++ [.int .i64 (n : Nat)] := by
  unfold natV
  rw [List.range_succ, List.map_append, List.map_singleton]
theorem natV_snoc (l : List Nat) (n : Nat) : natV (l ++ [n]) = natV l ++ [.int .i64 (n : Nat)] := by
  unfold natV
  rw [List.map_append, List.map_singleton]
theorem natM_upd (hp : Int → Option Nat) (m : Int) (i : Nat) : updV (natM hp) m (.int .i64 (i : Nat)) = natM (updI hp m i) := by
  funext k
  unfold updV natM updI
  split <;> rfl
section
variable {D B hB fB lB : Nat} {v : Value} {ties : List Nat} {hp : Int → Option Nat} {fc : Nat → Option Shp} {le : Nat → Option Int} {w w' : World}
/-- Where the row of ties may have gone to. -/
def VB (w : World) (v v' : Value) : Prop := ∀ g, v'.ownBlock = some g → v.ownBlock = some g ∨ w.heap.size ≤ g
theorem VB.refl (w : World) (v : Value) : VB w v v := fun _ h => .inl h
theorem VB.trans {w w' : World} {v v' v'' : Value} (h : VB w v v') (k : VB w' v' v'') (hs : w.heap.size ≤ w'.heap.size) : VB w v v'' := fun g hg => by
  rcases k g hg with h1 | h1
  · exact h g h1
  · exact .inr (Nat.le_trans hs h1)
/-- What is kept from one state of the web to a later one. -/
theorem Wk.step {w w' : World} {v v' : Value} {b : Nat} (h : Wk B hB fB lB v w b) (hs : w.heap.size ≤ w'.heap.size) (hv : VB w v v') : Wk B hB fB lB v' w' b := by
  obtain ⟨h1, h2, h3, h4, h5, h6⟩ := h
  refine ⟨by omega, h2, h3, h4, h5, fun e => ?_⟩
  rcases hv b e.symm with h | h
  · exact h6 h.symm
  · omega
theorem WM.push {n g cap : Nat} {w3 : World} (h : WM D B hB fB lB v (List.range n) hp fc le w) (hown : w3.ownsRow D 3 1 (.slice (some ⟨g, 0, none⟩) (n + 1) cap) (n + 1) (natV (List.range n) ++ [.int .i64 (n : Nat)])) (hgr : (w.alloc (.cells #[.int .i64 (n : Nat)] 3)).grownBy w3 v.ownBlock) (hat : v.ownBlock = some g ∨ g = w.heap.size + 1) (hn : n + 1 ≤ 100000) :
    WM D B hB fB lB (.slice (some ⟨g, 0, none⟩) (n + 1) cap) (List.range (n + 1)) hp fc le (w3.setCell ⟨B, 0, none⟩ (.slice (some ⟨g, 0, none⟩) (n + 1) cap)) ∧ KP (Wk B hB fB lB v w) w (w3.setCell ⟨B, 0, none⟩ (.slice (some ⟨g, 0, none⟩) (n + 1) cap)) ∧ VB w v (.slice (some ⟨g, 0, none⟩) (n + 1) cap) := by
  obtain ⟨fv, f1, f2, f3⟩ := h.fac
  obtain ⟨lv, l1, l2⟩ := h.lea
  have k3 : KP (fun b => b < w.heap.size ∧ some b ≠ v.ownBlock) w w3 := (KP.alloc w _ fun b hb => hb.1).trans (KP.of_grown hgr fun b hb => ⟨by simp; omega, hb.2⟩)
  have hcB : some B ≠ v.ownBlock := row_ne h.cell h.row (by decide)
  have hch : some hB ≠ v.ownBlock := h.hol.row_ne h.row
  have hcf : some fB ≠ v.ownBlock := f1.row_ne h.row
  have hcl : some lB ≠ v.ownBlock := l1.row_ne h.row
  have kB := h.cell.kp k3 ⟨h.cell.lt, hcB⟩
  have hgB : g ≠ B := fun e => row_ne kB hown (by decide) (by rw [e]; rfl)
  have m1 := h.hol.kp k3 ⟨h.hol.lt, hch⟩
  have m2 := f1.kp k3 ⟨f1.lt, hcf⟩
  have m3 := l1.kp k3 ⟨l1.lt, hcl⟩
  refine ⟨⟨h.base, h.ne, ?_, ?_, m1.setCell _ (m1.ne kB), ⟨fv, m2.setCell _ (m2.ne kB), fun i s hs => ?_, f3⟩, ⟨lv, m3.setCell _ (m3.ne kB), l2⟩, by simpa using hn⟩, ?_, ?_⟩
  · have := kB.set 0 (.slice (some ⟨g, 0, none⟩) (n + 1) cap)
    simpa using this
  · rw [List.length_range, natV_range]
    exact row_other hown kB (by decide) _ _
  · obtain ⟨x, e1, e2⟩ := f2 i s hs
    refine ⟨x, e1, ?_⟩
    have e3 : ShV (w3.setCell ⟨B, 0, none⟩ (.slice (some ⟨g, 0, none⟩) (n + 1) cap)) D v s x := e2.keep fun g' hg' hl' ⟨C, hC⟩ => (Below.heap_setCell _ _ _ g' (fun e => by
      have e' : g' = B := e
      subst e'
      rw [show w.heap[g']? = _ from h.cell] at hC
      cases hC)).trans (k3.block g' ⟨hl', hg'⟩)
    obtain ⟨p, c, hx, hr, hne⟩ := e3
    refine ⟨p, c, hx, hr, fun g' hg' e => ?_⟩
    have e' : g' = g := by simpa [Value.ownBlock] using e
    subst e'
    rcases hat with ha | ha
    · exact hne g' hg' ha.symm
    · obtain ⟨p2, c2, hx2, hr2, _⟩ := e2
      rw [hx] at hx2
      simp only [Value.agg.injEq] at hx2
      have hpp : (Value.slice p s.2.length c) = .slice p2 s.2.length c2 := by
        have := congrArg (fun a : Array Value => a[1]?) hx2
        simpa using this
      rw [hpp] at hg'
      rcases hr2.2 with ⟨hz, _⟩ | ⟨g2, cap2, cur2, hz, _, hg2, _⟩
      · rw [hz] at hg'; cases hg'
      · rw [hz] at hg'
        have : g2 = g' := by simpa [Value.ownBlock] using hg'
        have := (Array.getElem?_eq_some_iff.1 hg2).1
        omega
  · refine (k3.mono fun b hb => ⟨hb.1, hb.2.2.2.2.2⟩).trans (KP.setCell _ _ _ _ fun hb => hb.2.1 rfl)
  · intro g' hg'
    have e' : g = g' := by simpa [Value.ownBlock] using hg'
    subst e'
    rcases hat with ha | ha
    · exact .inl ha
    · exact .inr (by omega)
theorem Stored.ktail {X : Nat} (h : Stored w X w') : ∀ b, b < w.heap.size → b ≠ X → w'.heap[b]? = w.heap[b]? := fun b hb hx => h.1.block b hb fun e => hx (by cases e; rfl)
theorem WM.hole {m : Int} {i : Nat} (h : WM D B hB fB lB v ties hp fc le w) (hs : Stored w hB w') (hm : MapI w' hB (updV (natM hp) m (.int .i64 (i : Nat)))) : WM D B hB fB lB v ties (updI hp m i) fc le w' ∧ KP (Wk B hB fB lB v w) w w' := by
  obtain ⟨fv, f1, f2, f3⟩ := h.fac
  obtain ⟨lv, l1, l2⟩ := h.lea
  have k := hs.ktail
  have hrow : some hB ≠ v.ownBlock := h.hol.row_ne h.row
  rw [natM_upd] at hm
  refine ⟨⟨h.base, h.ne, (k B h.cell.lt (h.hol.ne h.cell).symm).trans h.cell, row_keep h.row fun g hg hl => k g hl fun e => hrow (by rw [← e, hg]), hm, ⟨fv, f1.keep (k fB f1.lt h.ne.1.symm), fun j s hj => ?_, f3⟩, ⟨lv, l1.keep (k lB l1.lt h.ne.2.1.symm), l2⟩, h.few⟩, ⟨hs.1.os, hs.1.tape, hs.1.output, hs.1.size, fun b hb => k b hb.1 hb.2.2.1⟩⟩
  obtain ⟨x, e1, e2⟩ := f2 j s hj
  refine ⟨x, e1, e2.keep fun g hg hl hC => k g hl fun e => ?_⟩
  subst e
  obtain ⟨C, hC⟩ := hC
  obtain ⟨es, cl, hb, _⟩ := h.hol
  rw [hC] at hb
  cases hb
theorem WM.fact {i : Nat} {s : Shp} {x : Value} {fv : Int → Option Value} (h : WM D B hB fB lB v ties hp fc le w) (hfv : (∀ (i : Nat) s, fc i = some s → ∃ x, fv i = some x ∧ ShV w D v s x) ∧ ∀ i : Nat, fc i = none → fv i = none) (f1 : MapI w fB fv) (hs : Stored w fB w') (hm : MapI w' fB (updV fv (i : Nat) x)) (hx : ShV w D v s x) : WM D B hB fB lB v ties hp (updN fc i s) le w' ∧ KP (Wk B hB fB lB v w) w w' := by
  obtain ⟨lv, l1, l2⟩ := h.lea
  have k := hs.ktail
  have hrow : some fB ≠ v.ownBlock := f1.row_ne h.row
  have kk : ∀ {s x}, ShV w D v s x → ShV w' D v s x := fun e2 => e2.keep fun g hg hl hC => k g hl fun e => by
    subst e
    obtain ⟨C, hC⟩ := hC
    obtain ⟨es, cl, hb, _⟩ := f1
    rw [hC] at hb
    cases hb
  refine ⟨⟨h.base, h.ne, (k B h.cell.lt (f1.ne h.cell).symm).trans h.cell, row_keep h.row fun g hg hl => k g hl fun e => hrow (by rw [← e, hg]), h.hol.keep (k hB h.hol.lt h.ne.1), ⟨_, hm, fun j s' hj => ?_, fun j hj => ?_⟩, ⟨lv, l1.keep (k lB l1.lt h.ne.2.2.symm), l2⟩, h.few⟩, ⟨hs.1.os, hs.1.tape, hs.1.output, hs.1.size, fun b hb => k b hb.1 hb.2.2.2.1⟩⟩
  · unfold updN at hj
    split at hj
    · rename_i e
      cases hj
      rw [e]
      exact ⟨x, updV_at _ _ _, kk hx⟩
    · rename_i e
      obtain ⟨y, e1, e2⟩ := hfv.1 j s' hj
      exact ⟨y, by rw [updV_ne _ _ (by omega)]; exact e1, kk e2⟩
  · unfold updN at hj
    split at hj
    · cases hj
    · rw [updV_ne _ _ (by omega)]
      exact hfv.2 j hj
end
end Go.Proofs.YteoflpalmckikaaDoor
