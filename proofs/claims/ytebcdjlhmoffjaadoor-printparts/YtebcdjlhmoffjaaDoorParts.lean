/-
  tree.parts: a tree's parts with their levels, as its iterator goes through them (a list of lists for a stack).
-/
import Derived.Test.YtebcdjlhmoffjaaDoorSound3
import Derived.RangeFuncNested
import Derived.RangeFuncBound
import Derived.RangeFuncCalls
import Derived.RangeFuncLeaves
import Derived.Shelf.Abstract
import Derived.Shelf.RegionOpen
import Derived.OwnWalkIn
import Derived.TacticsInMore
import Derived.LoopNIn
import Derived.LoopIn
namespace Go.Proofs.YtebcdjlhmoffjaaDoor
open Go.RowKit Go.Shelf
set_option linter.unusedVariables false
set_option linter.unusedSimpArgs false
attribute [local go_sem] Oper.semAt_some
/-- A tree, and then its Kids, in order, each with its level. -/
def po (t : Tr) : Nat → List (Nat × Tr) := t.fold (α := Nat → List (Nat × Tr)) fun t l n => (n, t) :: l.flatMap fun k => k.2 (n + 1)
theorem po_eq (t : Tr) (n : Nat) : po t n = (n, t) :: t.ks.flatMap fun k => po k (n + 1) := by
  unfold po
  rw [Tr.fold_eq]
  simp only [List.flatMap_map]
/-- A list of trees that is open: where it lies, how long it may be, what is left of it. -/
abbrev SE := Option Addr × Nat × List Tr
/-- What is still to come (the last list that was opened first). -/
def remS : List SE → List (Nat × Tr)
  | [] => []
  | s :: r => (s.2.2.flatMap fun k => po k (r.length + 2)) ++ remS r
def seV (s : SE) : Value := .slice s.1 s.2.2.length s.2.1
def seOK (P : Nat → Prop) (w : World) (s : SE) : Prop := SlOK s.1 s.2.2.length s.2.1 ∧ EM P w s.1 s.2.2
/-- A part that is told: its level, and it, as it lies in memory. -/
structure PX where
  lv : Nat
  t : Tr
  pn : Option Addr
  cn : Nat
  pk : Option Addr
  ck : Nat
def okX (P : Nat → Prop) (w : World) (x : PX) : Prop := TrIn P w x.t [.int .i64 x.t.kd, .string (S x.t.nm), .int .i64 x.t.nu, .slice x.pn x.t.ns.length x.cn, .slice x.pk x.t.ks.length x.ck] ∧ x.lv ≤ 2147483647 ∧ x.t.ks.length ≤ 1000000
abbrev PN (P : Nat → Prop) (w : World) := { x : PX // okX P w x }
def encP {P : Nat → Prop} {w : World} (x : PN P w) : Array Value := #[.int .i64 x.1.lv, .agg (cs5 x.1.t x.1.pn x.1.cn x.1.pk x.1.ck)]
def bareP {P : Nat → Prop} {w : World} (x : PN P w) : Nat × Tr := (x.1.lv, x.1.t)
/-- What a round keeps of the iterator's: all below n, block s, and cells from b on. -/
def KpB (n b s : Nat) (W W' : World) : Prop := Below n W W' ∧ W'.heap[s]? = W.heap[s]? ∧ ∀ k C t f, b ≤ k → W.heap[k]? = some (.cells C t f) → W'.heap[k]? = some (.cells C t f)
theorem KpB.trans {n b s : Nat} {A B C : World} (h : KpB n b s A B) (k : KpB n b s B C) : KpB n b s A C := ⟨h.1.trans k.1, k.2.1.trans h.2.1, fun i X t f hb hi => k.2.2 i X t f hb (h.2.2 i X t f hb hi)⟩
theorem KpB.put {n b s : Nat} {w : World} (hn : n ≤ w.heap.size) (hs : s < w.heap.size) (W : World) (l : Nat) (o o' : Obj) (hl : w.heap.size ≤ l) (h : W.heap[l]? = some o) (hc : o.isCells = false) (hw : o.isWalk = false) : KpB n b s W (W.putObj l o') := by
  have hg := grownBy_putObj' W l o'
  refine ⟨belowK_b hn W l o o' hl h hc hw, hg.block s (by have := (Array.getElem?_eq_some_iff.1 h).1; omega) (fun e => by have e' : s = l := by simpa using e
                                                                                                                          omega), fun k C t f hb hk => ?_⟩
  refine (hg.block k (Array.getElem?_eq_some_iff.1 hk).1 (fun e => ?_)).trans hk
  have e' : k = l := by simpa using e
  subst e'
  rw [h] at hk
  cases hk
  simp [Obj.isCells] at hc
theorem KpB.hold {n b s k : Nat} {W W' : World} {C : Array Value} {t : TypeId} (h : KpB n b s W W') (hb : b ≤ k) (hk : Hold k C t W) : Hold k C t W' := h.2.2 k C t (0, 0) hb hk
theorem KpB.holdS {n b s : Nat} {W W' : World} {C : Array Value} {t : TypeId} (h : KpB n b s W W') (hk : Hold s C t W) : Hold s C t W' := h.2.1.trans hk
/-- The least number of which something holds. -/
theorem least_of {p : Nat → Prop} (h : ∃ n, p n) : ∃ n, p n ∧ ∀ m, p m → n ≤ m := by
  obtain ⟨n, hn⟩ := h
  induction n using Nat.strongRecOn with
  | _ n ih =>
    by_cases hx : ∃ m, m < n ∧ p m
    · obtain ⟨m, hm, hp⟩ := hx; exact ih m hm hp
    · exact ⟨n, hn, fun m hm => Nat.le_of_not_lt fun hlt => hx ⟨m, hlt, hm⟩⟩
end Go.Proofs.YtebcdjlhmoffjaaDoor
