/-
  A LOOP OVER AN ITERATOR THAT WRITES MEMORY OF ITS OWN BETWEEN TWO ROUNDS, whose body always goes on: what the caller knows must bear whatever turns in blocks that were made since the loop began; what the iterator knows is kept by the body (Kp).
-/
import Derived.Test.YteoflpalmckikaaDoorMapI
import Derived.RangeFuncNested
import Derived.RangeFuncBound
import Derived.RangeFuncCalls
import Derived.RangeFuncLeaves
import Derived.Shelf.Abstract
import Derived.Shelf.RegionOpen
import Derived.OwnWalkIn
import Derived.TacticsInMore
import Derived.LoopNIn
import Derived.LoopIn
namespace Go.Proofs.YteoflpalmckikaaDoor
open Go.RowKit Go.Shelf
set_option linter.unusedVariables false
variable {α : Type}
/-- It bears whatever turns from block B on, but cells. -/
def OwnB (B : Nat) (J : List α → World → Prop) : Prop := ∀ s W W' row, J s W → W.grownBy W' row → (∀ r, row = some r → B ≤ r ∧ ∃ o, W.heap[r]? = some o ∧ o.isCells = false) → J s W'
theorem OwnB.obj {B : Nat} {J : List α → World → Prop} (h : OwnB B J) {s : List α} {W : World} {l : Nat} {lp : Loop} (o : Obj) (hs : J s W) (hl : B ≤ l) (hlo : W.heap[l]? = some (.loop lp)) : J s (W.putObj l o) := h s W _ (some l) hs (grownBy_putObj' W l o) (fun r e => by cases e; exact ⟨hl, _, hlo, rfl⟩)
theorem OwnB.new {B : Nat} {J : List α → World → Prop} (h : OwnB B J) {s : List α} {W : World} (o : Obj) (hs : J s W) : J s (W.alloc o) := h s W _ none hs (World.grownBy_alloc W o none) (fun r e => by cases e)
theorem yieldAt_any {m : Nat} {P : Program} {l : Nat} {args : Array Value} {W : World} {R : Ending → World → Prop} (h : YieldAt Fence.wide m P l args W R) (m' : Nat) : YieldAt Fence.wide m' P l args W R := by
  obtain ⟨fn, tmps, assign, body, hy, hR⟩ := h
  exact ⟨fn, tmps, assign, body, hy, ⟨hR.1, fun c cs _ => hR.2 c cs (room_wide _)⟩⟩
/-- The iterator's word. -/
def ItT (n gf : Nat) (lb : Array Value) (encs : α → Array Value) (Kp : World → World → Prop) (xs : List α) (w : World) : Prop :=
  ∀ (l : Nat) (J : List α → World → Prop) (W : World), Below w.heap.size w W → OwnB W.heap.size J →
    (∀ m pre x r W1, xs = pre ++ x :: r → J pre W1 → YieldAt Fence.wide m Tryd.prog l (encs x) W1 fun e W' => e = .returned (.bool true) ∧ J (pre ++ [x]) W' ∧ Kp W1 W') →
    J [] W → CallsIn Fence.wide n Tryd.prog gf (#[.func (.yield l) #[] #[]] ++ lb) W fun e W' => (∃ v, e = .returned v) ∧ J xs W'
/-- How a body's round is left: it goes on. -/
def leaves (B : Nat) (Kp : World → World → Prop) (I : List α → World → Prop) (xs : List α) (W : World) : Exit → Act → World → Prop
  | .normal, _, W' => KeepsFrom B W W' ∧ Kp W W' ∧ I xs W'
  | _, _, _ => False
theorem range_t {n gf : Nat} {lb : Array Value} {encs : α → Array Value} {Kp : World → World → Prop} {xs : List α} {g : Operand} {ps : Array Tmp} {assign body : Code} {Q : Exit → Act → World → Prop} {a : Act} {w : World} (h1 : 1 ≤ n)
    (hg : a.eval g = .func (.func gf) #[] lb) (eg : ∀ args w, (callFunc gf args).run Tryd.prog w = .ok (.enter gf args) w) (hit : ItT (n - 1) gf lb encs Kp xs w)
    (hKt : ∀ {A B C : World}, Kp A B → Kp B C → Kp A C) (hKb : ∀ (W : World) (l : Nat) (o o' : Loop), w.heap.size ≤ l → W.heap[l]? = some (.loop o) → Kp W (W.putObj l (.loop o'))) (hps : ∀ x, (encs x).size = ps.size)
    (I : List α → World → Prop) (hI : OwnB w.heap.size I) (h0 : I [] w) (a₁ : α → World → Act) (w₁ : α → World → World) (hw₁ : ∀ x W, w.heap.size + 2 ≤ W.heap.size → W.grownBy (w₁ x W) none ∧ Kp W (w₁ x W))
    (hassign : ∀ (l : Nat) (x : α) (W : World) (K : Act → World → Prop), K (a₁ x W) (w₁ x W) → assign.wpIn (Fence.wide.inRound l) (n - 1 - 1) Tryd.prog (Exit.then K (fun _ _ _ => False)) { tmps := (ps.zip (encs x)).foldl (fun t (p, v) => t.setIfInBounds p v) a.tmps, defers := [] } W)
    (hbody : ∀ (l : Nat) (pre : List α) (x : α) (r : List α) (W X : World), w.heap.size + 2 ≤ W.heap.size → X.heap.size = (w₁ x W).heap.size → (∀ k, k ≠ w.heap.size + 1 → X.heap[k]? = (w₁ x W).heap[k]?) → I pre X → xs = pre ++ x :: r → body.wpIn (Fence.wide.inRound l) (n - 1 - 1) Tryd.prog (leaves w.heap.size Kp I (pre ++ [x]) X) (a₁ x W) X)
    (hdone : ∀ (W : World), I xs W → W.heap[w.heap.size]? = some (.deferred (some [])) → Q .normal { a with defers := { target := .collected w.heap.size, args := #[] } :: a.defers } W) :
    (Code.rangeFunc g ps assign body).wpIn Fence.wide n Tryd.prog Q a w := by
  refine wpIn_rangeFunc fun fn hfn => ?_
  -- the record of the loop, by its state and what is pending
  obtain ⟨R, hR⟩ : ∃ R : LoopState → Option Code → Loop, R = fun st pe => { state := st, pending := pe, fn, tmps := a.tmps, params := ps, assign, body, defers := w.heap.size } := ⟨_, rfl⟩
  obtain ⟨V, hV⟩ : ∃ V, V = (w.alloc (.deferred (some []))).alloc (.loop (R .ready none)) := ⟨_, rfl⟩
  have vs : V.heap.size = w.heap.size + 2 := by rw [hV]; simp
  have vl : V.heap[w.heap.size + 1]? = some (.loop (R .ready none)) := by
    rw [hV]; have := World.alloc_heap_new (w.alloc (.deferred (some []))) (.loop (R .ready none)); rwa [World.size_alloc] at this
  have vd : V.heap[w.heap.size]? = some (.deferred (some [])) := by
    rw [hV]; exact (Below.heap_alloc _ _ _ (by simp)).trans (World.alloc_heap_new w _)
  have vi : I [] V := by rw [hV]; exact hI.new _ (hI.new _ h0)
  have vb : Below w.heap.size w V := by rw [hV]; exact ((Below.refl _ w).alloc (Nat.le_refl _) _).alloc (by simp) _
  -- what the iterator's own steps leave of the two blocks that the loop has laid
  have stay : ∀ {A B : World} {row : Option Nat} {k : Nat} {o : Obj}, A.grownBy B row → (∀ r, row = some r → V.heap.size ≤ r) → k < w.heap.size + 2 → A.heap[k]? = some o → B.heap[k]? = some o := by
    intro A B row k o hgr hr hk ho
    exact (hgr.block k (Array.getElem?_eq_some_iff.1 ho).1 (fun e => by have := hr k e.symm; omega)).trans ho
  refine ⟨w.heap.size + 1, [{ target := .collected w.heap.size, args := #[] }], V, { target := .fn (.func gf) lb, args := #[.func (.yield (w.heap.size + 1)) #[] #[]] }, V, gf, #[.func (.yield (w.heap.size + 1)) #[] #[]] ++ lb, V, ?_, ?_, ?_, ?_, fun _ => h1, ?_⟩
  · rw [hV, hR]; exact run_enterLoop_outer _ _ _ _ _
  · simp only [resolve, hg]
    simp [go_sem]
  · exact fun _ _ => trivial
  · simp [invoke, go_sem, eg]
  · refine (hit (w.heap.size + 1) (fun pre W => I pre W ∧ W.heap[w.heap.size + 1]? = some (.loop (R .ready none)) ∧ W.heap[w.heap.size]? = some (.deferred (some []))) V vb
      (fun s A B row hs hgr hr => ⟨hI s A B row hs.1 hgr (fun r e => ⟨by have := (hr r e).1; omega, (hr r e).2⟩), stay hgr (fun r e => (hr r e).1) (by omega) hs.2.1, stay hgr (fun r e => (hr r e).1) (by omega) hs.2.2⟩) ?_ ⟨vi, vl, vd⟩).mono ?_
    · rintro m pre x rest W0 hxs ⟨hi0, hl0, hk0⟩
      refine yieldAt_any (m := n - 1 - 1) ?_ m
      have hlt0 : w.heap.size + 1 < W0.heap.size := (Array.getElem?_eq_some_iff.1 hl0).1
      have hgr := (hw₁ x W0 (by omega)).1
      obtain ⟨W, hWe⟩ : ∃ W, W = w₁ x W0 := ⟨_, rfl⟩
      have hi : I pre W := by rw [hWe]; exact hI _ _ _ none hi0 hgr (fun r e => by cases e)
      have hl : W.heap[w.heap.size + 1]? = some (.loop (R .ready none)) := by rw [hWe]; exact (hgr.block _ hlt0 (by simp)).trans hl0
      have hk : W.heap[w.heap.size]? = some (.deferred (some [])) := by rw [hWe]; exact (hgr.block _ (by omega) (by simp)).trans hk0
      have hkp0 : Kp W0 W := by rw [hWe]; exact (hw₁ x W0 (by omega)).2
      have hlt : w.heap.size + 1 < W.heap.size := (Array.getElem?_eq_some_iff.1 hl).1
      have hy := run_yield (P := Tryd.prog) (args := encs x) hl0 (by rw [hR]; exact hps x)
      rw [hR] at hy
      refine ⟨fn, _, assign, body, hy, roundIn_of_wpIn hfn (hassign _ x W0 _ ⟨_, by rw [← hWe]; exact run_beginRound hl (by rw [hR]), ?_⟩)⟩
      obtain ⟨X, hX⟩ : ∃ X, X = W.putObj (w.heap.size + 1) (.loop { R .ready none with state := .busy }) := ⟨_, rfl⟩
      have xl : X.heap[w.heap.size + 1]? = some (.loop { R .ready none with state := .busy }) := by rw [hX]; exact World.putObj_heap_same hlt
      have xk : X.heap[w.heap.size]? = some (.deferred (some [])) := by rw [hX]; exact (World.putObj_heap_other (by omega)).trans hk
      have xp : Kp W X := by rw [hX]; exact hKb _ _ _ _ (by omega) hl
      have xi : I pre X := by rw [hX]; exact hI.obj _ hi (by omega) hl
      rw [← hX]
      refine wpIn_mono (hbody _ pre x rest W0 X (by omega) (by rw [hX, ← hWe]; simp [World.putObj]) (fun k hk' => by rw [hX, ← hWe]; exact World.putObj_heap_other hk') xi hxs) ?_
      intro e a3 Y hp
      have last : ∀ (jump : Option Code), KeepsFrom w.heap.size X Y → (Instr.endRound (w.heap.size + 1) jump).run Tryd.prog Y = .ok (.bool jump.isNone) (Y.putObj (w.heap.size + 1) (.loop (R (if jump.isNone then .ready else .done) jump))) ∧ Y.heap[w.heap.size + 1]? = some (.loop { R .ready none with state := .busy }) ∧
          (Y.putObj (w.heap.size + 1) (.loop (R (if jump.isNone then .ready else .done) jump))).heap[w.heap.size + 1]? = some (.loop (R (if jump.isNone then .ready else .done) jump)) ∧ (Y.putObj (w.heap.size + 1) (.loop (R (if jump.isNone then .ready else .done) jump))).heap[w.heap.size]? = some (.deferred (some [])) := by
        intro jump hkf
        have yl := hkf.same _ _ (by omega) xl rfl
        have ye := run_endRound (P := Tryd.prog) jump yl
        rw [hR] at ye ⊢
        exact ⟨ye, by rw [hR] at yl; exact yl, World.putObj_heap_same (Array.getElem?_eq_some_iff.1 yl).1, (World.putObj_heap_other (by omega)).trans (hkf.same _ _ (Nat.le_refl _) xk rfl)⟩
      cases e with
      | normal =>
        obtain ⟨hkf, hkp, hi3⟩ := hp
        obtain ⟨l1, l2, l3, l4⟩ := last none hkf
        exact ⟨_, _, l1, rfl, ⟨hI.obj _ hi3 (by omega) l2, l3, l4⟩, hKt hkp0 (hKt (hKt xp hkp) (hKb _ _ _ _ (by omega) l2))⟩
      | ret => exact hp.elim
      | exit id => exact hp.elim
      | goto t => exact hp.elim
      | panic ch => exact hp.elim
      | outgrown => exact hp.elim
    · rintro e Z ⟨⟨v, rfl⟩, hi, hl, hk⟩
      exact ⟨none, _, (by have := run_endLoop (P := Tryd.prog) hl (by rw [hR]; simp); rw [hR] at this; exact this), hdone _ (hI.obj _ hi (by omega) hl) ((World.putObj_heap_other (by omega)).trans hk)⟩
end Go.Proofs.YteoflpalmckikaaDoor
