/-
  FACTS AS AN ARGUMENT, opened.
-/
import Derived.Test.YteoflpalmckikaaDoorFrame
namespace Go.Proofs.YteoflpalmckikaaDoor
open Go.ChangeShapes Go.WideShapes Go.ChangeAt Go.RowKit
set_option linter.unusedVariables false
set_option linter.unusedSimpArgs false
theorem cells34 : Tryd.prog.cellsOf 34 = 4 := by kernel_rfl
set_option maxRecDepth 20000 in
theorem fa_of {H : Type} {enc : TypeId × Value → H} {W : World} {P : Nat → Prop} (hP : ∀ b y v, W.cell? ⟨b, y, none⟩ = some v → P b) {n : Nat} {cs : List Value} {x : DataW H × List MemPlace} (h : DataW.trod enc Tryd.prog W 0 (fun _ => true) true n 34 cs = some x) (hw : light 34 x.1) : ∃ f, FaIn P W f cs := by
  obtain ⟨xs, k, hk, rfl, hcl, hxl, hf⟩ := DataW.trod_struct Tryd.underlying34 h
  rw [cells34] at hcl
  match xs, hxl, cs, hcl with
  | [y0, y1], _, [v0, v1, v2, v3], _ =>
    unfold light at hw
    rw [DataW.weights, Tryd.underlying34] at hw
    simp only [List.map_cons, List.map_nil, DataW.weightsEach, List.all_append, Bool.and_eq_true] at hw
    obtain ⟨_, w1, _⟩ := hw
    have g0 := hf 0 _ rfl
    have g1 := hf 1 _ rfl
    simp [cells3, cells24] at g0 g1
    obtain ⟨z0, e0, _, h0⟩ := DataW.trod_int Tryd.underlying3 g0
    obtain ⟨t, ht⟩ := ty_of (P := P) hP _ _ (Nat.lt_succ_self _) g1 w1
    simp only [List.cons.injEq, and_true] at e0
    subst e0
    have hw : -9223372036854775808 ≤ z0 ∧ z0 ≤ 9223372036854775807 := by
      simp only [Lit.wf, Bool.and_eq_true, decide_eq_true_eq] at h0
      have a1 : IntKind.min .i64 = -9223372036854775808 := by decide
      have a2 : IntKind.max .i64 = 9223372036854775807 := by decide
      rw [a1, a2] at h0
      exact h0
    exact ⟨(z0, t), _, rfl, hw, ht⟩
set_option maxRecDepth 100000 in
/-- An argument of type []api.Fact, opened. -/
theorem facts_of {H : Type} {enc : TypeId × Value → H} {W : World} {base : Nat} {v : Value} {d0 : DataW H} {p : List MemPlace} (hv : Value.okWide Tryd.prog W .any base 32 v) (h0 : DataW.Trod enc Tryd.prog W 0 (fun _ => true) true 32 v d0 p) (hw : light 32 d0) :
    ∃ (l : List (Int × Ty)) (pl : Option Addr) (cl : Nat), v = .slice pl l.length cl ∧ SlOK pl l.length cl ∧ RM 4 (fun b => b < W.heap.size) W (FaIn (fun b => b < W.heap.size) W) pl l := by
  obtain ⟨a0, len0, cap0, rfl⟩ := okWide_slice Tryd.underlying32 hv
  obtain ⟨fuel, hf⟩ := h0
  obtain ⟨pl, l, cl, e, hs, hr⟩ := rows_of (P := fun b => b < W.heap.size) (0, tZ) (FaIn (fun b => b < W.heap.size) W) (fun b y v h => cell_block h) Tryd.underlying32 cells34 (by omega) hf hw (fun n' hn' ds y hd _ hw => fa_of (fun b y v h => cell_block h) hd hw)
  have e2 : [Value.slice a0 len0 cap0] = [.slice pl l.length cl] := e
  exact ⟨l, pl, cl, (List.cons.inj e2).1, hs, hr⟩
end Go.Proofs.YteoflpalmckikaaDoor
