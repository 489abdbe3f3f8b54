/-
  THE FRAME OF EVERY STATEMENT OF LAYER 5: what the listed variables give; a tree as an argument, opened.
-/
import Derived.Test.YtebcdjlhmoffjaaDoorOpen
import Derived.Test.YtebcdjlhmoffjaaDoorCards
import Derived.Test.YtebcdjlhmoffjaaDoorTie
import Derived.ProofKit
import Derived.LaidMore
import Derived.OpenShut
import Derived.Stop.Joined
import Derived.Stop.LaidErr
import Derived.SizedLaws
import Derived.Lib.LaidTab
namespace Go.Proofs.YtebcdjlhmoffjaaDoor
open Go.ChangeShapes Go.WideShapes Go.ChangeAt Go.RowKit
set_option linter.unusedVariables false

theorem own : ownKnob Tryd.prog.godebug = none := by kernel_rfl
theorem laidOut : laidOutB Tryd.prog = true := by kernel_rfl
theorem door_met (os : Os) (args : Array Value) : laidMetH Tryd.prog Rows.printLongRow.laid ((World.doorLaid Tryd.prog 400 os).forCall (fun _ _ => 0) ⟨#[], args, []⟩).memory :=
  laidMetH_of_parts3 (fuel := 8) (laidMet_of_run' 8 (by kernel_rfl) (by kernel_rfl)) (by kernel_rfl) (by kernel_rfl)
theorem gPow : Tryd.prog.globalNamed "internal/strconv.uint64pow10" = some 0 := by kernel_rfl
theorem tPow : (Tryd.prog.globals[0]?).map (·.type) = some 130 := by kernel_rfl
theorem cells123 : Tryd.prog.cellsOf 123 = 1 := by kernel_rfl
theorem cells130 : Tryd.prog.cellsOf 130 = 20 := by kernel_rfl
/-- What the listed variables give the walks. -/
theorem glob_of {W : World} (h : laidMetH Tryd.prog Rows.printLongRow.laid W) : GP (fun b => b < W.heap.size) W := by
  rw [MakeChecks.laidMetH_plain _ _ _ (by kernel_rfl)] at h
  have ht : Lib.TabIs Tryd.prog W "internal/strconv.uint64pow10" .u64 Lib.pow10Tab := Lib.tabIs_of_head gPow tPow Tryd.underlying130 Tryd.underlying123 cells123 cells130 (laidMet.tail (laidMet.tail h))
  refine ⟨ht, fun g hg => ?_⟩
  have hc := ht.cell gPow 0 (by decide)
  obtain rfl := Option.some.inj (gPow.symm.trans hg)
  exact cell_block hc
set_option maxRecDepth 100000 in
/-- An argument of type api.Expr, opened. -/
theorem expr_of {H : Type} {enc : TypeId × Value → H} {W : World} {base : Nat} {v : Value} {d0 : DataW H} {p : List MemPlace} (hv : Value.okWide Tryd.prog W .any base 25 v) (h0 : DataW.Trod enc Tryd.prog W 0 (fun _ => true) true 25 v d0 p) (hw : light 25 d0) :
    ∃ (t : Tr) (pn pk : Option Addr) (cn ck : Nat), v = .agg (cs5 t pn cn pk ck) ∧ TrIn (fun b => b < W.heap.size) W t [.int .i64 t.kd, .string (S t.nm), .int .i64 t.nu, .slice pn t.ns.length cn, .slice pk t.ks.length ck] := by
  obtain ⟨cs, rfl, hsz⟩ := okWide_struct Tryd.underlying25 hv
  obtain ⟨fuel, hf⟩ := h0
  obtain ⟨t, ht⟩ := tr_of (P := fun b => b < W.heap.size) (fun b y v h => cell_block h) (fuel + 1) fuel (Nat.lt_succ_self _) hf hw
  obtain ⟨pn, cn, pk, ck, hcs, _⟩ := (TrIn_iff _ _ _ _).1 ht
  have hcs' : cs.toList = [.int .i64 t.kd, .string (S t.nm), .int .i64 t.nu, .slice pn t.ns.length cn, .slice pk t.ks.length ck] := hcs
  refine ⟨t, pn, pk, cn, ck, ?_, by rw [← hcs]; exact ht⟩
  unfold cs5
  rw [← hcs']
end Go.Proofs.YtebcdjlhmoffjaaDoor
