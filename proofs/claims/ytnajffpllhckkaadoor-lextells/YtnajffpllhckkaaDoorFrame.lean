/-
  THE FRAME OF EVERY STATEMENT OF LAYER 2: what the listed variables give; arguments of bytes, opened.
-/
import Derived.Test.YtnajffpllhckkaaDoorAwake
import Derived.Test.YtnajffpllhckkaaDoorCards
import Derived.Test.YtnajffpllhckkaaDoorTie
import Derived.ProofKit
import Derived.LaidMore
import Derived.OpenShut
import Derived.Stop.Joined
import Derived.Stop.LaidErr
import Derived.SizedLaws
import Derived.Lib.SlBytesRowKit
namespace Go.Proofs.YtnajffpllhckkaaDoor
open Go.ChangeShapes Go.WideShapes Go.ChangeAt Go.RowKit
set_option linter.unusedVariables false

theorem own : ownKnob Tryd.prog.godebug = none := by kernel_rfl
theorem laidOut : laidOutB Tryd.prog = true := by kernel_rfl
theorem cells5 : Tryd.prog.cellsOf 5 = 1 := by kernel_rfl
theorem door_met (os : Os) (args : Array Value) : laidMetH Tryd.prog Rows.lexTellsRow.laid ((World.doorLaid Tryd.prog 400 os).forCall (fun _ _ => 0) ⟨#[], args, []⟩).memory :=
  laidMetH_of_parts3 (fuel := 8) (laidMet_of_run' 8 (by kernel_rfl) (by kernel_rfl)) (by kernel_rfl) (by kernel_rfl)
theorem gRange : Tryd.prog.globalNamed "strconv.ErrRange" = some 2 := by kernel_rfl
theorem tRange : (Tryd.prog.globals[2]?).map (·.type) = some 55 := by kernel_rfl
theorem cells94 : Tryd.prog.cellsOf 94 = 1 := by kernel_rfl
theorem cells9 : Tryd.prog.cellsOf 9 = 1 := by kernel_rfl
theorem star : "*" ++ "errors.errorString" = "*errors.errorString" := by decide
theorem row92 (u : TypeId) (h : Tryd.prog.typeName? 3 u = some "*errors.errorString") : u = 92 :=
  typeName_ptr_named (nm := "errors.errorString") (by rw [star]; kernel_rfl) (by kernel_rfl) (by decide) u (by rw [star]; exact h)
/-- What the listed variables give the walks. -/
theorem glob_of {W : World} (h : laidMetH Tryd.prog Rows.lexTellsRow.laid W) : Glob W := by
  rw [MakeChecks.laidMetH_plain _ _ _ (by kernel_rfl)] at h
  obtain ⟨a, s, hv, _, _, _⟩ := laid_sentinel (laidMet.tail (laidMet.tail (laidMet.tail h))) gRange tRange Tryd.underlying55 row92 Tryd.underlying92 Tryd.underlying94 rfl rfl Tryd.underlying9 cells94 cells9
  have h0 := World.var?_cell gRange hv 0
  have h1 : W.cell? ⟨2, 0, none⟩ = some (.iface 92 (.pointer (some a))) := by simpa using h0
  refine ⟨?_, 92, _, h1⟩
  apply Classical.byContradiction
  intro hn
  have : W.heap[2]? = none := Array.getElem?_eq_none (by omega)
  simp [World.cell?, this] at h1
/-- An argument of type []byte, opened. -/
theorem bytes_of {H : Type} {enc : TypeId × Value → H} {W : World} {a0 : Option Addr} {len cap : Nat} {d0 : DataW H} {p : List MemPlace} (h0 : DataW.Trod enc Tryd.prog W 0 (fun _ => true) true 22 (.slice a0 len cap) d0 p) :
    ∃ l : List UInt8, l.length = len ∧ len ≤ cap ∧ Mem W a0 l ∧ (a0 = none → cap = 0) := by
  obtain ⟨xs, hx, hcap, hB, _, hr, hp⟩ := opened_bytes Tryd.underlying22 Tryd.underlying5 cells5 h0
  refine ⟨Lib.bytesOf xs, by unfold Lib.bytesOf; rw [List.length_map, hx], hcap, ?_, hp⟩
  by_cases hn : 0 < len
  · obtain ⟨b, o, rfl, hc⟩ := hB hn
    refine .inr ⟨b, o, rfl, ?_, fun i x hix => ?_⟩
    · have := hc 0 hn
      apply Classical.byContradiction
      intro hnb
      have hh : W.heap[b]? = none := Array.getElem?_eq_none (by omega)
      simp [World.cell?, hh] at this
    · unfold Lib.bytesOf at hix
      rw [List.getElem?_map] at hix
      obtain ⟨z, hz, rfl⟩ := Option.map_eq_some_iff.1 hix
      have hi : i < len := by rw [← hx]; exact (List.getElem?_eq_some_iff.1 hz).1
      rw [hc i hi]
      obtain ⟨h1, h2⟩ := hr z (List.mem_of_getElem? hz)
      have e : xs.getD i 0 = z := by simp [List.getD, hz]
      rw [e]
      have e2 : ((UInt8.ofNat z.toNat).toNat : Int) = z := by
        rw [UInt8.toNat_ofNat']; omega
      rw [e2]
  · left
    exact List.length_eq_zero_iff.1 (by unfold Lib.bytesOf; rw [List.length_map]; omega)
end Go.Proofs.YtnajffpllhckkaaDoor
