/-
  THE FRAME OF EVERY STATEMENT OF LAYER 3: what the listed variables give; arguments of bytes and of tokens, opened.
-/
import Derived.Test.YtnifnbndkbmdcaaDoorAwake
import Derived.Test.YtnifnbndkbmdcaaDoorCards
import Derived.Test.YtnifnbndkbmdcaaDoorTie
import Derived.ProofKit
import Derived.LaidMore
import Derived.OpenShut
import Derived.Stop.Joined
import Derived.Stop.LaidErr
import Derived.SizedLaws
import Derived.Lib.SlBytesRowKit
import Derived.Deep.Slices
namespace Go.Proofs.YtnifnbndkbmdcaaDoor
open Go.ChangeShapes Go.WideShapes Go.ChangeAt Go.RowKit
set_option linter.unusedVariables false

theorem own : ownKnob Tryd.prog.godebug = none := by kernel_rfl
theorem laidOut : laidOutB Tryd.prog = true := by kernel_rfl
theorem cells5 : Tryd.prog.cellsOf 5 = 1 := by kernel_rfl
theorem door_met (os : Os) (args : Array Value) : laidMetH Tryd.prog Rows.layoutTellsRow.laid ((World.doorLaid Tryd.prog 400 os).forCall (fun _ _ => 0) ⟨#[], args, []⟩).memory :=
  laidMetH_of_parts3 (fuel := 8) (laidMet_of_run' 8 (by kernel_rfl) (by kernel_rfl)) (by kernel_rfl) (by kernel_rfl)
theorem gRange : Tryd.prog.globalNamed "strconv.ErrRange" = some 2 := by kernel_rfl
theorem tRange : (Tryd.prog.globals[2]?).map (·.type) = some 70 := by kernel_rfl
theorem cells94 : Tryd.prog.cellsOf 117 = 1 := by kernel_rfl
theorem cells9 : Tryd.prog.cellsOf 9 = 1 := by kernel_rfl
theorem star : "*" ++ "errors.errorString" = "*errors.errorString" := by decide
theorem row92 (u : TypeId) (h : Tryd.prog.typeName? 3 u = some "*errors.errorString") : u = 115 :=
  typeName_ptr_named (nm := "errors.errorString") (by rw [star]; kernel_rfl) (by kernel_rfl) (by decide) u (by rw [star]; exact h)
/-- What the listed variables give the walks. -/
theorem glob_of {W : World} (h : laidMetH Tryd.prog Rows.layoutTellsRow.laid W) : Glob W := by
  rw [MakeChecks.laidMetH_plain _ _ _ (by kernel_rfl)] at h
  obtain ⟨a, s, hv, _, _, _⟩ := laid_sentinel (laidMet.tail (laidMet.tail (laidMet.tail h))) gRange tRange Tryd.underlying70 row92 Tryd.underlying115 Tryd.underlying117 rfl rfl Tryd.underlying9 cells94 cells9
  have h0 := World.var?_cell gRange hv 0
  have h1 : W.cell? ⟨2, 0, none⟩ = some (.iface 115 (.pointer (some a))) := by simpa using h0
  refine ⟨?_, 115, _, h1⟩
  apply Classical.byContradiction
  intro hn
  have : W.heap[2]? = none := Array.getElem?_eq_none (by omega)
  simp [World.cell?, this] at h1
/-- An argument of type []byte, opened. -/
theorem bytes_of {H : Type} {enc : TypeId × Value → H} {W : World} {a0 : Option Addr} {len cap : Nat} {d0 : DataW H} {p : List MemPlace} (h0 : DataW.Trod enc Tryd.prog W 0 (fun _ => true) true 34 (.slice a0 len cap) d0 p) :
    ∃ l : List UInt8, l.length = len ∧ len ≤ cap ∧ Mem W a0 l ∧ (a0 = none → cap = 0) := by
  obtain ⟨xs, hx, hcap, hB, _, hr, hp⟩ := opened_bytes Tryd.underlying34 Tryd.underlying5 cells5 h0
  refine ⟨Lib.bytesOf xs, by unfold Lib.bytesOf; rw [List.length_map, hx], hcap, ?_, hp⟩
  by_cases hn : 0 < len
  · obtain ⟨b, o, rfl, hc⟩ := hB hn
    refine .inr ⟨b, o, rfl, ?_, fun i x hix => ?_⟩
    · have := hc 0 hn
      apply Classical.byContradiction
      intro hnb
      have hh : W.heap[b]? = none := Array.getElem?_eq_none (by omega)
      simp [World.cell?, hh] at this
    · unfold Lib.bytesOf at hix
      rw [List.getElem?_map] at hix
      obtain ⟨z, hz, rfl⟩ := Option.map_eq_some_iff.1 hix
      have hi : i < len := by rw [← hx]; exact (List.getElem?_eq_some_iff.1 hz).1
      rw [hc i hi]
      obtain ⟨h1, h2⟩ := hr z (List.mem_of_getElem? hz)
      have e : xs.getD i 0 = z := by simp [List.getD, hz]
      rw [e]
      have e2 : ((UInt8.ofNat z.toNat).toNat : Int) = z := by
        rw [UInt8.toNat_ofNat']; omega
      rw [e2]
  · left
    exact List.length_eq_zero_iff.1 (by unfold Lib.bytesOf; rw [List.length_map]; omega)
theorem cells32 : Tryd.prog.cellsOf 32 = 5 := by kernel_rfl
theorem cells3 : Tryd.prog.cellsOf 3 = 1 := by kernel_rfl
set_option maxRecDepth 20000 in
theorem tok_of {H : Type} {enc : TypeId × Value → H} {W : World} {n : Nat} {cs : List Value} {x : DataW H × List MemPlace} (h : DataW.trod enc Tryd.prog W 0 (fun _ => true) true n 32 cs = some x) :
    ∃ t : Tok, cs = [.int .i64 t.kd, .string (S t.tx), .int .i64 t.nu, .int .i64 t.ln, .int .i64 t.co] := by
  obtain ⟨xs, k, _, _, hcl, hxl, hf⟩ := DataW.trod_struct Tryd.underlying32 h
  rw [cells32] at hcl
  match xs, hxl, cs, hcl with
  | [y0, y1, y2, y3, y4], _, [v0, v1, v2, v3, v4], _ =>
    have g0 := hf 0 _ rfl
    have g1 := hf 1 _ rfl
    have g2 := hf 2 _ rfl
    have g3 := hf 3 _ rfl
    have g4 := hf 4 _ rfl
    simp [cells3, cells9] at g0 g1 g2 g3 g4
    obtain ⟨z0, e0, _, _⟩ := DataW.trod_int Tryd.underlying3 g0
    obtain ⟨z1, e1, _, _⟩ := DataW.trod_string Tryd.underlying9 g1
    obtain ⟨z2, e2, _, _⟩ := DataW.trod_int Tryd.underlying3 g2
    obtain ⟨z3, e3, _, _⟩ := DataW.trod_int Tryd.underlying3 g3
    obtain ⟨z4, e4, _, _⟩ := DataW.trod_int Tryd.underlying3 g4
    simp only [List.cons.injEq, and_true] at e0 e1 e2 e3 e4
    subst e0 e1 e2 e3 e4
    exact ⟨⟨z0, z1.data.toList, z2, z3, z4⟩, by rw [S_of]⟩
/-- An argument of type []api.Token, opened. -/
theorem toks_of {H : Type} {enc : TypeId × Value → H} {W : World} {a0 : Option Addr} {len cp : Nat} {d0 : DataW H} {p : List MemPlace} (h0 : DataW.Trod enc Tryd.prog W 0 (fun _ => true) true 22 (.slice a0 len cp) d0 p) :
    ∃ ts : List Tok, ts.length = len ∧ len ≤ cp ∧ TMem W a0 ts := by
  obtain ⟨fuel, hf⟩ := h0
  rcases Go.Deep.open_slice Tryd.underlying22 hf with ⟨hcs, hx⟩ | ⟨a, len', cap', m, n, D, Pl, hcs, _, hl, hm, hmm, hx, hel⟩
  · simp [Value.cells] at hcs
    obtain ⟨rfl, rfl, rfl⟩ := hcs
    exact ⟨[], rfl, Nat.zero_le _, .inl rfl⟩
  · simp [Value.cells] at hcs
    obtain ⟨rfl, rfl, rfl⟩ := hcs
    simp only [if_true] at hmm
    have each : ∀ i, i < m → ∃ t : Tok, W.cells? 0 (a.add (i * 5)) 5 = some [.int .i64 t.kd, .string (S t.tx), .int .i64 t.nu, .int .i64 t.ln, .int .i64 t.co] := by
      intro i hi
      obtain ⟨cs', h1, h2⟩ := hel i hi
      rw [cells32] at h1
      obtain ⟨t, rfl⟩ := tok_of h2
      exact ⟨t, h1⟩
    have inh : Inhabited Tok := ⟨⟨0, [], 0, 0, 0⟩⟩
    obtain ⟨q, hq⟩ := Go.Deep.choose_lt (α := Tok) each
    refine ⟨(List.range len).map q, by simp, hl, ?_⟩
    by_cases hn : len = 0
    · left; rw [hn]; rfl
    · right
      obtain ⟨b, o, sp⟩ := a
      have hsp : sp = none := by
        cases sp with
        | none => rfl
        | some z =>
          have h00 := (World.cells?_some (hq 0 (by omega))).2.2 0 (by omega)
          unfold World.cell? at h00
          simp [Addr.add] at h00
          split at h00 <;> simp at h00
      subst hsp
      have hcl : ∀ i, i < m → ∀ j, j < 5 → W.cell? ⟨b, o + i * 5 + j, none⟩ = ([.int .i64 (q i).kd, .string (S (q i).tx), .int .i64 (q i).nu, .int .i64 (q i).ln, .int .i64 (q i).co] : List Value)[j]? := by
        intro i hi j hj
        have := (World.cells?_some (hq i hi)).2.2 j hj
        rw [add_plain, add_plain] at this
        exact this
      have h00 := hcl 0 (by omega) 0 (by omega)
      have hb : b < W.heap.size := by
        apply Classical.byContradiction
        intro hnb
        have hh : W.heap[b]? = none := Array.getElem?_eq_none (by omega)
        simp [World.cell?, hh] at h00
      refine ⟨b, o, rfl, hb, fun i t ht => ?_⟩
      have hi : i < len := by have := (List.getElem?_eq_some_iff.1 ht).1; simpa using this
      have ht2 : t = q i := by
        rw [List.getElem?_map, List.getElem?_range hi] at ht
        simpa using ht.symm
      subst ht2
      have k := hcl i (by omega)
      refine ⟨k 0 (by omega), k 1 (by omega), k 2 (by omega), k 3 (by omega), k 4 (by omega)⟩
end Go.Proofs.YtnifnbndkbmdcaaDoor
