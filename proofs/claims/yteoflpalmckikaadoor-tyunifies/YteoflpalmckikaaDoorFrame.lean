/-
  THE FRAME OF EVERY STATEMENT OF LAYER 8: what the listed variables give; a type as an argument, opened.
-/
import Derived.Test.YteoflpalmckikaaDoorAwakeP
import Derived.ProofKit
import Derived.Deep.Slices
import Derived.Test.YteoflpalmckikaaDoorCards
import Derived.Test.YteoflpalmckikaaDoorTie
import Derived.LaidMore
import Derived.OpenShut
import Derived.Stop.Joined
import Derived.Stop.LaidErr
import Derived.SizedLaws
import Derived.Lib.LaidTab
namespace Go.Proofs.YteoflpalmckikaaDoor
open Go.RowKit
set_option linter.unusedVariables false
set_option linter.unusedSimpArgs false
theorem cells3 : Tryd.prog.cellsOf 3 = 1 := by kernel_rfl
theorem cells9 : Tryd.prog.cellsOf 9 = 1 := by kernel_rfl
theorem cells22 : Tryd.prog.cellsOf 22 = 1 := by kernel_rfl
theorem cells24 : Tryd.prog.cellsOf 24 = 3 := by kernel_rfl
theorem cell_block {W : World} {b x : Nat} {v : Value} (h : W.cell? ⟨b, x, none⟩ = some v) : b < W.heap.size := by
  apply Classical.byContradiction
  intro hnb
  have hh : W.heap[b]? = none := Array.getElem?_eq_none (by omega)
  simp [World.cell?, hh] at h
theorem maxA : maxLen ≤ 9223372036854775807 := by decide
theorem maxB : reachBytes ≤ 281474976710656 := by decide
/-- No string is too long, nor a slice. -/
def light {H : Type} (t : TypeId) (d : DataW H) : Prop := (d.weights Tryd.prog t).all (· ≤ reachBytes) = true
theorem light_all {H : Type} {e : TypeId} {l : List (DataW H)} (h : (DataW.weightsAll Tryd.prog e l).all (· ≤ reachBytes) = true) : ∀ d ∈ l, light e d := by
  induction l with
  | nil => intro d hd; cases hd
  | cons a r ih =>
    rw [DataW.weightsAll, List.all_append, Bool.and_eq_true] at h
    intro d hd
    rcases List.mem_cons.1 hd with rfl | hd
    · exact h.1
    · exact ih h.2 d hd
theorem light_slice {H : Type} {t e : TypeId} {l r : List (DataW H)} (ht : Tryd.prog.underlying t = some (.slice e)) (h : light t (.slice l r)) : ∀ d ∈ l, light e d := by
  unfold light at h
  rw [DataW.weights, ht] at h
  simp only [List.all_cons, List.all_append, Bool.and_eq_true] at h
  exact light_all h.2.1
/-- A slice of rows, opened, each as R says. -/
theorem rows_of {H : Type} {enc : TypeId × Value → H} {W : World} {α : Type} (dflt : α) {t e : TypeId} {c fuel : Nat} {cs : List Value} {x : DataW H × List MemPlace} {P : Nat → Prop} (R : α → List Value → Prop) (hP : ∀ b y v, W.cell? ⟨b, y, none⟩ = some v → P b) (ht : Tryd.prog.underlying t = some (.slice e)) (hc : Tryd.prog.cellsOf e = c) (hc1 : 1 ≤ c)
    (h : DataW.trod enc Tryd.prog W 0 (fun _ => true) true fuel t cs = some x) (hw : light t x.1) (hel : ∀ n, n < fuel → ∀ ds y, DataW.trod enc Tryd.prog W 0 (fun _ => true) true n e ds = some y → ds.length = c → light e y.1 → ∃ a, R a ds) :
    ∃ (p : Option Addr) (l : List α) (cap : Nat), cs = [.slice p l.length cap] ∧ SlOK p l.length cap ∧ RM c P W R p l := by
  rcases DataW.trod_slice ht h with ⟨rfl, _⟩ | ⟨a, len, cap, elems, rest, n, hn, rfl, rfl, _, hl, hm, hlen, hel2, _, _⟩
  · exact ⟨none, [], 0, rfl, ⟨Nat.le_refl _, by simp, fun _ => rfl⟩, .inl rfl⟩
  · have each : ∀ i, i < len → ∃ q : α × List Value, W.cells? 0 (a.add (i * c)) c = some q.2 ∧ R q.1 q.2 := by
      intro i hi
      have key := hel2 i hi
      rw [List.getElem?_eq_getElem (by omega)] at key
      obtain ⟨cs', h1, h2⟩ := Option.bind_eq_some_iff.1 key
      rw [hc] at h1
      obtain ⟨a', ha⟩ := hel n (by omega) cs' _ h2 (World.cells?_some h1).2.1 (light_slice ht hw _ (List.mem_map.2 ⟨_, List.getElem_mem _, rfl⟩))
      exact ⟨(a', cs'), h1, ha⟩
    have inh : Inhabited (α × List Value) := ⟨(dflt, [])⟩
    obtain ⟨q, hq⟩ := Go.Deep.choose_lt (α := α × List Value) each
    have hll : ((List.range len).map fun i => (q i).1).length = len := by simp
    refine ⟨some a, (List.range len).map fun i => (q i).1, cap, by rw [hll], by rw [hll]; exact ⟨hl, Nat.le_trans hm maxA, fun h => by cases h⟩, ?_⟩
    by_cases hn0 : len = 0
    · left; rw [hn0]; rfl
    · right
      obtain ⟨b, o, sp⟩ := a
      have hsp : sp = none := by
        cases sp with
        | none => rfl
        | some z =>
          have h00 := (World.cells?_some (hq 0 (by omega)).1).2.2 0 (by omega)
          unfold World.cell? at h00
          have hlen0 := (World.cells?_some (hq 0 (by omega)).1).2.1
          rw [List.getElem?_eq_getElem (by omega)] at h00
          simp [Addr.add] at h00
          split at h00 <;> simp at h00
      subst hsp
      have hcl : ∀ i, i < len → ∀ j, j < c → W.cell? ⟨b, o + i * c + j, none⟩ = (q i).2[j]? := by
        intro i hi j hj
        have := (World.cells?_some (hq i hi).1).2.2 j hj
        rw [Go.WideShapes.add_plain, Go.WideShapes.add_plain] at this
        exact this
      have h00 := hcl 0 (by omega) 0 (by omega)
      rw [List.getElem?_eq_getElem (by have := (World.cells?_some (hq 0 (by omega)).1).2.1; omega)] at h00
      refine ⟨b, o, rfl, hP _ _ _ h00, fun i t' ht' => ?_⟩
      have hi : i < len := by have := (List.getElem?_eq_some_iff.1 ht').1; simpa using this
      have ht2 : t' = (q i).1 := by
        rw [List.getElem?_map, List.getElem?_range hi] at ht'
        simpa using ht'.symm
      subst ht2
      refine ⟨(q i).2, (World.cells?_some (hq i hi).1).2.1, fun j d hd => ?_, (hq i hi).2⟩
      have hj : j < c := by have := (List.getElem?_eq_some_iff.1 hd).1; have := (World.cells?_some (hq i hi).1).2.1; omega
      rw [hcl i hi j hj, hd]
theorem str_of {H : Type} {enc : TypeId × Value → H} {W : World} {n : Nat} {cs : List Value} {x : DataW H × List MemPlace} (h : DataW.trod enc Tryd.prog W 0 (fun _ => true) true n 9 cs = some x) (hw : light 9 x.1) : ∃ s : List UInt8, cs = [.string (S s)] ∧ s.length ≤ 281474976710656 := by
  obtain ⟨z1, e1, rfl, h1⟩ := DataW.trod_string Tryd.underlying9 h
  refine ⟨z1.data.toList, by rw [S_of]; exact e1, ?_⟩
  unfold light at hw
  simp only [DataW.weights, List.all_cons, List.all_nil, Bool.and_true, decide_eq_true_eq] at hw
  exact Nat.le_trans hw maxB
set_option maxRecDepth 20000 in
theorem ty_of {H : Type} {enc : TypeId × Value → H} {W : World} {P : Nat → Prop} (hP : ∀ b y v, W.cell? ⟨b, y, none⟩ = some v → P b) : ∀ (m n : Nat), n < m → ∀ {cs : List Value} {x : DataW H × List MemPlace}, DataW.trod enc Tryd.prog W 0 (fun _ => true) true n 24 cs = some x → light 24 x.1 → ∃ t, TyIn P W t cs := by
  intro m
  induction m with
  | zero => intro n h; omega
  | succ m ih =>
    intro n hn cs x h hw
    obtain ⟨xs, k, hk, rfl, hcl, hxl, hf⟩ := DataW.trod_struct Tryd.underlying24 h
    rw [cells24] at hcl
    match xs, hxl, cs, hcl with
    | [y0, y1, y2], _, [v0, v1, v2], _ =>
      unfold light at hw
      rw [DataW.weights, Tryd.underlying24] at hw
      simp only [List.map_cons, List.map_nil, DataW.weightsEach, List.all_append, Bool.and_eq_true] at hw
      obtain ⟨w0, _, w2, _⟩ := hw
      have g0 := hf 0 _ rfl
      have g1 := hf 1 _ rfl
      have g2 := hf 2 _ rfl
      simp [cells3, cells9, cells22] at g0 g1 g2
      obtain ⟨z0, e0, h0⟩ := str_of g0 w0
      obtain ⟨z1, e1, _, h1⟩ := DataW.trod_int Tryd.underlying3 g1
      obtain ⟨pk, ks, ck, e2, hs2, hr2⟩ := rows_of (P := P) tZ (TyIn P W) hP Tryd.underlying22 cells24 (by omega) g2 w2 (fun n' hn' ds y hd _ hw => ih n' (by omega) hd hw)
      simp only [List.cons.injEq, and_true] at e0 e1 e2
      subst e0 e1 e2
      have hw : -9223372036854775808 ≤ z1 ∧ z1 ≤ 9223372036854775807 := by
        simp only [Lit.wf, Bool.and_eq_true, decide_eq_true_eq] at h1
        have a1 : IntKind.min .i64 = -9223372036854775808 := by decide
        have a2 : IntKind.max .i64 = 9223372036854775807 := by decide
        rw [a1, a2] at h1
        exact h1
      refine ⟨⟨z0, z1, ks⟩, (TyIn_iff _ _ _ _).2 ⟨pk, ck, rfl, h0, hw, hs2, ?_⟩⟩
      rcases hr2 with h | ⟨b, o, hp, hb, hm⟩
      · exact .inl h
      · exact .inr ⟨b, o, hp, hb, fun i t ht => hm i t ht⟩
end Go.Proofs.YteoflpalmckikaaDoor
namespace Go.Proofs.YteoflpalmckikaaDoor
open Go.ChangeShapes Go.WideShapes Go.ChangeAt Go.RowKit
set_option linter.unusedVariables false

theorem own : ownKnob Tryd.prog.godebug = none := by kernel_rfl
theorem laidOut : laidOutB Tryd.prog = true := by kernel_rfl
theorem door_met (os : Os) (args : Array Value) : laidMetH Tryd.prog Rows.tyTurnsRow.laid ((World.doorLaid Tryd.prog 400 os).forCall (fun _ _ => 0) ⟨#[], args, []⟩).memory :=
  laidMetH_of_parts3 (fuel := 8) (laidMet_of_run' 8 (by kernel_rfl) (by kernel_rfl)) (by kernel_rfl) (by kernel_rfl)
theorem gPow : Tryd.prog.globalNamed "internal/strconv.uint64pow10" = some 0 := by kernel_rfl
theorem tPow : (Tryd.prog.globals[0]?).map (·.type) = some 127 := by kernel_rfl
theorem cells109 : Tryd.prog.cellsOf 109 = 1 := by kernel_rfl
theorem cells127 : Tryd.prog.cellsOf 127 = 20 := by kernel_rfl
/-- What the listed variables give the walks. -/
theorem glob_of {W : World} (h : laidMetH Tryd.prog Rows.tyTurnsRow.laid W) : GT W := by
  rw [MakeChecks.laidMetH_plain _ _ _ (by kernel_rfl)] at h
  exact Lib.tabIs_of_head gPow tPow Tryd.underlying127 Tryd.underlying109 cells109 cells127 (laidMet.tail (laidMet.tail h))
set_option maxRecDepth 100000 in
/-- An argument of type api.Type, opened. -/
theorem type_of {H : Type} {enc : TypeId × Value → H} {W : World} {base : Nat} {v : Value} {d0 : DataW H} {p : List MemPlace} (hv : Value.okWide Tryd.prog W .any base 24 v) (h0 : DataW.Trod enc Tryd.prog W 0 (fun _ => true) true 24 v d0 p) (hw : light 24 d0) :
    ∃ (t : Ty) (pk : Option Addr) (ck : Nat), v = .agg (cs3 t pk ck) ∧ TyIn (fun b => b < W.heap.size) W t [.string (S t.nm), .int .i64 t.n, .slice pk t.ar.length ck] := by
  obtain ⟨cs, rfl, hsz⟩ := okWide_struct Tryd.underlying24 hv
  obtain ⟨fuel, hf⟩ := h0
  obtain ⟨t, ht⟩ := ty_of (P := fun b => b < W.heap.size) (fun b y v h => cell_block h) (fuel + 1) fuel (Nat.lt_succ_self _) hf hw
  obtain ⟨pk, ck, hcs, _⟩ := (TyIn_iff _ _ _ _).1 ht
  have hcs' : cs.toList = [.string (S t.nm), .int .i64 t.n, .slice pk t.ar.length ck] := hcs
  refine ⟨t, pk, ck, ?_, by rw [← hcs]; exact ht⟩
  unfold cs3
  rw [← hcs']
end Go.Proofs.YteoflpalmckikaaDoor
