/-
  LayoutLines, for all columns and whatever goes on: the law returns true, and its arguments read as they did. The condition: the listed variables of Go's library hold what its text lays (tied by the card).
-/
import Derived.Test.YtnifnbndkbmdcaaDoorFrame
import Derived.Test.YtnifnbndkbmdcaaDoorLinesWalk
namespace Go.Proofs.YtnifnbndkbmdcaaDoor.layoutLines
open Go.ChangeShapes Go.WideShapes Go.ChangeAt Go.RowKit
set_option linter.unusedVariables false

theorem cells4 : Tryd.prog.cellsOf 4 = 1 := by kernel_rfl
/-- An argument of type []bool, opened. -/
theorem bools_of {H : Type} {enc : TypeId × Value → H} {W : World} {a0 : Option Addr} {len cp : Nat} {d0 : DataW H} {p : List MemPlace} (h0 : DataW.Trod enc Tryd.prog W 0 (fun _ => true) true 35 (.slice a0 len cp) d0 p) :
    ∃ bs : List Bool, bs.length = len ∧ BMem W a0 bs := by
  obtain ⟨fuel, hf⟩ := h0
  rcases Go.Deep.open_slice Tryd.underlying35 hf with ⟨hcs, hx⟩ | ⟨a, len', cap', m, n, D, Pl, hcs, _, hl, hm, hmm, hx, hel⟩
  · simp [Value.cells] at hcs
    obtain ⟨rfl, rfl, rfl⟩ := hcs
    exact ⟨[], rfl, .inl rfl⟩
  · simp [Value.cells] at hcs
    obtain ⟨rfl, rfl, rfl⟩ := hcs
    simp only [if_true] at hmm
    have each : ∀ i, i < m → ∃ t : Bool, W.cells? 0 (a.add (i * 1)) 1 = some [.bool t] := by
      intro i hi
      obtain ⟨cs', h1, h2⟩ := hel i hi
      rw [cells4] at h1
      obtain ⟨t, rfl, _⟩ := DataW.trod_bool Tryd.underlying4 h2
      exact ⟨t, h1⟩
    obtain ⟨q, hq⟩ := Go.Deep.choose_lt (α := Bool) each
    refine ⟨(List.range len).map q, by simp, ?_⟩
    by_cases hn : len = 0
    · left; rw [hn]; rfl
    · right
      obtain ⟨b, o, sp⟩ := a
      have hsp : sp = none := by
        cases sp with
        | none => rfl
        | some z =>
          have h00 := (World.cells?_some (hq 0 (by omega))).2.2 0 (by omega)
          unfold World.cell? at h00
          simp [Addr.add] at h00
          split at h00 <;> simp at h00
      subst hsp
      have hcl : ∀ i, i < m → W.cell? ⟨b, o + i, none⟩ = some (.bool (q i)) := by
        intro i hi
        have := (World.cells?_some (hq i hi)).2.2 0 (by omega)
        rw [add_plain, add_plain, Nat.mul_one, Nat.add_zero] at this
        exact this
      have h00 := hcl 0 (by omega)
      have hb : b < W.heap.size := by
        apply Classical.byContradiction
        intro hnb
        have hh : W.heap[b]? = none := Array.getElem?_eq_none (by omega)
        simp [World.cell?, hh] at h00
      refine ⟨b, o, rfl, hb, fun i t ht => ?_⟩
      have hi : i < len := by have := (List.getElem?_eq_some_iff.1 ht).1; simpa using this
      have ht2 : t = q i := by
        rw [List.getElem?_map, List.getElem?_range hi] at ht
        simpa using ht.symm
      subst ht2
      exact hcl i (by omega)
theorem walk (p q : Option Addr) (m c n d : Nat) (cs : List UInt8) (fs : List Bool) (W : World) (hg : Glob W) (hlc : cs.length = m) (hlf : fs.length = n) (hC : Mem W p cs) (hF : BMem W q fs) :
    Calls Tryd.prog 6 #[.slice p m c, .slice q n d] W fun e W' => e = .returned (.bool true) ∧ Below W.heap.size W W' := by
  by_cases h : m = 0 ∨ 100 < m ∨ n < m
  · exact lines_off W hg p q m c n d h
  · exact lines_walk p q m c n d cs fs W hg (by omega) (by omega) (by omega) hlc hlf hC hF

set_option maxHeartbeats 800000 in
set_option maxRecDepth 100000 in
theorem lifted (os : Os) (started : os.Started) (H : Type) (enc : TypeId × Value → H) :
    ReturnsInHanded {} Tryd.checked os 6 .any (fun w args => (Rows.layoutLinesSpec.pre enc Tryd.prog Tryd.f6 Rows.layoutLinesRow.domain false w args ∧ laidMetH Tryd.prog Rows.layoutLinesRow.laid w) ∧ sizedMet enc Tryd.prog Tryd.f6 (OpenSpec.ofChange Rows.layoutLinesSpec) false w args)
      (Rows.layoutLinesSpec.post enc Tryd.prog Tryd.f6 false true false false) := by
  refine returnsInHanded_of_change_and (C := Tryd.checked) (X := fun w _ => laidMetH Tryd.prog Rows.layoutLinesRow.laid w) (fun _ _ _ hh h => h.of_heap hh) own started (by kernel_rfl) Tryd.func6
    (ChangeSpec.witness_shaped (enc := enc) (C := Tryd.checked) (os := os) (X := fun w _ => laidMetH Tryd.prog Rows.layoutLinesRow.laid w) false (World.doorLaid Tryd.prog 400 os) #[.slice none 0 0, .slice none 0 0] 8 rfl (World.shaped_of_RefB (by kernel_rfl) (by kernel_rfl)) (by kernel_rfl) (by kernel_rfl) (by kernel_rfl) (door_met os _)) ?_
  intro W base args ds gs before hval0 hW _ _ hL _
  have hval : ∀ (j : Nat) t v, Tryd.f6.params[j]? = some t → args[j]? = some v → Value.okWide Tryd.prog W .any base t v := hval0
  have hW' := hW
  obtain ⟨p, q, hA0, hV, rfl, _, _⟩ := hW
  have hA : DataW.TrodAll enc Tryd.prog W 0 (fun _ => true) true Tryd.f6.params.toList args.toList ds p := hA0
  rw [Tryd.params6] at hA hval
  obtain ⟨v0, v1, d0, d1, p0, p1, rfl, rfl, rfl, h0, h1⟩ := trodAll_two hA
  obtain ⟨rfl, rfl⟩ := trodVars_none hV
  obtain ⟨a0, len0, cap0, rfl⟩ := okWide_slice Tryd.underlying34 (hval 0 34 v0 rfl rfl)
  obtain ⟨a1, len1, cap1, rfl⟩ := okWide_slice Tryd.underlying35 (hval 1 35 v1 rfl rfl)
  clear hA0 hval0
  simp only [List.append_nil] at hW'
  have hlt : ∀ y ∈ p0 ++ p1, y.block < W.heap.size := fun y hy => by simpa using hW'.lt y hy
  obtain ⟨cs, hl, hmc, hM, hp⟩ := bytes_of h0
  obtain ⟨fs, hl2, hM2⟩ := bools_of h1
  refine (walk a0 a1 len0 cap0 len1 cap1 cs fs W (glob_of hL) hl hl2 hM hM2).mono fun e W' ⟨he, hnx⟩ => ?_
  subst he
  have harg0 : DataW.Trod enc Tryd.prog W' 0 (fun b => decide (b < W.heap.size)) true 34 (.slice a0 len0 cap0) d0 p0 :=
    Below.trod laidOut (by kernel_rfl) (of_decide_eq_true (by kernel_rfl)) h0 hnx (fun y hy => hlt y (List.mem_append.2 (.inl hy)))
  have harg1 : DataW.Trod enc Tryd.prog W' 0 (fun b => decide (b < W.heap.size)) true 35 (.slice a1 len1 cap1) d1 p1 :=
    Below.trod laidOut (by kernel_rfl) (of_decide_eq_true (by kernel_rfl)) h1 hnx (fun y hy => hlt y (List.mem_append.2 (.inr hy)))
  refine ⟨_, rfl, _, _, _, [], _, [], hW', ?_, trodAll_mk2 harg0 harg1, rfl, hnx.frame _, fun h => by cases h⟩
  exact trodAll_mk1 (shut_bool Tryd.underlying4 _)

theorem over : Rows.LayoutLinesSaid :=
  OpenClaim.holds_of_wide 6 Tryd.f6 rfl rfl rfl rfl rfl rfl rfl ⟨rfl, rfl, rfl, rfl, rfl⟩ rfl rfl rfl rfl rfl (by kernel_rfl) Tryd.func6 (by kernel_rfl)
    (of_decide_eq_true (by kernel_rfl)) (by unfold Func.isWrapper; first | (rw [if_pos (by decide +kernel)]; kernel_rfl) | (rw [if_neg (by decide +kernel)]; exact ⟨rfl, rfl⟩))
    (fun os started H enc _ => lifted os started H enc)

theorem proved : Rows.LayoutLinesCardSaid :=
  Claim7.holds_tied_plain_at .later [] [.data, .data, .data, .sentinel, .sentinel] true Rows.layoutLinesCard.stood.harness true
    over (fun _ h => by cases h) (by kernel_rfl) (fun _ h => by cases h) layoutLines_row_tie rfl ⟨rfl, rfl⟩ (by kernel_rfl) rfl
    (fun f fn hf hfn => by
      obtain rfl : f = 6 := Option.some.inj ((show Tryd.prog.funcNamed Rows.layoutLinesRow.func = some 6 by kernel_rfl).symm.trans hf) |>.symm
      obtain rfl : fn = Tryd.f6 := (Option.some.inj (Tryd.func6.symm.trans hfn)).symm
      exact ⟨by kernel_rfl, fun j t ht => by
        rw [Tryd.params6] at ht
        have hm : t ∈ [34, 35] := by simpa using Array.mem_of_getElem? ht
        have hall : ([34, 35].all fun u => !Tryd.prog.wantsStandIn u) = true := by kernel_rfl
        exact (show Tryd.prog.wantsStandIn t = false by simpa using List.all_eq_true.1 hall t hm)⟩)
    (by kernel_rfl)
#print axioms proved
end Go.Proofs.YtnifnbndkbmdcaaDoor.layoutLines
