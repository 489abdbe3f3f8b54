/-
  dawdlerref02's token: the signs.
-/
import Derived.Test.YtnajffpllhckkaaDoorRefToken
namespace Go.Proofs.YtnajffpllhckkaaDoor
open Go.RowKit
set_option linter.unusedVariables false

/-- Does a text begin with another? -/
def pre (l x : List UInt8) : Bool := decide (x.length ≤ l.length) && (l.take x.length == x)
theorem sg_mem (x : List UInt8) : sg x = true ↔ x ∈ sgL := by
  rw [sg_L, List.any_eq_true]
  constructor
  · rintro ⟨y, hy, h⟩; rw [beq_iff_eq] at h; rw [h]; exact hy
  · intro h; exact ⟨x, h, by simp⟩
theorem kw_mem (x : List UInt8) : kw x = true ↔ x ∈ kwL := by
  rw [kw_L, List.any_eq_true]
  constructor
  · rintro ⟨y, hy, h⟩; rw [beq_iff_eq] at h; rw [h]; exact hy
  · intro h; exact ⟨x, h, by simp⟩
def sgA (k : Nat) : List UInt8 := sgL.getD k []
theorem sg_lens0 : ∀ k : Fin 16, (sgA k.val).length = if k.val < 3 then 2 else 1 := by decide
theorem sg_lens (k : Nat) (h : k < 16) : (sgA k).length = if k < 3 then 2 else 1 := sg_lens0 ⟨k, h⟩
theorem sg_at0 : ∀ k : Fin 16, sgL[k.val]? = some (sgA k.val) := by decide
theorem sg_at (k : Nat) (h : k < 16) : sgL[k]? = some (sgA k) := sg_at0 ⟨k, h⟩
theorem sg_in (k : Nat) (h : k < 16) : sgA k ∈ sgL := List.mem_of_getElem? (sg_at k h)
theorem sg_ix {x : List UInt8} (h : x ∈ sgL) : ∃ k, k < 16 ∧ sgA k = x := by
  obtain ⟨j, hj, hje⟩ := List.getElem_of_mem h
  refine ⟨j, hj, ?_⟩
  have := sg_at j hj
  rw [List.getElem?_eq_getElem hj, hje] at this
  exact (Option.some.inj this).symm
theorem tok_two (c d : UInt8) (r : List UInt8) (hd : dg c = false) (hp : pt c = false) (h : sg [c, d] = true) : (c :: d :: r).take (tl (c :: d :: r)) = [c, d] := by
  simp [tl, hd, hp, h]
theorem tok_one (c : UInt8) (r : List UInt8) (hd : dg c = false) (hp : pt c = false) (h : ∀ d r', r = d :: r' → sg [c, d] = false) : (c :: r).take (tl (c :: r)) = [c] := by
  cases r with
  | nil => simp [tl, hd, hp]
  | cons d r' => simp [tl, hd, hp, h d r' rfl]
theorem sign_first (c : UInt8) (r : List UInt8) (hd : dg c = false) (hp : pt c = false) (k : Nat) (hk : k < 16) (hpre : pre (c :: r) (sgA k) = true) (hno : ∀ j, j < 16 → j < k → pre (c :: r) (sgA j) = false) :
    (c :: r).take (tl (c :: r)) = sgA k := by
  have hlen := sg_lens k hk
  have hsg : sg (sgA k) = true := (sg_mem _).2 (sg_in k hk)
  unfold pre at hpre
  simp only [Bool.and_eq_true, decide_eq_true_eq, beq_iff_eq] at hpre
  by_cases h3 : k < 3
  · rw [if_pos h3] at hlen
    rw [hlen] at hpre
    cases r with
    | nil => simp at hpre
    | cons d r' =>
      have e : sgA k = [c, d] := by rw [← hpre.2]; rfl
      rw [e] at hsg ⊢
      exact tok_two c d r' hd hp hsg
  · rw [if_neg h3] at hlen
    rw [hlen] at hpre
    have e : sgA k = [c] := by rw [← hpre.2]; rfl
    rw [e]
    refine tok_one c r hd hp fun d r' hr => ?_
    rw [Bool.eq_false_iff]; intro hs
    obtain ⟨j, hj, hje⟩ := sg_ix ((sg_mem _).1 hs)
    have hlj := sg_lens j hj
    rw [hje] at hlj
    have hj3 : j < 3 := by
      apply Classical.byContradiction; intro h; rw [if_neg h] at hlj; simp at hlj
    have := hno j hj (by omega)
    rw [hje, hr] at this
    simp [pre] at this
theorem sign_tk (c : UInt8) (r x : List UInt8) (hd : dg c = false) (h : (c :: r).take (tl (c :: r)) = x) (hx : x ∈ sgL) : tk ((c :: r).take (tl (c :: r))) = some (4, 0) := by
  have hs := (sg_mem x).2 hx
  obtain ⟨r', h1, _⟩ := tl_self c r
  rw [h] at h1 ⊢
  unfold tk ky
  rw [h1, List.headD_cons, hd, ← h1, hs, Bool.or_true]; rfl
theorem sign_none (c : UInt8) (r : List UInt8) (hd : dg c = false) (hp : pt c = false) (hno : ∀ j, j < 16 → pre (c :: r) (sgA j) = false) : tk ((c :: r).take (tl (c :: r))) = none := by
  obtain ⟨r', h1, _⟩ := tl_self c r
  have hlen := tok_len (c :: r)
  have hle := tl_le (c :: r)
  have hsg : sg ((c :: r).take (tl (c :: r))) = false := by
    rw [Bool.eq_false_iff]; intro hs
    obtain ⟨j, hj, hje⟩ := sg_ix ((sg_mem _).1 hs)
    have := hno j hj
    rw [hje] at this
    unfold pre at this
    rw [hlen] at this
    simp at this
    rw [List.length_cons] at hle
    omega
  have hnp : ∀ y, wd (c :: y) = false := by
    intro y; rw [Bool.eq_false_iff]; intro h; have := (wd_all h).1; rw [hp] at this; cases this
  have hkw : kw (c :: r') = false := by
    rw [Bool.eq_false_iff]; intro h
    have h2 := (kw_mem _).1 h
    have hall : ∀ x ∈ kwL, pt (x.headD 0) = true := by decide
    have := hall _ h2
    rw [List.headD_cons, hp] at this; cases this
  have hnm : nm (c :: r') = false := by unfold nm; rw [hnp]; rfl
  have hcn : cn (c :: r') = false := by unfold cn; rw [hnp]; rfl
  rw [h1] at hsg ⊢
  unfold tk ky
  rw [List.headD_cons, hd, hkw, hsg, hnm, hcn]; rfl
set_option maxRecDepth 20000 in
set_option maxHeartbeats 2000000 in
theorem rtoken_sign (c : UInt8) (r : List UInt8) (w : World) (hl : (c :: r).length ≤ 2147483647) (hd : dg c = false) (hp : pt c = false) :
    Calls Tryd.prog 26 #[.string (S (c :: r))] w fun e w' => ((∃ x, tk ((c :: r).take (tl (c :: r))) = some x ∧ e = .returned (.tuple #[tv ((c :: r).take (tl (c :: r))) x, .bool true])) ∨ (tk ((c :: r).take (tl (c :: r))) = none ∧ ∃ u x, e = .returned (.tuple #[tv u x, .bool false]))) ∧ Below w.heap.size w w' := by
  have hz := S_size (c :: r)
  have HG0 : ∀ h, (S (c :: r))[0]'h = c := fun h => rfl
  have HG0' := hide HG0
  have HCUT := hide (S_cut (c :: r))
  have HF := hide (sign_first c r hd hp)
  have HT := hide (sign_tk c r)
  have HNO := hide (sign_none c r hd hp)
  clear HG0
  generalize (c :: r).take (tl (c :: r)) = tok at *
  generalize hll : (c :: r) = l at *
  have hz0 : 0 < (S l).size := by rw [hz, ← hll]; simp
  generalize S l = s at *
  go_enter Tryd.func26, Tryd.ntmps26
  go_wp2_with fail
  rw [HG0'.out]
  refine (rdigit_any _ _).mono ?_; rintro e w' ⟨rfl, rfl⟩; rw [hd]
  go_wp2_with fail
  rw [HG0'.out]
  refine (rpart_any _ _).mono ?_; rintro e w' ⟨rfl, rfl⟩; rw [hp]
  go_wp2_with fail
  refine (signs_any _).mono ?_; rintro e w2 ⟨rfl, hS, b1⟩
  simp only [World.size_alloc] at b1 hS
  obtain ⟨hc, hf⟩ := bcell b1
  have hz2 : w.heap.size < w2.heap.size := by have := b1.size; simp at this; omega
  have HB : Hid (Below w.heap.size w w2) := ((Below.refl _ w).alloc (Nat.le_refl _) _).trans (b1.mono (by omega))
  clear b1
  have k0 : w2.cell? ⟨w.heap.size, 0, none⟩ = some (.int .i64 0) := by rw [hc _ _ (by omega)]; simp
  have k1 : w2.cell? ⟨w.heap.size, 1, none⟩ = some (.string ⟨#[]⟩) := by rw [hc _ _ (by omega)]; simp
  have k2 : w2.cell? ⟨w.heap.size, 2, none⟩ = some (.int .i64 0) := by rw [hc _ _ (by omega)]; simp
  have k3 : w2.cell? ⟨w.heap.size, 3, none⟩ = some (.int .i64 0) := by rw [hc _ _ (by omega)]; simp
  have k4 : w2.cell? ⟨w.heap.size, 4, none⟩ = some (.int .i64 0) := by rw [hc _ _ (by omega)]; simp
  go_wp2_with fail
  go_loopw [8] (fun i wr => ∃ k : Nat, k ≤ 16 ∧ i = .int .i64 k ∧ (∃ m, wr = w2.drewN m) ∧ ∀ j, j < 16 → j < k → pre l (sgA j) = false) (fun i _ => 16 - (intOf i).toNat)
  case atStart => exact ⟨0, Nat.zero_le _, rfl, ⟨0, rfl⟩, fun j _ h => absurd h (Nat.not_lt_zero _)⟩
  case round =>
    obtain ⟨k, hk, rfl, ⟨m, rfl⟩, hno⟩ := hrel
    have HNO2 := hide hno
    clear hno
    by_cases hlt : k < 16
    · have hx := hS.2 k (sgA k) (sg_at k hlt)
      have hmem : Hid (sgA k ∈ sgL) := sg_in k hlt
      have HF2 := hide (fun h => HF.out k hlt h HNO2.out)
      have HNX : Hid (pre l (sgA k) = false → ∀ j, j < 16 → j < k + 1 → pre l (sgA j) = false) := by
        intro h j hj hjk
        by_cases hjk2 : j = k
        · subst hjk2; exact h
        · exact HNO2.out j hj (by omega)
      generalize sgA k = x at *
      have hxs := S_size x
      have hxl := S_list x
      have hcut := HCUT.out x.length
      by_cases hle : x.length ≤ l.length
      · have hd1 : decide (((S x).size : Int) ≤ (s.size : Int)) = true := by simp; omega
        have hle2 : (S x).size ≤ s.size := by omega
        have hx2 : (S x).size ≤ 2147483647 := by omega
        have hcl := S_list (l.take x.length)
        cases hq : (l.take x.length == x) with
        | true =>
          have HP := hide (HF2.out (by unfold pre; rw [hq, show decide (x.length ≤ l.length) = true by simp; omega]; rfl))
          have heq : ((s.extract 0 x.length).toList == (S x).toList) = true := by rw [hcut, hcl, hxl]; exact hq
          have HTK := hide (HT.out x hd HP.out hmem.out)
          clear HF2 HNX hxl hcl HF HNO HNO2 HT hq HCUT hcut
          have hsx : Hid (S x = S tok) := by show S x = S tok; rw [HP.out]
          generalize S x = sx at *
          go_wp2_with fail
          go_quiet (fail)
          go_wp2_with fail
          refine bodyPost_ret (v := .tuple #[.agg #[.int .i64 4, .string sx, .int .i64 0, .int .i64 0, .int .i64 0], .bool true]) (by
            clear hc hf
            simp only [results, Tryd.results26]; go_simp) rfl ⟨.inl ⟨(4, 0), HTK.out, by unfold tv; rw [hsx.out]⟩, ?_⟩
          have HB2 : Below w.heap.size w (w2.drewN (m + nq)) := HB.out.trans ⟨rfl, rfl, rfl, Nat.le_refl _, fun _ _ => rfl⟩
          exact ((((HB2.setCell (by simp) _).setCell (by simp) _).setCell (by simp) _).setCell (by simp) _).setCell (by simp) _
        | false =>
          have HN3 := hide (HNX.out (by unfold pre; rw [hq, Bool.and_false]))
          have heq : ((s.extract 0 x.length).toList == (S x).toList) = false := by rw [hcut, hcl, hxl]; exact hq
          clear HF2 HNX hxl hcl hcut
          generalize S x = sx at *
          go_wp2_with fail
          go_quiet (fail)
          go_wp2_with fail
          go_roundw
          case rel => exact ⟨k + 1, by omega, by go_num, ⟨_, by first | rfl | exact World.drewN_drewN _ _ _⟩, HN3.out⟩
          case measure => simp [intOf]; omega
      · have hd1 : decide (((S x).size : Int) ≤ (s.size : Int)) = false := by simp; omega
        have HN3 := hide (HNX.out (by unfold pre; rw [show decide (x.length ≤ l.length) = false by simp; omega]; rfl))
        clear HF2 HNX hcut hxl
        generalize S x = sx at *
        go_wp2_with fail
        go_quiet (fail)
        go_wp2_with fail
        go_roundw
        case rel => exact ⟨k + 1, by omega, by go_num, ⟨_, rfl⟩, HN3.out⟩
        case measure => simp [intOf]; omega
    · have HE := hide (HNO.out (fun j h => HNO2.out j h (by omega)))
      go_wp2_with fail
      refine bodyPost_ret (v := .tuple #[.agg #[.int .i64 0, .string ⟨#[]⟩, .int .i64 0, .int .i64 0, .int .i64 0], .bool false]) (by
        clear hc hf
        simp only [results, Tryd.results26]; go_simp) rfl ⟨.inr ⟨HE.out, [], (0, 0), rfl⟩, ?_⟩
      have HB2 : Below w.heap.size w (w2.drewN m) := HB.out.trans ⟨rfl, rfl, rfl, Nat.le_refl _, fun _ _ => rfl⟩
      exact ((((HB2.setCell (by simp) _).setCell (by simp) _).setCell (by simp) _).setCell (by simp) _).setCell (by simp) _
theorem rtoken_any (c : UInt8) (r : List UInt8) (w : World) (hl : (c :: r).length ≤ 2147483647) :
    Calls Tryd.prog 26 #[.string (S (c :: r))] w fun e w' => ((∃ x, tk ((c :: r).take (tl (c :: r))) = some x ∧ e = .returned (.tuple #[tv ((c :: r).take (tl (c :: r))) x, .bool true])) ∨ (tk ((c :: r).take (tl (c :: r))) = none ∧ ∃ u x, e = .returned (.tuple #[tv u x, .bool false]))) ∧ Below w.heap.size w w' := by
  cases hd : dg c with
  | true => exact rtoken_dig c r w hl hd
  | false =>
    cases hp : pt c with
    | true => exact rtoken_word c r w hl hd hp
    | false => exact rtoken_sign c r w hl hd hp
end Go.Proofs.YtnajffpllhckkaaDoor
