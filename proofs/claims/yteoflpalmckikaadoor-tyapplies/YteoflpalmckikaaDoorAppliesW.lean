/-
  THE WALK OF TyApplies.
-/
import Derived.Test.YteoflpalmckikaaDoorAwakeP
import Derived.Test.YteoflpalmckikaaDoorApplyR
namespace Go.Proofs.YteoflpalmckikaaDoor
open Go.RowKit
set_option linter.unusedVariables false
set_option linter.unusedSimpArgs false
theorem nmHold.c3 {b : Nat} {x y z : Value} {t : TypeId} {W : World} (h : Hold b #[x, y, z] t W) : W.cell? ⟨b, 0, none⟩ = some x ∧ W.cell? ⟨b, 1, none⟩ = some y ∧ W.cell? ⟨b, 2, none⟩ = some z := ⟨h.cell 0, h.cell 1, h.cell 2⟩
set_option maxHeartbeats 16000000 in
set_option maxRecDepth 100000 in
theorem applies_walk (l : List (Int × Ty)) (t : Ty) {w : World} {pl pt : Option Addr} {cl ct : Nat} (hG : GT w) (hL : RM 4 (fun x => x < w.heap.size) w (FaIn (fun x => x < w.heap.size) w) pl l) (hll : l.length ≤ 9223372036854775807) (hT : TyIn (fun x => x < w.heap.size) w t [.string (S t.nm), .int .i64 t.n, .slice pt t.ar.length ct]) :
    Calls Tryd.prog 4 #[.slice pl l.length cl, .agg (cs3 t pt ct)] w fun r w' => r = .returned (.bool true) ∧ Below w.heap.size w w' := by
  have HTT : Hid (∀ W, Below w.heap.size w W → TyIn (fun x => x < w.heap.size) W t [.string (S t.nm), .int .i64 t.n, .slice pt t.ar.length ct]) := hide fun W hb => TyIn.keep (KP.of_below hb fun x hx => hx) (fun x hx => hx) _ _ hT
  have hX : Hold w.heap.size #[.string (S t.nm), .int .i64 t.n, .slice pt t.ar.length ct] 24 (w.alloc (.cells #[.string (S t.nm), .int .i64 t.n, .slice pt t.ar.length ct] 24)) := Hold.new w _ 24
  have hb0 : Below w.heap.size w (w.alloc (.cells #[.string (S t.nm), .int .i64 t.n, .slice pt t.ar.length ct] 24)) := (Below.refl _ w).alloc (Nat.le_refl _) _
  have HG0 := hide (hG.below hb0)
  have HX0 := hide hX; have HB0 := hide hb0; have HLM := hide hL
  clear hX hb0 hG hT hL
  unfold cs3
  generalize hnk : l.length = nk at *
  have HNK := hide hnk
  clear hnk
  go_enter Tryd.func4, Tryd.ntmps4
  go_upto_region 1 with fail
  generalize (w.alloc (.cells #[.string (S t.nm), .int .i64 t.n, .slice pt t.ar.length ct] 24)) = w0 at *
  have x0 := HX0.out.cell 0; have x1 := HX0.out.cell 1; have x2 := HX0.out.cell 2
  simp only [List.getElem?_toArray, List.getElem?_cons_succ, List.getElem?_cons_zero] at x0 x1 x2
  go_wp2_with fail
  refine (awake_any HG0.out).mono ?_
  rintro r w1 ⟨rfl, hb⟩
  have hbs := hb
  have HX1 := hide (HX0.out.below hbs HX0.out.lt)
  have HB1 := hide (HB0.out.trans (hbs.mono HB0.out.size))
  have hs1 := HB1.out.size
  clear hbs
  clear x0 x1 x2
  have x0 := HX1.out.cell 0; have x1 := HX1.out.cell 1; have x2 := HX1.out.cell 2
  simp only [List.getElem?_toArray, List.getElem?_cons_succ, List.getElem?_cons_zero] at x0 x1 x2
  clear hb
  by_cases h20 : (20 : Int) < nk
  · go_wp2_with fail
    go_ret
    exact ⟨rfl, HB1.out⟩
  · have hfw := few_any t (P := fun x => x < w.heap.size) (w := w1) (pk := pt) (ck := ct) (fun x hx => Nat.lt_of_lt_of_le hx HB1.out.size) (HTT.out w1 HB1.out)
    have HFW := hide hfw
    clear hfw
    cases hfewt : fewM t with
    | false =>
      rw [hfewt] at HFW
      unfold cs3 at HFW
      go_wp2_with fail
      refine HFW.out.mono ?_
      rintro r w2 ⟨rfl, hb⟩
      go_wp2_with fail
      go_ret
      exact ⟨rfl, HB1.out.trans (hb.mono HB1.out.size)⟩
    | true =>
      rw [hfewt] at HFW
      unfold cs3 at HFW
      go_wp2_with fail
      refine HFW.out.mono ?_
      rintro r w2 ⟨rfl, hb⟩
      have hbs := hb
      have HX2 := hide (HX1.out.below hbs HX1.out.lt)
      have HB2 := hide (HB1.out.trans (hbs.mono HB1.out.size))
      have hs2 := HB2.out.size
      clear hbs
      clear x0 x1 x2
      have x0 := HX2.out.cell 0; have x1 := HX2.out.cell 1; have x2 := HX2.out.cell 2
      simp only [List.getElem?_toArray, List.getElem?_cons_succ, List.getElem?_cons_zero] at x0 x1 x2
      clear hb HFW
      go_wp2_with fail
      go_loopg [6] nk (fun k s6 wr => ∃ i : Nat, i ≤ nk ∧ k = nk - i ∧ s6 = .int .i64 i ∧ Below w2.heap.size w2 wr)
      case atStart => exact ⟨0, Nat.zero_le _, by omega, rfl, Below.refl _ w2⟩
      case round =>
        obtain ⟨i, hi1, rfl, rfl, hbr⟩ := hrel
        have HBR := hide hbr
        have HB3 : Hid (Below w.heap.size w wr) := hide (HB2.out.trans (hbr.mono HB2.out.size))
        have HX3 := hide (HX2.out.below hbr HX2.out.lt)
        clear hbr
        by_cases hlt : i < nk
        · have hil : i < l.length := by rw [HNK.out]; exact hlt
          obtain ⟨b1, o1, q1, d1, rfl, hp1, _, hin1, a0, a1, a2, a3⟩ := fm_at HLM.out hil
          have hcl : ∀ x, wr.cell? ⟨b1, x, none⟩ = w.cell? ⟨b1, x, none⟩ := fun x => HB3.out.cell (p := ⟨b1, x, none⟩) hp1
          generalize l[i] = f at *
          have hii : (i : Int) < nk := by omega
          have hfw := few_any f.2 (P := fun x => x < w.heap.size) (w := wr) (pk := q1) (ck := d1) (fun x hx => Nat.lt_of_lt_of_le hx HB3.out.size) (TyIn.keep (KP.of_below HB3.out fun x hx => hx) (fun x hx => hx) _ _ hin1)
          have c1 : wr.cell? ⟨b1, o1 + i * 4 + 1, none⟩ = some (.string (S f.2.nm)) := (hcl _).trans a1
          have c2 : wr.cell? ⟨b1, o1 + i * 4 + 1 + 1, none⟩ = some (.int .i64 f.2.n) := (hcl _).trans a2
          have c3 : wr.cell? ⟨b1, o1 + i * 4 + 1 + 2, none⟩ = some (.slice q1 f.2.ar.length d1) := (hcl _).trans a3
          have HFW := hide hfw
          clear hfw a0 a1 a2 a3 hcl hin1
          cases hff : fewM f.2 with
          | false =>
            rw [hff] at HFW
            unfold cs3 at HFW
            go_wp2_with fail
            refine HFW.out.mono ?_
            rintro r w5 ⟨rfl, hb⟩
            go_wp2_with fail
            go_ret
            exact ⟨rfl, HB3.out.trans (hb.mono HB3.out.size)⟩
          | true =>
            rw [hff] at HFW
            unfold cs3 at HFW
            go_wp2_with fail
            refine HFW.out.mono ?_
            rintro r w5 ⟨rfl, hb⟩
            have HB5 : Hid (Below w2.heap.size w2 w5) := hide (HBR.out.trans (hb.mono HBR.out.size))
            clear c1 c2 c3 hb HFW
            go_wp2_with fail
            go_roundg (nk - (i + 1))
            case measure => omega
            case rel => exact ⟨i + 1, by omega, rfl, by go_num, HB5.out⟩
        · have hii : ¬ (i : Int) < nk := by omega
          clear x0 x1 x2
          go_upto_region 9 with fail
          refine wp_region_noPanic ?_
          refine region_J 11 (N := 11) (S := (fun W' : World => Hold w.heap.size #[.string (S t.nm), .int .i64 t.n, .slice pt t.ar.length ct] 24 W')) (by kernel_rfl) (by kernel_rfl) ?_
          have hdr := below_drew wr
          have hS : (fun W' : World => Hold w.heap.size #[.string (S t.nm), .int .i64 t.n, .slice pt t.ar.length ct] 24 W') wr.drew := HX3.out.below hdr HX3.out.lt
          have HB5 : Hid (Below w.heap.size w wr.drew) := hide (HB3.out.trans (hdr.mono HB3.out.size))
          generalize wr.drew = w5 at *
          clear hdr
          refine take_D (i := 0) 31 (.bool true) rfl rfl (by kernel_rfl) (by kernel_rfl) (by kernel_rfl) (by kernel_rfl) (fun _ _ _ h => h) (Or.inl ⟨by rfl, fun W' hW => by go_simp⟩) hS ?_
          simp only [Act.put, List.setIfInBounds_toArray, List.set_cons_zero, List.set_cons_succ]
          refine take_D (i := 1) 32 (.bool true) rfl rfl (by kernel_rfl) (by kernel_rfl) (by kernel_rfl) (by kernel_rfl) (fun _ _ _ h => h) (Or.inl ⟨by rfl, fun W' hW => by go_simp⟩) hS ?_
          simp only [Act.put, List.setIfInBounds_toArray, List.set_cons_zero, List.set_cons_succ]
          refine take_D (i := 2) 33 (.slice pl nk cl) rfl rfl (by kernel_rfl) (by kernel_rfl) (by kernel_rfl) (by kernel_rfl) (fun _ _ _ h => h) (Or.inl ⟨by rfl, fun W' hW => by go_simp⟩) hS ?_
          simp only [Act.put, List.setIfInBounds_toArray, List.set_cons_zero, List.set_cons_succ]
          refine take_D (i := 3) 34 (.agg #[.string (S t.nm), .int .i64 t.n, .slice pt t.ar.length ct]) rfl rfl (by kernel_rfl) (by kernel_rfl) (by kernel_rfl) (by kernel_rfl) (fun _ _ _ h => h) (Or.inl ⟨by rfl, fun W' hW => by obtain ⟨x0, x1, x2⟩ := nmHold.c3 hW; go_simp⟩) hS ?_
          simp only [Act.put, List.setIfInBounds_toArray, List.set_cons_zero, List.set_cons_succ]
          refine take_D (i := 5) 36 (.slice pl nk cl) rfl rfl (by kernel_rfl) (by kernel_rfl) (by kernel_rfl) (by kernel_rfl) (fun _ _ _ h => h) (Or.inl ⟨by rfl, fun W' hW => by go_simp⟩) hS ?_
          simp only [Act.put, List.setIfInBounds_toArray, List.set_cons_zero, List.set_cons_succ]
          refine take_D (i := 6) 37 (.agg #[.string (S t.nm), .int .i64 t.n, .slice pt t.ar.length ct]) rfl rfl (by kernel_rfl) (by kernel_rfl) (by kernel_rfl) (by kernel_rfl) (fun _ _ _ h => h) (Or.inl ⟨by rfl, fun W' hW => by obtain ⟨x0, x1, x2⟩ := nmHold.c3 hW; go_simp⟩) hS ?_
          simp only [Act.put, List.setIfInBounds_toArray, List.set_cons_zero, List.set_cons_succ]
          have hap : Calls Tryd.prog 22 #[.slice pl nk cl, .agg (cs3 t pt ct)] w5 (TQ (applyM l t) w5) := by
            have h := apply_any l t (P := fun x => x < w5.heap.size) (w := w5) (pk := pt) (ck := ct) (pl := pl) (cl := cl) (fun x hx => hx) (TyIn.keep (KP.refl _ _) (fun x hx => Nat.lt_of_lt_of_le hx HB5.out.size) _ _ (HTT.out w5 HB5.out)) (RM.keep (KP.of_below HB5.out fun x hx => hx) (fun x hx => Nat.lt_of_lt_of_le hx HB5.out.size) (fun t ds h => FaIn.keep (KP.of_below HB5.out fun x hx => hx) (fun x hx => Nat.lt_of_lt_of_le hx HB5.out.size) t ds h) HLM.out) (by rw [HNK.out]; omega)
            rw [HNK.out] at h
            exact h
          generalize hxa : applyM l t = xa at hap
          have HC := hide hap; have HXA := hide hxa
          clear hap hxa
          unfold cs3 at HC
          refine ready_J (rs := [4]) (by kernel_rfl) (by simp) ?_
          intro jj hjj
          obtain rfl := List.mem_singleton.1 hjj
          clear hjj
          refine op_W rfl (by rfl) fun K hK => ?_
          go_simp
          refine HC.out.mono ?_
          rintro r w6 ⟨p1, c1, rfl, hb, hin⟩
          have HIA : Hid (TyIn (fun x => x < w6.heap.size) w6 xa [.string (S xa.nm), .int .i64 xa.n, .slice p1 xa.ar.length c1]) := hide (TyIn.keep (KP.refl _ _) (fun x hx => hx.2) _ _ hin)
          clear hin HC
          unfold cs3
          have HB6 : Hid (Below w.heap.size w w6) := hide (HB5.out.trans (hb.mono HB5.out.size))
          have hS2 : (fun W' : World => Hold w.heap.size #[.string (S t.nm), .int .i64 t.n, .slice pt t.ar.length ct] 24 W') w6 := hS.below hb hS.lt
          clear hS
          have hS := hS2
          clear hS2
          refine hK _ _ ⟨fun _ => hS, ?_⟩
          clear hK K
          clear hb
          have hap : Calls Tryd.prog 23 #[.slice pl nk cl, .agg (cs3 t pt ct)] w6 (TQP (fun x => x < w6.heap.size) (applyM l t) w6) := by
            have h := rapply_any l t (P := fun x => x < w6.heap.size) (w := w6) (pk := pt) (ck := ct) (pl := pl) (cl := cl) (fun x hx => hx) (TyIn.keep (KP.refl _ _) (fun x hx => Nat.lt_of_lt_of_le hx HB6.out.size) _ _ (HTT.out w6 HB6.out)) (RM.keep (KP.of_below HB6.out fun x hx => hx) (fun x hx => Nat.lt_of_lt_of_le hx HB6.out.size) (fun t ds h => FaIn.keep (KP.of_below HB6.out fun x hx => hx) (fun x hx => Nat.lt_of_lt_of_le hx HB6.out.size) t ds h) HLM.out) (by rw [HNK.out]; omega)
            rw [HNK.out] at h
            exact h
          rw [HXA.out] at hap
          have HC := hide hap
          clear hap
          unfold cs3 at HC
          refine ready_J (rs := [7]) (by kernel_rfl) (by simp) ?_
          intro jj hjj
          obtain rfl := List.mem_singleton.1 hjj
          clear hjj
          refine op_W rfl (by rfl) fun K hK => ?_
          go_simp
          refine HC.out.mono ?_
          rintro r w7 ⟨p2, c2, rfl, hb, hin⟩
          have HIB : Hid (TyIn (fun x => x < w7.heap.size) w7 xa [.string (S xa.nm), .int .i64 xa.n, .slice p2 xa.ar.length c2]) := hide (TyIn.keep (KP.refl _ _) (fun x hx => hx.elim (fun h => Nat.lt_of_lt_of_le h hb.size) (fun h => h.2)) _ _ hin)
          have HIA7 : Hid (TyIn (fun x => x < w7.heap.size) w7 xa [.string (S xa.nm), .int .i64 xa.n, .slice p1 xa.ar.length c1]) := hide (TyIn.keep (KP.of_below hb fun x hx => hx) (fun x hx => Nat.lt_of_lt_of_le hx hb.size) _ _ HIA.out)
          clear hin HC HIA
          unfold cs3
          have HB7 : Hid (Below w.heap.size w w7) := hide (HB6.out.trans (hb.mono HB6.out.size))
          have hS2 : (fun W' : World => Hold w.heap.size #[.string (S t.nm), .int .i64 t.n, .slice pt t.ar.length ct] 24 W') w7 := hS.below hb hS.lt
          clear hS
          have hS := hS2
          clear hS2
          refine hK _ _ ⟨fun _ => hS, ?_⟩
          clear hK K
          clear hb
          have hsm := same_ty xa xa (P := fun x => x < w7.heap.size) (w := w7) (pk := p1) (qk := p2) (ck := c1) (dk := c2) (fun x hx => hx) HIA7.out HIB.out
          have HSAME := hide hsm
          clear hsm
          unfold cs3 at HSAME
          refine ready_J (rs := [8]) (by kernel_rfl) (by simp) ?_
          intro jj hjj
          obtain rfl := List.mem_singleton.1 hjj
          clear hjj
          refine op_W rfl (by rfl) fun K hK => ?_
          go_simp
          refine HSAME.out.mono ?_
          rintro r w8 ⟨hyes, _, hb⟩
          obtain rfl := hyes (by trivial)
          clear hyes HSAME
          have HB8 : Hid (Below w.heap.size w w8) := hide (HB7.out.trans (hb.mono HB7.out.size))
          have hS2 : (fun W' : World => Hold w.heap.size #[.string (S t.nm), .int .i64 t.n, .slice pt t.ar.length ct] 24 W') w8 := hS.below hb hS.lt
          clear hS
          have hS := hS2
          clear hS2
          refine hK _ _ ⟨fun _ => hS, ?_⟩
          clear hK K
          clear hb
          refine take_D (i := 9) 40 (.bool true) rfl rfl (by kernel_rfl) (by kernel_rfl) (by kernel_rfl) (by kernel_rfl) (fun _ _ _ h => h) (Or.inl ⟨by rfl, fun W' hW => by go_simp⟩) hS ?_
          simp only [Act.put, List.setIfInBounds_toArray, List.set_cons_zero, List.set_cons_succ]
          refine take_D (i := 10) 4 (.bool true) rfl rfl (by kernel_rfl) (by kernel_rfl) (by kernel_rfl) (by kernel_rfl) (fun _ _ _ h => h) (Or.inl ⟨by rfl, fun W' hW => by go_simp⟩) hS ?_
          simp only [Act.put, List.setIfInBounds_toArray, List.set_cons_zero, List.set_cons_succ]
          refine done_J (by kernel_rfl) ?_ _
          refine NoPanic.normal ?_
          clear hS
          go_wp2_with fail
          go_ret
          exact ⟨rfl, HB8.out⟩
end Go.Proofs.YteoflpalmckikaaDoor
