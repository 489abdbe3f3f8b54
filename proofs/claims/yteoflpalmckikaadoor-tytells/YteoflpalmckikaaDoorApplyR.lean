/-
  THE WALK OF dawdlerref08's Apply.
-/
import Derived.Test.YteoflpalmckikaaDoorPutP
import Derived.Test.YteoflpalmckikaaDoorRefD
namespace Go.Proofs.YteoflpalmckikaaDoor
open Go.RowKit
set_option linter.unusedVariables false
set_option linter.unusedSimpArgs false
set_option maxHeartbeats 8000000 in
set_option maxRecDepth 100000 in
theorem rapply_any (l : List (Int × Ty)) (t : Ty) {P : Nat → Prop} {w : World} {pk pl : Option Addr} {ck cl : Nat} (hP : ∀ b, P b → b < w.heap.size) (hE : TyIn P w t [.string (S t.nm), .int .i64 t.n, .slice pk t.ar.length ck]) (hL : RM 4 P w (FaIn P w) pl l) (hll : l.length ≤ 1000000) :
    Calls Tryd.prog 23 #[.slice pl l.length cl, .agg (cs3 t pk ck)] w (TQP P (applyM l t) w) := by
  have hB0 : Below w.heap.size w ((w.alloc (.cells (cs3 t pk ck) 24)).alloc (.cells #[.string ⟨#[]⟩, .int .i64 0, .slice none 0 0] 24)) := ((Below.refl _ w).alloc (Nat.le_refl _) _).alloc (by simp) _
  have hW0 : Hold w.heap.size (cs3 t pk ck) 24 ((w.alloc (.cells (cs3 t pk ck) 24)).alloc (.cells #[.string ⟨#[]⟩, .int .i64 0, .slice none 0 0] 24)) := (Hold.new w _ 24).alloc _
  have hR0 : Hold (w.heap.size + 1) #[.string ⟨#[]⟩, .int .i64 0, .slice none 0 0] 24 ((w.alloc (.cells (cs3 t pk ck) 24)).alloc (.cells #[.string ⟨#[]⟩, .int .i64 0, .slice none 0 0] 24)) := by have := Hold.new (w.alloc (.cells (cs3 t pk ck) 24)) #[.string ⟨#[]⟩, .int .i64 0, .slice none 0 0] 24; simpa using this
  have HCT := hide (fun W (hb : Below w.heap.size w W) => rcheck_any t (P := P) (w := W) (pk := pk) (ck := ck) (fun b h => Nat.lt_of_lt_of_le (hP b h) hb.size) (TyIn.keep (KP.of_below hb hP) (fun b h => h) _ _ hE))
  have HPT := hide (fun (hs : tsz t ≤ 1000000) W (hb : Below w.heap.size w W) => rput_any l hll t (P := P) (w := W) (pk := pk) (ck := ck) (pl := pl) (cl := cl) (fun b h => Nat.lt_of_lt_of_le (hP b h) hb.size) (TyIn.keep (KP.of_below hb hP) (fun b h => h) _ _ hE) (RM.keep (KP.of_below hb hP) (fun b hb => hb) (fun t ds h => FaIn.keep (KP.of_below hb hP) (fun b hb => hb) t ds h) hL) hs)
  have HNO := hide (applyM_no l t); have HYES := hide (applyM_yes l t); have HTS := hide (fun (h : chk t = true) => ((chk_iff t).1 h).2.2)
  have HB0 := hide hB0
  have HW0 := hide hW0
  have HR0 := hide hR0
  have HL := hide hL
  clear hB0 hW0 hR0 hE hL
  unfold cs3 at *
  generalize applyM l t = te at *
  generalize hbt : chk t = bt at *
  generalize hnl : l.length = nl at *
  have HBT := hide hbt; have HNL := hide hnl
  clear hbt hnl
  go_enter Tryd.func23, Tryd.ntmps23
  go_wp2_with fail
  refine (HCT.out _ HB0.out).mono ?_
  rintro r w1 ⟨rfl, hb⟩
  have HB1 := hide (HB0.out.trans (hb.mono HB0.out.size))
  have HW1 := hide (HW0.out.below hb HW0.out.lt)
  have HR1 := hide (HR0.out.below hb HR0.out.lt)
  have hs1 := HR1.out.lt
  clear hb HCT
  go_wp2_with fail
  go_loopg [5, 6, 7] nl (fun k s5 s6 s7 wr => ∃ i : Nat, i ≤ nl ∧ k = nl - i ∧ s6 = .int .i64 i ∧ s5 = .bool (bt && (l.take i).all factOk) ∧ Below w1.heap.size w1 wr)
  case atStart => exact ⟨0, Nat.zero_le _, by omega, rfl, by simp, Below.refl _ w1⟩
  case round =>
    obtain ⟨i, hi1, rfl, rfl, rfl, hbr⟩ := hrel
    have HBR := hide hbr
    have HBW := hide (HB1.out.trans (hbr.mono HB1.out.size))
    by_cases hlt : i < nl
    · have hil : i < l.length := by rw [HNL.out]; exact hlt
      obtain ⟨b1, o1, z1, z2, rfl, hp1, _, hin1, a0, a1, a2, a3⟩ := fm_at HL.out hil
      have hst := all_take factOk hil
      have hcc : ∀ W, Below w.heap.size w W → ∀ x, W.cell? ⟨b1, x, none⟩ = w.cell? ⟨b1, x, none⟩ := fun W hb x => hb.cell (p := ⟨b1, x, none⟩) (hP b1 hp1)
      have hcall := rcheck_any l[i].2 (P := P) (w := wr) (pk := z1) (ck := z2) (fun b h => Nat.lt_of_lt_of_le (hP b h) HBW.out.size) (TyIn.keep (KP.of_below HBW.out hP) (fun b h => h) _ _ hin1)
      generalize l[i] = f at *
      have hii : (i : Int) < nl := by omega
      have HFO : Hid (factOk f = (decide (0 ≤ f.1) && chk f.2)) := hide rfl
      generalize hck : chk f.2 = may at *
      generalize hbk : (l.take i).all factOk = bk at *
      have c1 : wr.cell? ⟨b1, o1 + i * 4 + 1, none⟩ = some (.string (S f.2.nm)) := (hcc wr HBW.out _).trans a1
      have c2 : wr.cell? ⟨b1, o1 + i * 4 + 1 + 1, none⟩ = some (.int .i64 f.2.n) := (hcc wr HBW.out _).trans a2
      have c3 : wr.cell? ⟨b1, o1 + i * 4 + 1 + 2, none⟩ = some (.slice z1 f.2.ar.length z2) := (hcc wr HBW.out _).trans a3
      have HA0 := hide a0; have HCC := hide hcc; have HST := hide hst; have HC := hide hcall; have HCK := hide hck; have HBK := hide hbk
      clear hcall hst hcc hbr hin1 hck hbk a0 a1 a2 a3
      unfold cs3 at HC
      go_wp2_with fail
      refine HC.out.mono ?_
      rintro r w5 ⟨rfl, hb⟩
      have HB5 := hide (HBW.out.trans (hb.mono HBW.out.size))
      have HB15 := hide (HBR.out.trans (hb.mono HBR.out.size))
      clear hb c1 c2 c3 HC
      have c0 : w5.cell? ⟨b1, o1 + i * 4, none⟩ = some (.int .i64 f.1) := (HCC.out w5 HB5.out _).trans HA0.out
      by_cases hge : 0 ≤ f.1
      · cases bt <;> cases bk <;> cases may
        all_goals
          go_wp2_with fail
          go_roundg (nl - (i + 1))
          case measure => omega
          case rel =>
            refine ⟨i + 1, by omega, rfl, by go_num, ?_, HB15.out⟩
            rw [HST.out, HFO.out, decide_eq_true hge]
            rfl
      · have HGD : Hid (decide (0 ≤ f.1) = false) := hide (decide_eq_false hge)
        cases bt <;> cases bk <;> cases may
        all_goals
          go_wp2_with fail
          go_roundg (nl - (i + 1))
          case measure => omega
          case rel =>
            refine ⟨i + 1, by omega, rfl, by go_num, ?_, HB15.out⟩
            rw [HST.out, HFO.out, HGD.out]
            rfl
    · have h1 : l.take i = l := List.take_of_length_le (by rw [HNL.out]; omega)
      rw [h1]
      have hii : ¬ (i : Int) < nl := by omega
      have HWR := hide (HW1.out.below hbr HW1.out.lt)
      have HRR := hide (HR1.out.below hbr HR1.out.lt)
      have hs3 := HRR.out.lt
      clear hbr h1
      generalize hbk : l.all factOk = bk at *
      cases bt with
      | false =>
        have HTE : Hid (te = ⟨[], 0, []⟩) := hide (HNO.out (.inl rfl))
        clear hbk
        have r2 := HRR.out
        have hf0 := r2.frozen 0
        have hf1 := r2.frozen 1
        have hf2 := r2.frozen 2
        have hr0 := r2.cell 0
        have hr1 := r2.cell 1
        have hr2 := r2.cell 2
        simp only [List.getElem?_toArray, List.getElem?_cons_succ, List.getElem?_cons_zero] at hr0 hr1 hr2
        have hs2 := r2.lt
        clear r2
        go_wp2_with fail
        have hro := hold3 HRR.out (.string ⟨#[]⟩) (.int .i64 0) (.slice none 0 0)
        have q0 := hro.cell 0
        have q1 := hro.cell 1
        have q2 := hro.cell 2
        simp only [List.getElem?_toArray, List.getElem?_cons_succ, List.getElem?_cons_zero] at q0 q1 q2
        have HTQ : Hid (TQP P te w (.returned (.agg #[.string ⟨#[]⟩, .int .i64 0, .slice none 0 0])) (((wr.setCell ⟨w.heap.size + 1, 0, none⟩ (.string ⟨#[]⟩)).setCell ⟨w.heap.size + 1, 1, none⟩ (.int .i64 0)).setCell ⟨w.heap.size + 1, 2, none⟩ (.slice none 0 0))) := by
          rw [HTE.out]
          exact tqp_cell (P := P) (t := (⟨[], 0, []⟩ : Ty)) (w := w) (W := wr) (pk := none) (ck := 0) (B := w.heap.size + 1) hP (by omega) HBW.out (zero_in _ _)
        generalize ((wr.setCell ⟨w.heap.size + 1, 0, none⟩ (.string ⟨#[]⟩)).setCell ⟨w.heap.size + 1, 1, none⟩ (.int .i64 0)).setCell ⟨w.heap.size + 1, 2, none⟩ (.slice none 0 0) = W3 at *
        exact bodyPost_ret (v := .agg #[.string ⟨#[]⟩, .int .i64 0, .slice none 0 0]) (by simp only [results, Tryd.results23]; go_simp) rfl HTQ.out
      | true =>
        cases bk with
        | false =>
          have HTE : Hid (te = ⟨[], 0, []⟩) := hide (HNO.out (.inr rfl))
          clear hbk
          have r2 := HRR.out
          have hf0 := r2.frozen 0
          have hf1 := r2.frozen 1
          have hf2 := r2.frozen 2
          have hr0 := r2.cell 0
          have hr1 := r2.cell 1
          have hr2 := r2.cell 2
          simp only [List.getElem?_toArray, List.getElem?_cons_succ, List.getElem?_cons_zero] at hr0 hr1 hr2
          have hs2 := r2.lt
          clear r2
          go_wp2_with fail
          have hro := hold3 HRR.out (.string ⟨#[]⟩) (.int .i64 0) (.slice none 0 0)
          have q0 := hro.cell 0
          have q1 := hro.cell 1
          have q2 := hro.cell 2
          simp only [List.getElem?_toArray, List.getElem?_cons_succ, List.getElem?_cons_zero] at q0 q1 q2
          have HTQ : Hid (TQP P te w (.returned (.agg #[.string ⟨#[]⟩, .int .i64 0, .slice none 0 0])) (((wr.setCell ⟨w.heap.size + 1, 0, none⟩ (.string ⟨#[]⟩)).setCell ⟨w.heap.size + 1, 1, none⟩ (.int .i64 0)).setCell ⟨w.heap.size + 1, 2, none⟩ (.slice none 0 0))) := by
            rw [HTE.out]
            exact tqp_cell (P := P) (t := (⟨[], 0, []⟩ : Ty)) (w := w) (W := wr) (pk := none) (ck := 0) (B := w.heap.size + 1) hP (by omega) HBW.out (zero_in _ _)
          generalize ((wr.setCell ⟨w.heap.size + 1, 0, none⟩ (.string ⟨#[]⟩)).setCell ⟨w.heap.size + 1, 1, none⟩ (.int .i64 0)).setCell ⟨w.heap.size + 1, 2, none⟩ (.slice none 0 0) = W3 at *
          exact bodyPost_ret (v := .agg #[.string ⟨#[]⟩, .int .i64 0, .slice none 0 0]) (by simp only [results, Tryd.results23]; go_simp) rfl HTQ.out
        | true =>
          have HTE0 : Hid (te = sub (look l) t) := hide (HYES.out rfl rfl)
          have hts : tsz t ≤ 1000000 := by have := HTS.out rfl; omega
          clear hbk
          have x0 := HWR.out.cell 0; have x1 := HWR.out.cell 1; have x2 := HWR.out.cell 2
          simp only [List.getElem?_toArray, List.getElem?_cons_succ, List.getElem?_cons_zero] at x0 x1 x2
          go_wp2_with fail
          refine (HPT.out hts _ HBW.out).mono ?_
          rintro r w6 ⟨p2, c2, rfl, hb, hin⟩
          have HB6 := hide (HBW.out.trans (hb.mono HBW.out.size))
          have HR6 := hide (HRR.out.below hb HRR.out.lt)
          generalize hst : sub (look l) t = ts at *
          have HTE : Hid (te = ts) := HTE0
          have HIN6 : Hid (TyIn (fun b => (P b ∨ w.heap.size ≤ b) ∧ b < w6.heap.size ∧ b ≠ w.heap.size + 1) w6 ts [.string (S ts.nm), .int .i64 ts.n, .slice p2 ts.ar.length c2]) := hide (TyIn.keep (KP.refl _ _) (fun b h => by
            have h5 := HBW.out.size; have h6 := hb.size
            rcases h with h | h
            · have := hP b h
              exact ⟨.inl h, by omega, by omega⟩
            · have := h.1; have := h.2
              exact ⟨.inr (by omega), by omega, by omega⟩) _ _ hin)
          clear hb hin hst
          unfold cs3
          have r2 := HR6.out
          have hf0 := r2.frozen 0
          have hf1 := r2.frozen 1
          have hf2 := r2.frozen 2
          have hr0 := r2.cell 0
          have hr1 := r2.cell 1
          have hr2 := r2.cell 2
          simp only [List.getElem?_toArray, List.getElem?_cons_succ, List.getElem?_cons_zero] at hr0 hr1 hr2
          have hs2 := r2.lt
          clear r2
          go_wp2_with fail
          have hro := hold3 HR6.out (.string (S ts.nm)) (.int .i64 ts.n) (.slice p2 ts.ar.length c2)
          have q0 := hro.cell 0
          have q1 := hro.cell 1
          have q2 := hro.cell 2
          simp only [List.getElem?_toArray, List.getElem?_cons_succ, List.getElem?_cons_zero] at q0 q1 q2
          have HTQ : Hid (TQP P te w (.returned (.agg #[.string (S ts.nm), .int .i64 ts.n, .slice p2 ts.ar.length c2])) (((w6.setCell ⟨w.heap.size + 1, 0, none⟩ (.string (S ts.nm))).setCell ⟨w.heap.size + 1, 1, none⟩ (.int .i64 ts.n)).setCell ⟨w.heap.size + 1, 2, none⟩ (.slice p2 ts.ar.length c2))) := by
            rw [HTE.out]
            exact tqp_cell (P := P) (t := ts) (w := w) (W := w6) (pk := p2) (ck := c2) (B := w.heap.size + 1) hP (by omega) HB6.out HIN6.out
          generalize ((w6.setCell ⟨w.heap.size + 1, 0, none⟩ (.string (S ts.nm))).setCell ⟨w.heap.size + 1, 1, none⟩ (.int .i64 ts.n)).setCell ⟨w.heap.size + 1, 2, none⟩ (.slice p2 ts.ar.length c2) = W3 at *
          exact bodyPost_ret (v := .agg #[.string (S ts.nm), .int .i64 ts.n, .slice p2 ts.ar.length c2]) (by simp only [results, Tryd.results23]; go_simp) rfl HTQ.out
end Go.Proofs.YteoflpalmckikaaDoor
