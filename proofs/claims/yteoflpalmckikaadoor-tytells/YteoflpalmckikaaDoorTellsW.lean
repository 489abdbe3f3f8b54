/-
  THE WALK OF TyTells.
-/
import Derived.Test.YteoflpalmckikaaDoorAwakeP
import Derived.Test.YteoflpalmckikaaDoorCanonR
import Derived.Test.YteoflpalmckikaaDoorTxtR
namespace Go.Proofs.YteoflpalmckikaaDoor
open Go.RowKit
set_option linter.unusedVariables false
set_option linter.unusedSimpArgs false
theorem nmHold.c3 {b : Nat} {x y z : Value} {t : TypeId} {W : World} (h : Hold b #[x, y, z] t W) : W.cell? ⟨b, 0, none⟩ = some x ∧ W.cell? ⟨b, 1, none⟩ = some y ∧ W.cell? ⟨b, 2, none⟩ = some z := ⟨h.cell 0, h.cell 1, h.cell 2⟩
set_option maxHeartbeats 16000000 in
set_option maxRecDepth 100000 in
theorem tells_walk (t : Ty) {w : World} {pt : Option Addr} {ct : Nat} (hG : GT w) (hT : TyIn (fun x => x < w.heap.size) w t [.string (S t.nm), .int .i64 t.n, .slice pt t.ar.length ct]) :
    Calls Tryd.prog 3 #[.agg (cs3 t pt ct)] w fun r w' => r = .returned (.bool true) ∧ Below w.heap.size w w' := by
  have HTT : Hid (∀ W, Below w.heap.size w W → TyIn (fun x => x < w.heap.size) W t [.string (S t.nm), .int .i64 t.n, .slice pt t.ar.length ct]) := hide fun W hb => TyIn.keep (KP.of_below hb fun x hx => hx) (fun x hx => hx) _ _ hT
  have HGG : Hid (∀ W, Below w.heap.size w W → GT W) := hide fun W hb => hG.below hb
  have hX : Hold w.heap.size #[.string (S t.nm), .int .i64 t.n, .slice pt t.ar.length ct] 24 (w.alloc (.cells #[.string (S t.nm), .int .i64 t.n, .slice pt t.ar.length ct] 24)) := Hold.new w _ 24
  have hb0 : Below w.heap.size w (w.alloc (.cells #[.string (S t.nm), .int .i64 t.n, .slice pt t.ar.length ct] 24)) := (Below.refl _ w).alloc (Nat.le_refl _) _
  have HX0 := hide hX; have HB0 := hide hb0
  clear hX hb0 hG hT
  unfold cs3
  go_enter Tryd.func3, Tryd.ntmps3
  go_upto_region 1 with fail
  generalize (w.alloc (.cells #[.string (S t.nm), .int .i64 t.n, .slice pt t.ar.length ct] 24)) = w0 at *
  have x0 := HX0.out.cell 0; have x1 := HX0.out.cell 1; have x2 := HX0.out.cell 2
  simp only [List.getElem?_toArray, List.getElem?_cons_succ, List.getElem?_cons_zero] at x0 x1 x2
  go_wp2_with fail
  refine (awake_any (HGG.out w0 HB0.out)).mono ?_
  rintro r w1 ⟨rfl, hb⟩
  have hbs := hb
  have HX1 := hide (HX0.out.below hbs HX0.out.lt)
  have HB1 := hide (HB0.out.trans (hbs.mono HB0.out.size))
  have hs1 := HB1.out.size
  clear hbs
  clear x0 x1 x2
  have x0 := HX1.out.cell 0; have x1 := HX1.out.cell 1; have x2 := HX1.out.cell 2
  simp only [List.getElem?_toArray, List.getElem?_cons_succ, List.getElem?_cons_zero] at x0 x1 x2
  clear hb
  have hfw := few_any t (P := fun x => x < w.heap.size) (w := w1) (pk := pt) (ck := ct) (fun x hx => Nat.lt_of_lt_of_le hx HB1.out.size) (HTT.out w1 HB1.out)
  have HFW := hide hfw
  clear hfw
  cases hfewt : fewM t with
  | false =>
    rw [hfewt] at HFW
    unfold cs3 at HFW
    go_wp2_with fail
    refine HFW.out.mono ?_
    rintro r w2 ⟨rfl, hb⟩
    go_wp2_with fail
    go_ret
    exact ⟨rfl, HB1.out.trans (hb.mono HB1.out.size)⟩
  | true =>
    rw [hfewt] at HFW
    unfold cs3 at HFW
    go_wp2_with fail
    refine HFW.out.mono ?_
    rintro r w2 ⟨rfl, hb⟩
    have hbs := hb
    have HX2 := hide (HX1.out.below hbs HX1.out.lt)
    have HB2 := hide (HB1.out.trans (hbs.mono HB1.out.size))
    have hs2 := HB2.out.size
    clear hbs
    clear x0 x1 x2
    have x0 := HX2.out.cell 0; have x1 := HX2.out.cell 1; have x2 := HX2.out.cell 2
    simp only [List.getElem?_toArray, List.getElem?_cons_succ, List.getElem?_cons_zero] at x0 x1 x2
    clear hb HFW
    have hho := tyHoles_any t (P := fun x => x < w.heap.size) (w := w2) (pk := pt) (ck := ct) (fun x hx => Nat.lt_of_lt_of_le hx HB2.out.size) (HTT.out w2 HB2.out)
    have HRH := hide (fun W (hb : Below w.heap.size w W) => rHoles_any t (P := fun x => x < w.heap.size) (w := W) (pk := pt) (ck := ct) (fun x hx => Nat.lt_of_lt_of_le hx hb.size) (HTT.out W hb))
    have hlc2 : (if chk t then hs t else []).length ≤ 1000000 := by
      split
      · rename_i h
        have := hs_len t
        have := ((chk_iff t).1 h).2.2
        omega
      · simp
    generalize (if chk t then hs t else []) = lc at *
    have HHO := hide hho
    clear hho
    unfold cs3 at HHO HRH
    go_wp2_with fail
    refine HHO.out.mono ?_
    rintro r w3 ⟨va, rfl, hil, hb⟩
    have hbs := hb
    have HX3 := hide (HX2.out.below hbs HX2.out.lt)
    have HB3 := hide (HB2.out.trans (hbs.mono HB2.out.size))
    have hs3 := HB3.out.size
    clear hbs
    clear x0 x1 x2
    have x0 := HX3.out.cell 0; have x1 := HX3.out.cell 1; have x2 := HX3.out.cell 2
    simp only [List.getElem?_toArray, List.getElem?_cons_succ, List.getElem?_cons_zero] at x0 x1 x2
    obtain ⟨pl, cl, rfl, hga⟩ := hil.slice
    have HGA := hide hga; have HILA := hide hil
    clear hb HHO hil hga
    go_wp2_with fail
    refine (HRH.out w3 HB3.out).mono ?_
    rintro r w4 ⟨vb, rfl, hil, hb⟩
    have hbs := hb
    have HX4 := hide (HX3.out.below hbs HX3.out.lt)
    have HB4 := hide (HB3.out.trans (hbs.mono HB3.out.size))
    have hs4 := HB4.out.size
    clear hbs
    clear x0 x1 x2
    have x0 := HX4.out.cell 0; have x1 := HX4.out.cell 1; have x2 := HX4.out.cell 2
    simp only [List.getElem?_toArray, List.getElem?_cons_succ, List.getElem?_cons_zero] at x0 x1 x2
    have HW34 := hide hb
    obtain ⟨pm, cm, rfl, hgb⟩ := hil.slice
    have HGB := hide hgb; have HILB := hide hil
    clear hb HRH hil hgb
    generalize hm : lc.length = m at *
    have HLM := hide hm
    clear hm
    have hmm : ((m : Int) != (m : Int)) = false := by simp
    go_wp2_with fail
    go_loopg [6] m (fun k s6 wr => ∃ i : Nat, i ≤ m ∧ k = m - i ∧ s6 = .int .i64 i ∧ Below w4.heap.size w4 wr)
    case atStart => exact ⟨0, Nat.zero_le _, by omega, rfl, Below.refl _ w4⟩
    case round =>
      obtain ⟨i, hi1, rfl, rfl, hbr⟩ := hrel
      have HBR := hide hbr
      have HB4r : Hid (Below w.heap.size w wr) := hide (HB4.out.trans (hbr.mono HB4.out.size))
      have HX5 := hide (HX4.out.below hbr HX4.out.lt)
      by_cases hlt : i < m
      · have hil : i < lc.length := by rw [HLM.out]; exact hlt
        obtain ⟨g, rfl, _, hgl⟩ := HGA.out (by omega)
        obtain ⟨g', rfl, _, hgl'⟩ := HGB.out (by omega)
        have hu := List.getElem?_eq_getElem hil
        generalize lc[i] = x at *
        have ca : wr.cell? ⟨g, i, none⟩ = some (.int .i64 x) := (hbr.cell (p := ⟨g, i, none⟩) (Nat.lt_of_lt_of_le hgl HW34.out.size)).trans ((HW34.out.cell (p := ⟨g, i, none⟩) hgl).trans (row_cell (by have h := HILA.out; unfold IL at h; rw [HLM.out] at h; exact h) (intV_at hu)))
        have cb' : wr.cell? ⟨g', i, none⟩ = some (.int .i64 x) := (hbr.cell (p := ⟨g', i, none⟩) hgl').trans (row_cell (by have h := HILB.out; unfold IL at h; rw [HLM.out] at h; exact h) (intV_at hu))
        have hii : (i : Int) < m := by omega
        have hne : (x != x) = false := by simp
        clear hu hbr
        go_wp2_with fail
        refine wp_region_noPanic ?_
        refine region_J 9 (N := 9) (S := (fun W' : World => W'.cell? ⟨g, i, none⟩ = some (.int .i64 x) ∧ W'.cell? ⟨g', i, none⟩ = some (.int .i64 x))) (by kernel_rfl) (by kernel_rfl) ?_
        have hS : (fun W' : World => W'.cell? ⟨g, i, none⟩ = some (.int .i64 x) ∧ W'.cell? ⟨g', i, none⟩ = some (.int .i64 x)) wr.drew := ⟨ca, cb'⟩
        refine take_D (i := 0) 27 (.slice (some ⟨g, 0, none⟩) m cl) rfl rfl (by kernel_rfl) (by kernel_rfl) (by kernel_rfl) (by kernel_rfl) (fun _ _ _ h => h) (Or.inl ⟨by rfl, fun W' hW => by obtain ⟨s0, s1⟩ := hW; go_simp⟩) hS ?_
        simp only [Act.put, List.setIfInBounds_toArray, List.set_cons_zero, List.set_cons_succ]
        refine take_D (i := 1) 28 (.int .i64 i) rfl rfl (by kernel_rfl) (by kernel_rfl) (by kernel_rfl) (by kernel_rfl) (fun _ _ _ h => h) (Or.inl ⟨by rfl, fun W' hW => by obtain ⟨s0, s1⟩ := hW; go_simp⟩) hS ?_
        simp only [Act.put, List.setIfInBounds_toArray, List.set_cons_zero, List.set_cons_succ]
        refine take_D (i := 2) 29 (.pointer (some ⟨g, i, none⟩)) rfl rfl (by kernel_rfl) (by kernel_rfl) (by kernel_rfl) (by kernel_rfl) (fun _ _ _ h => h) (Or.inl ⟨by rfl, fun W' hW => by obtain ⟨s0, s1⟩ := hW; go_simp⟩) hS ?_
        simp only [Act.put, List.setIfInBounds_toArray, List.set_cons_zero, List.set_cons_succ]
        refine take_D (i := 3) 30 (.int .i64 x) rfl rfl (by kernel_rfl) (by kernel_rfl) (by kernel_rfl) (by kernel_rfl) (fun _ _ _ h => h) (Or.inl ⟨by rfl, fun W' hW => by obtain ⟨s0, s1⟩ := hW; go_simp⟩) hS ?_
        simp only [Act.put, List.setIfInBounds_toArray, List.set_cons_zero, List.set_cons_succ]
        refine take_D (i := 4) 31 (.slice (some ⟨g', 0, none⟩) m cm) rfl rfl (by kernel_rfl) (by kernel_rfl) (by kernel_rfl) (by kernel_rfl) (fun _ _ _ h => h) (Or.inl ⟨by rfl, fun W' hW => by obtain ⟨s0, s1⟩ := hW; go_simp⟩) hS ?_
        simp only [Act.put, List.setIfInBounds_toArray, List.set_cons_zero, List.set_cons_succ]
        refine take_D (i := 5) 32 (.int .i64 i) rfl rfl (by kernel_rfl) (by kernel_rfl) (by kernel_rfl) (by kernel_rfl) (fun _ _ _ h => h) (Or.inl ⟨by rfl, fun W' hW => by obtain ⟨s0, s1⟩ := hW; go_simp⟩) hS ?_
        simp only [Act.put, List.setIfInBounds_toArray, List.set_cons_zero, List.set_cons_succ]
        refine take_D (i := 6) 33 (.pointer (some ⟨g', i, none⟩)) rfl rfl (by kernel_rfl) (by kernel_rfl) (by kernel_rfl) (by kernel_rfl) (fun _ _ _ h => h) (Or.inl ⟨by rfl, fun W' hW => by obtain ⟨s0, s1⟩ := hW; go_simp⟩) hS ?_
        simp only [Act.put, List.setIfInBounds_toArray, List.set_cons_zero, List.set_cons_succ]
        refine take_D (i := 7) 34 (.int .i64 x) rfl rfl (by kernel_rfl) (by kernel_rfl) (by kernel_rfl) (by kernel_rfl) (fun _ _ _ h => h) (Or.inl ⟨by rfl, fun W' hW => by obtain ⟨s0, s1⟩ := hW; go_simp⟩) hS ?_
        simp only [Act.put, List.setIfInBounds_toArray, List.set_cons_zero, List.set_cons_succ]
        refine take_D (i := 8) 35 (.bool false) rfl rfl (by kernel_rfl) (by kernel_rfl) (by kernel_rfl) (by kernel_rfl) (fun _ _ _ h => h) (Or.inl ⟨by rfl, fun W' hW => by obtain ⟨s0, s1⟩ := hW; go_simp⟩) hS ?_
        simp only [Act.put, List.setIfInBounds_toArray, List.set_cons_zero, List.set_cons_succ]
        refine done_J (by kernel_rfl) ?_ _
        refine NoPanic.normal ?_
        have HBD : Hid (Below w4.heap.size w4 wr.drew) := hide (HBR.out.trans ((below_drew wr).mono HBR.out.size))
        clear hS ca cb'
        generalize wr.drew = w4b at *
        go_wp2_with fail
        go_roundg (m - (i + 1))
        case measure => omega
        case rel => exact ⟨i + 1, by omega, rfl, by go_num, HBD.out⟩
      · have hii : ¬ (i : Int) < m := by omega
        clear hbr x0 x1 x2
        go_upto_region 13 with fail
        refine wp_region_noPanic ?_
        refine region_J 23 (N := 23) (S := (fun W' : World => Hold w.heap.size #[.string (S t.nm), .int .i64 t.n, .slice pt t.ar.length ct] 24 W')) (by kernel_rfl) (by kernel_rfl) ?_
        have hdr := below_drew wr
        have hS : (fun W' : World => Hold w.heap.size #[.string (S t.nm), .int .i64 t.n, .slice pt t.ar.length ct] 24 W') wr.drew := HX5.out.below hdr HX5.out.lt
        have HB5 : Hid (Below w.heap.size w wr.drew) := hide (HB4r.out.trans (hdr.mono HB4r.out.size))
        generalize wr.drew = w5 at *
        clear hdr
        cases hcb : chk t
        all_goals
          have HCB := hide hcb
          have hcn : (if chk t = true then canon t else (⟨[], 0, []⟩ : Ty)) = (if chk t = true then canon t else (⟨[], 0, []⟩ : Ty)) := rfl
          have hsx : S (if chk t = true then txT t else []) = S (if chk t = true then txT t else []) := rfl
          generalize hxa : (if chk t = true then canon t else (⟨[], 0, []⟩ : Ty)) = xa at *
          generalize hsx2 : S (if chk t = true then txT t else []) = sx at *
          have HCN := hide hxa; have HSX := hide hsx2
          clear hcb hcn hsx hxa hsx2
          refine take_D (i := 0) 36 (.bool true) rfl rfl (by kernel_rfl) (by kernel_rfl) (by kernel_rfl) (by kernel_rfl) (fun _ _ _ h => h) (Or.inl ⟨by rfl, fun W' hW => by go_simp⟩) hS ?_
          simp only [Act.put, List.setIfInBounds_toArray, List.set_cons_zero, List.set_cons_succ]
          refine take_D (i := 1) 37 (.bool true) rfl rfl (by kernel_rfl) (by kernel_rfl) (by kernel_rfl) (by kernel_rfl) (fun _ _ _ h => h) (Or.inl ⟨by rfl, fun W' hW => by go_simp⟩) hS ?_
          simp only [Act.put, List.setIfInBounds_toArray, List.set_cons_zero, List.set_cons_succ]
          refine take_D (i := 2) 38 (.agg #[.string (S t.nm), .int .i64 t.n, .slice pt t.ar.length ct]) rfl rfl (by kernel_rfl) (by kernel_rfl) (by kernel_rfl) (by kernel_rfl) (fun _ _ _ h => h) (Or.inl ⟨by rfl, fun W' hW => by obtain ⟨x0, x1, x2⟩ := nmHold.c3 hW; go_simp⟩) hS ?_
          simp only [Act.put, List.setIfInBounds_toArray, List.set_cons_zero, List.set_cons_succ]
          refine take_D (i := 4) 40 (.agg #[.string (S t.nm), .int .i64 t.n, .slice pt t.ar.length ct]) rfl rfl (by kernel_rfl) (by kernel_rfl) (by kernel_rfl) (by kernel_rfl) (fun _ _ _ h => h) (Or.inl ⟨by rfl, fun W' hW => by obtain ⟨x0, x1, x2⟩ := nmHold.c3 hW; go_simp⟩) hS ?_
          simp only [Act.put, List.setIfInBounds_toArray, List.set_cons_zero, List.set_cons_succ]
          have HC := hide (check_any t (P := fun x => x < w.heap.size) (w := w5) (pk := pt) (ck := ct) (fun x hx => Nat.lt_of_lt_of_le hx HB5.out.size) (HTT.out w5 HB5.out))
          unfold cs3 at HC
          rw [HCB.out] at HC
          refine ready_J (rs := [3]) (by kernel_rfl) (by simp) ?_
          intro jj hjj
          obtain rfl := List.mem_singleton.1 hjj
          clear hjj
          refine op_W rfl (by rfl) fun K hK => ?_
          go_simp
          refine HC.out.mono ?_
          rintro r w6 ⟨rfl, hb⟩
          clear HC
          have HB6 : Hid (Below w.heap.size w w6) := hide (HB5.out.trans (hb.mono HB5.out.size))
          have hS2 : (fun W' : World => Hold w.heap.size #[.string (S t.nm), .int .i64 t.n, .slice pt t.ar.length ct] 24 W') w6 := hS.below hb hS.lt
          clear hS
          have hS := hS2
          clear hS2
          refine hK _ _ ⟨fun _ => hS, ?_⟩
          clear hK K
          clear hb
          have HC := hide (rcheck_any t (P := fun x => x < w.heap.size) (w := w6) (pk := pt) (ck := ct) (fun x hx => Nat.lt_of_lt_of_le hx HB6.out.size) (HTT.out w6 HB6.out))
          unfold cs3 at HC
          rw [HCB.out] at HC
          refine ready_J (rs := [5]) (by kernel_rfl) (by simp) ?_
          intro jj hjj
          obtain rfl := List.mem_singleton.1 hjj
          clear hjj
          refine op_W rfl (by rfl) fun K hK => ?_
          go_simp
          refine HC.out.mono ?_
          rintro r w7 ⟨rfl, hb⟩
          clear HC
          have HB7 : Hid (Below w.heap.size w w7) := hide (HB6.out.trans (hb.mono HB6.out.size))
          have hS2 : (fun W' : World => Hold w.heap.size #[.string (S t.nm), .int .i64 t.n, .slice pt t.ar.length ct] 24 W') w7 := hS.below hb hS.lt
          clear hS
          have hS := hS2
          clear hS2
          refine hK _ _ ⟨fun _ => hS, ?_⟩
          clear hK K
          clear hb
          refine take_D (i := 6) 42 (.bool true) rfl rfl (by kernel_rfl) (by kernel_rfl) (by kernel_rfl) (by kernel_rfl) (fun _ _ _ h => h) (Or.inl ⟨by rfl, fun W' hW => by go_simp⟩) hS ?_
          simp only [Act.put, List.setIfInBounds_toArray, List.set_cons_zero, List.set_cons_succ]
          refine take_D (i := 7) 43 (.bool true) rfl rfl (by kernel_rfl) (by kernel_rfl) (by kernel_rfl) (by kernel_rfl) (fun _ _ _ h => h) (Or.inl ⟨by rfl, fun W' hW => by go_simp⟩) hS ?_
          simp only [Act.put, List.setIfInBounds_toArray, List.set_cons_zero, List.set_cons_succ]
          refine take_D (i := 8) 44 (.bool true) rfl rfl (by kernel_rfl) (by kernel_rfl) (by kernel_rfl) (by kernel_rfl) (fun _ _ _ h => h) (Or.inl ⟨by rfl, fun W' hW => by go_simp⟩) hS ?_
          simp only [Act.put, List.setIfInBounds_toArray, List.set_cons_zero, List.set_cons_succ]
          refine take_D (i := 9) 45 (.agg #[.string (S t.nm), .int .i64 t.n, .slice pt t.ar.length ct]) rfl rfl (by kernel_rfl) (by kernel_rfl) (by kernel_rfl) (by kernel_rfl) (fun _ _ _ h => h) (Or.inl ⟨by rfl, fun W' hW => by obtain ⟨x0, x1, x2⟩ := nmHold.c3 hW; go_simp⟩) hS ?_
          simp only [Act.put, List.setIfInBounds_toArray, List.set_cons_zero, List.set_cons_succ]
          refine take_D (i := 11) 47 (.agg #[.string (S t.nm), .int .i64 t.n, .slice pt t.ar.length ct]) rfl rfl (by kernel_rfl) (by kernel_rfl) (by kernel_rfl) (by kernel_rfl) (fun _ _ _ h => h) (Or.inl ⟨by rfl, fun W' hW => by obtain ⟨x0, x1, x2⟩ := nmHold.c3 hW; go_simp⟩) hS ?_
          simp only [Act.put, List.setIfInBounds_toArray, List.set_cons_zero, List.set_cons_succ]
          have hcall := canon_any t (P := fun x => x < w.heap.size) (w := w7) (pk := pt) (ck := ct) (fun x hx => Nat.lt_of_lt_of_le hx HB7.out.size) (HTT.out w7 HB7.out)
          rw [HCN.out] at hcall
          have HC := hide hcall
          clear hcall
          unfold cs3 at HC
          refine ready_J (rs := [10]) (by kernel_rfl) (by simp) ?_
          intro jj hjj
          obtain rfl := List.mem_singleton.1 hjj
          clear hjj
          refine op_W rfl (by rfl) fun K hK => ?_
          go_simp
          refine HC.out.mono ?_
          rintro r w8 ⟨p1, c1, rfl, hb, hin⟩
          have HIA : Hid (TyIn (fun x => x < w8.heap.size) w8 xa [.string (S xa.nm), .int .i64 xa.n, .slice p1 xa.ar.length c1]) := hide (TyIn.keep (KP.refl _ _) (fun x hx => hx.2) _ _ hin)
          clear hin HC
          unfold cs3
          have HB8 : Hid (Below w.heap.size w w8) := hide (HB7.out.trans (hb.mono HB7.out.size))
          have hS2 : (fun W' : World => Hold w.heap.size #[.string (S t.nm), .int .i64 t.n, .slice pt t.ar.length ct] 24 W') w8 := hS.below hb hS.lt
          clear hS
          have hS := hS2
          clear hS2
          refine hK _ _ ⟨fun _ => hS, ?_⟩
          clear hK K
          clear hb
          have hcall := rcanon_any t (P := fun x => x < w.heap.size) (w := w8) (pk := pt) (ck := ct) (fun x hx => Nat.lt_of_lt_of_le hx HB8.out.size) (HTT.out w8 HB8.out)
          rw [HCN.out] at hcall
          have HC := hide hcall
          clear hcall
          unfold cs3 at HC
          refine ready_J (rs := [12]) (by kernel_rfl) (by simp) ?_
          intro jj hjj
          obtain rfl := List.mem_singleton.1 hjj
          clear hjj
          refine op_W rfl (by rfl) fun K hK => ?_
          go_simp
          refine HC.out.mono ?_
          rintro r w9 ⟨p2, c2, rfl, hb, hin⟩
          have HIB : Hid (TyIn (fun x => x < w9.heap.size) w9 xa [.string (S xa.nm), .int .i64 xa.n, .slice p2 xa.ar.length c2]) := hide (TyIn.keep (KP.refl _ _) (fun x hx => hx) _ _ hin)
          clear hin HC
          unfold cs3
          have HB9 : Hid (Below w.heap.size w w9) := hide (HB8.out.trans (hb.mono HB8.out.size))
          have hS2 : (fun W' : World => Hold w.heap.size #[.string (S t.nm), .int .i64 t.n, .slice pt t.ar.length ct] 24 W') w9 := hS.below hb hS.lt
          clear hS
          have hS := hS2
          clear hS2
          refine hK _ _ ⟨fun _ => hS, ?_⟩
          clear hK K
          have HIA7 : Hid (TyIn (fun x => x < w9.heap.size) w9 xa [.string (S xa.nm), .int .i64 xa.n, .slice p1 xa.ar.length c1]) := hide (TyIn.keep (KP.of_below hb fun x hx => hx) (fun x hx => Nat.lt_of_lt_of_le hx hb.size) _ _ HIA.out)
          clear HIA
          clear hb
          have hsm := same_ty xa xa (P := fun x => x < w9.heap.size) (w := w9) (pk := p1) (qk := p2) (ck := c1) (dk := c2) (fun x hx => hx) HIA7.out HIB.out
          have HSAME := hide hsm
          clear hsm
          unfold cs3 at HSAME
          refine ready_J (rs := [13]) (by kernel_rfl) (by simp) ?_
          intro jj hjj
          obtain rfl := List.mem_singleton.1 hjj
          clear hjj
          refine op_W rfl (by rfl) fun K hK => ?_
          go_simp
          refine HSAME.out.mono ?_
          rintro r w10 ⟨hyes, _, hb⟩
          obtain rfl := hyes (by trivial)
          clear hyes HSAME HIA7 HIB
          have HB10 : Hid (Below w.heap.size w w10) := hide (HB9.out.trans (hb.mono HB9.out.size))
          have hS2 : (fun W' : World => Hold w.heap.size #[.string (S t.nm), .int .i64 t.n, .slice pt t.ar.length ct] 24 W') w10 := hS.below hb hS.lt
          clear hS
          have hS := hS2
          clear hS2
          refine hK _ _ ⟨fun _ => hS, ?_⟩
          clear hK K
          clear hb
          refine take_D (i := 14) 50 (.bool true) rfl rfl (by kernel_rfl) (by kernel_rfl) (by kernel_rfl) (by kernel_rfl) (fun _ _ _ h => h) (Or.inl ⟨by rfl, fun W' hW => by go_simp⟩) hS ?_
          simp only [Act.put, List.setIfInBounds_toArray, List.set_cons_zero, List.set_cons_succ]
          refine take_D (i := 15) 51 (.bool true) rfl rfl (by kernel_rfl) (by kernel_rfl) (by kernel_rfl) (by kernel_rfl) (fun _ _ _ h => h) (Or.inl ⟨by rfl, fun W' hW => by go_simp⟩) hS ?_
          simp only [Act.put, List.setIfInBounds_toArray, List.set_cons_zero, List.set_cons_succ]
          refine take_D (i := 16) 52 (.agg #[.string (S t.nm), .int .i64 t.n, .slice pt t.ar.length ct]) rfl rfl (by kernel_rfl) (by kernel_rfl) (by kernel_rfl) (by kernel_rfl) (fun _ _ _ h => h) (Or.inl ⟨by rfl, fun W' hW => by obtain ⟨x0, x1, x2⟩ := nmHold.c3 hW; go_simp⟩) hS ?_
          simp only [Act.put, List.setIfInBounds_toArray, List.set_cons_zero, List.set_cons_succ]
          refine take_D (i := 18) 54 (.agg #[.string (S t.nm), .int .i64 t.n, .slice pt t.ar.length ct]) rfl rfl (by kernel_rfl) (by kernel_rfl) (by kernel_rfl) (by kernel_rfl) (fun _ _ _ h => h) (Or.inl ⟨by rfl, fun W' hW => by obtain ⟨x0, x1, x2⟩ := nmHold.c3 hW; go_simp⟩) hS ?_
          simp only [Act.put, List.setIfInBounds_toArray, List.set_cons_zero, List.set_cons_succ]
          have hcall := ty_text_any t (P := fun x => x < w.heap.size) (w := w10) (pk := pt) (ck := ct) (fun x hx => Nat.lt_of_lt_of_le hx HB10.out.size) (HGG.out w10 HB10.out) (HTT.out w10 HB10.out)
          unfold SQ at hcall
          rw [HSX.out] at hcall
          have HC := hide hcall
          clear hcall
          unfold cs3 at HC
          refine ready_J (rs := [17]) (by kernel_rfl) (by simp) ?_
          intro jj hjj
          obtain rfl := List.mem_singleton.1 hjj
          clear hjj
          refine op_W rfl (by rfl) fun K hK => ?_
          go_simp
          refine HC.out.mono ?_
          rintro r w11 ⟨rfl, hb⟩
          clear HC
          have HB11 : Hid (Below w.heap.size w w11) := hide (HB10.out.trans (hb.mono HB10.out.size))
          have hS2 : (fun W' : World => Hold w.heap.size #[.string (S t.nm), .int .i64 t.n, .slice pt t.ar.length ct] 24 W') w11 := hS.below hb hS.lt
          clear hS
          have hS := hS2
          clear hS2
          refine hK _ _ ⟨fun _ => hS, ?_⟩
          clear hK K
          clear hb
          have hcall := rText_any t (P := fun x => x < w.heap.size) (w := w11) (pk := pt) (ck := ct) (fun x hx => Nat.lt_of_lt_of_le hx HB11.out.size) (HTT.out w11 HB11.out)
          unfold SQ at hcall
          rw [HSX.out] at hcall
          have HC := hide hcall
          clear hcall
          unfold cs3 at HC
          refine ready_J (rs := [19]) (by kernel_rfl) (by simp) ?_
          intro jj hjj
          obtain rfl := List.mem_singleton.1 hjj
          clear hjj
          refine op_W rfl (by rfl) fun K hK => ?_
          go_simp
          refine HC.out.mono ?_
          rintro r w12 ⟨rfl, hb⟩
          clear HC
          have HB12 : Hid (Below w.heap.size w w12) := hide (HB11.out.trans (hb.mono HB11.out.size))
          have hS2 : (fun W' : World => Hold w.heap.size #[.string (S t.nm), .int .i64 t.n, .slice pt t.ar.length ct] 24 W') w12 := hS.below hb hS.lt
          clear hS
          have hS := hS2
          clear hS2
          refine hK _ _ ⟨fun _ => hS, ?_⟩
          clear hK K
          clear hb
          refine take_D (i := 20) 56 (.bool true) rfl rfl (by kernel_rfl) (by kernel_rfl) (by kernel_rfl) (by kernel_rfl) (fun _ _ _ h => h) (Or.inl ⟨by rfl, fun W' hW => by go_simp⟩) hS ?_
          simp only [Act.put, List.setIfInBounds_toArray, List.set_cons_zero, List.set_cons_succ]
          refine take_D (i := 21) 57 (.bool true) rfl rfl (by kernel_rfl) (by kernel_rfl) (by kernel_rfl) (by kernel_rfl) (fun _ _ _ h => h) (Or.inl ⟨by rfl, fun W' hW => by go_simp⟩) hS ?_
          simp only [Act.put, List.setIfInBounds_toArray, List.set_cons_zero, List.set_cons_succ]
          refine take_D (i := 22) 2 (.bool true) rfl rfl (by kernel_rfl) (by kernel_rfl) (by kernel_rfl) (by kernel_rfl) (fun _ _ _ h => h) (Or.inl ⟨by rfl, fun W' hW => by go_simp⟩) hS ?_
          simp only [Act.put, List.setIfInBounds_toArray, List.set_cons_zero, List.set_cons_succ]
          refine done_J (by kernel_rfl) ?_ _
          refine NoPanic.normal ?_
          clear hS
          go_wp2_with fail
          go_ret
          exact ⟨rfl, HB12.out⟩
end Go.Proofs.YteoflpalmckikaaDoor
