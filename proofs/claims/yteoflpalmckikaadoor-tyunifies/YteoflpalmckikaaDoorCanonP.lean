/-
  THE WALKS OF ty.Canon AND ITS CLOSURE.
-/
import Derived.Test.YteoflpalmckikaaDoorHolesP
namespace Go.Proofs.YteoflpalmckikaaDoor
open Go.RowKit Go.Shelf
set_option linter.unusedVariables false
set_option linter.unusedSimpArgs false
attribute [local go_sem] Oper.semAt_some
theorem KpS.stored {B X : Nat} {E : TypeId} {W W' : World} (h : Stored W X W') (hX : B ≤ X) : KpS B X E W W' := by
  refine ⟨h.1.size, fun b hb hw => h.1.block b hw (fun e => by cases e; omega), fun b C t f hx _ hb => ?_, fun b es c hx hb => ?_⟩
  · exact (h.1.block b (Array.getElem?_eq_some_iff.1 hb).1 (fun e => hx (by cases e; rfl))).trans hb
  · exact (h.1.block b (Array.getElem?_eq_some_iff.1 hb).1 (fun e => hx (by cases e; rfl))).trans hb
theorem Stored.kp {W W' : World} {X : Nat} (h : Stored W X W') : KP (fun b => b < W.heap.size ∧ b ≠ X) W W' := ⟨h.1.os, h.1.tape, h.1.output, h.1.size, fun b hb => h.1.block b hb.1 (fun e => hb.2 (by cases e; rfl))⟩
theorem mapI_ownB {W W' : World} {b B : Nat} {f : Int → Option Value} {row : Option Nat} (h : MapI W b f) (hb : b < B) (hg : W.grownBy W' row) (hr : ∀ r, row = some r → B ≤ r ∧ ∃ o, W.heap[r]? = some o ∧ o.isCells = false) : MapI W' b f :=
  h.keep (hg.block b h.lt (fun e => by have := (hr b e.symm).1; omega))
set_option maxHeartbeats 1000000 in
theorem canon1_any {W : World} {Cb Cm : Nat} {n : Int} {l : List Int} (hb : Hold Cb #[.map (some Cm)] 56 W) (hm : MapI W Cm (plF l)) (hn : n ∈ l) (hl : l.length ≤ 1000000) : Calls Tryd.prog 37 #[.int .i64 n, .pointer (some ⟨Cb, 0, none⟩)] W (TQ (hole (plc l n)) W) := by
  have b0 := hb.cell 0
  have hlt := hb.lt
  simp only [List.getElem?_toArray, List.getElem?_cons_succ, List.getElem?_cons_zero] at b0
  have hM := hm.alloc (.cells #[.string ⟨#[]⟩, .int .i64 0, .slice none 0 0] 24)
  have hR := Hold.new W #[.string ⟨#[]⟩, .int .i64 0, .slice none 0 0] 24
  have hW : Below W.heap.size W (W.alloc (.cells #[.string ⟨#[]⟩, .int .i64 0, .slice none 0 0] 24)) := (Below.refl _ W).alloc (Nat.le_refl _) _
  have hlk := hM.run_look (P := Tryd.prog) (T := 56) (K := 3) (E := 3) Tryd.underlying56 Tryd.underlying3 (zero3 _) n
  rw [plF_at hn] at hlk
  have hpl : 0 ≤ plc l n ∧ plc l n ≤ 1000000 := by
    unfold plc
    have := List.idxOf_le_length (a := n) (l := l)
    omega
  have hh := fun w => hole_any (plc l n) w (by omega)
  have hte : (hole (plc l n)).n = plc l n := rfl
  have htn : S (hole (plc l n)).nm = ⟨#[]⟩ := rfl
  generalize hole (plc l n) = te at *
  generalize plc l n = q at *
  have HM := hide hM; have HR := hide hR; have HW := hide hW; have HH := hide hh
  have HTE := hide hte; have HTN := hide htn
  clear hM hR hW hh hb hm hte htn
  go_enter Tryd.func37, Tryd.ntmps37
  go_wp2_with fail
  refine (HH.out _).mono ?_
  rintro r w2 ⟨qk, dk, rfl, hb2, hin2⟩
  have r2 := HR.out.below hb2 HR.out.lt
  have hf0 := r2.frozen 0
  have hf1 := r2.frozen 1
  have hf2 := r2.frozen 2
  have hr0 := r2.cell 0
  have hr1 := r2.cell 1
  have hr2 := r2.cell 2
  simp only [List.getElem?_toArray, List.getElem?_cons_succ, List.getElem?_cons_zero] at hr0 hr1 hr2
  have HB2 := hide (HW.out.trans (hb2.mono HW.out.size))
  have HIN2 := hide hin2
  have HR2 := hide r2
  clear hb2 hin2 r2
  unfold cs3
  go_wp2_with fail
  have hro := hold3 HR2.out (.string (S te.nm)) (.int .i64 te.n) (.slice qk te.ar.length dk)
  have q0 := hro.cell 0
  have q1 := hro.cell 1
  have q2 := hro.cell 2
  simp only [List.getElem?_toArray, List.getElem?_cons_succ, List.getElem?_cons_zero] at q0 q1 q2
  have HTQ : Hid (TQ te W (.returned (.agg #[.string (S te.nm), .int .i64 te.n, .slice qk te.ar.length dk])) (((w2.setCell ⟨W.heap.size, 0, none⟩ (.string (S te.nm))).setCell ⟨W.heap.size, 1, none⟩ (.int .i64 te.n)).setCell ⟨W.heap.size, 2, none⟩ (.slice qk te.ar.length dk))) :=
    tq_cell (t := te) (w := W) (W := w2) (pk := qk) (ck := dk) (B := W.heap.size) (by omega) HB2.out (TyIn.keep (KP.refl _ _) (fun b hb => ⟨by have := hb.1; simp at this; omega, hb.2, by have := hb.1; simp at this; omega⟩) _ _ HIN2.out)
  generalize ((w2.setCell ⟨W.heap.size, 0, none⟩ (.string (S te.nm))).setCell ⟨W.heap.size, 1, none⟩ (.int .i64 te.n)).setCell ⟨W.heap.size, 2, none⟩ (.slice qk te.ar.length dk) = W3 at *
  exact bodyPost_ret (v := .agg #[.string (S te.nm), .int .i64 te.n, .slice qk te.ar.length dk]) (by simp only [results, Tryd.results37]; go_simp) rfl HTQ.out
theorem zip_at {l : List Int} {pre r : List Hl} {m : Int} {k : Nat} (hn : l.Nodup) (h : l.zipIdx = pre ++ (m, k) :: r) : k = pre.length ∧ m ∉ pre.map (·.1) ∧ (pre.map (·.1)).Nodup ∧ pre.length < l.length := by
  have h1 : l = pre.map (·.1) ++ m :: r.map (·.1) := by
    conv => lhs; rw [← zip_fst l, h]
    simp
  have h2 : l.zipIdx[pre.length]? = some (m, k) := by rw [h]; simp
  rw [List.getElem?_zipIdx] at h2
  have h3 : k = pre.length := by
    cases hx : l[pre.length]? with
    | none => rw [hx] at h2; cases h2
    | some y => rw [hx] at h2; simp at h2; exact h2.2.symm
  rw [h1, List.nodup_append] at hn
  refine ⟨h3, fun hm => hn.2.2 m hm m (by simp) rfl, hn.1, ?_⟩
  rw [h1]; simp
theorem chk_zero : TyIn (fun _ => False) default ⟨[], 0, []⟩ [.string ⟨#[]⟩, .int .i64 0, .slice none 0 0] := by
  rw [TyIn_iff]
  exact ⟨none, 0, rfl, by simp, by simp, ⟨by simp, by omega, fun _ => rfl⟩, .inl rfl⟩
theorem zero_in (P : Nat → Prop) (w : World) : TyIn P w ⟨[], 0, []⟩ [.string ⟨#[]⟩, .int .i64 0, .slice none 0 0] := by
  rw [TyIn_iff]
  exact ⟨none, 0, rfl, by simp, by simp, ⟨by simp, by omega, fun _ => rfl⟩, .inl rfl⟩
set_option maxHeartbeats 8000000 in
set_option maxRecDepth 100000 in
theorem canon_any (t : Ty) {P : Nat → Prop} {w : World} {pk : Option Addr} {ck : Nat} (hP : ∀ b, P b → b < w.heap.size) (hE : TyIn P w t [.string (S t.nm), .int .i64 t.n, .slice pk t.ar.length ck]) :
    Calls Tryd.prog 18 #[.agg (cs3 t pk ck)] w (TQ (if chk t then canon t else ⟨[], 0, []⟩) w) := by
  refine (callsIn_wide (n := 3)).1 ?_
  have hB0 : Below w.heap.size w ((w.alloc (.cells (cs3 t pk ck) 24)).alloc (.cells #[.string ⟨#[]⟩, .int .i64 0, .slice none 0 0] 24)) := ((Below.refl _ w).alloc (Nat.le_refl _) _).alloc (by simp) _
  have hW0 : Hold w.heap.size (cs3 t pk ck) 24 ((w.alloc (.cells (cs3 t pk ck) 24)).alloc (.cells #[.string ⟨#[]⟩, .int .i64 0, .slice none 0 0] 24)) := (Hold.new w _ 24).alloc _
  have hR0 : Hold (w.heap.size + 1) #[.string ⟨#[]⟩, .int .i64 0, .slice none 0 0] 24 ((w.alloc (.cells (cs3 t pk ck) 24)).alloc (.cells #[.string ⟨#[]⟩, .int .i64 0, .slice none 0 0] 24)) := by have := Hold.new (w.alloc (.cells (cs3 t pk ck) 24)) #[.string ⟨#[]⟩, .int .i64 0, .slice none 0 0] 24; simpa using this
  have hc := check_any t (P := P) (w := (w.alloc (.cells (cs3 t pk ck) 24)).alloc (.cells #[.string ⟨#[]⟩, .int .i64 0, .slice none 0 0] 24)) (pk := pk) (ck := ck) (fun b hb => by have := hP b hb; simp; omega) (TyIn.keep (KP.of_below hB0 hP) (fun b hb => hb) _ _ hE)
  have HC := hide hc
  have HB0 := hide hB0
  have HW0 := hide hW0
  have HR0 := hide hR0
  have HE := hide hE
  clear hc hB0 hW0 hR0 hE
  refine callsIn_of_wp_marks Tryd.func18 rfl trivial ?_ rfl
  simp only [Tryd.ntmps18, List.size_toArray, List.length_cons, List.length_nil, Nat.reduceAdd, Nat.reduceSub, Array.replicate_succ, Array.replicate_zero, List.push_toArray, List.append_toArray, List.nil_append, List.cons_append]
  cases hch : chk t
  · rw [hch] at HC
    unfold cs3 at *
    gi_wp2_with fail
    refine ⟨trivial, (callsIn_wide.2 HC.out).mono ?_⟩
    rintro r w1 ⟨rfl, hb1⟩
    have HB1 := hide (HB0.out.trans (hb1.mono HB0.out.size))
    have r1 := HR0.out.below hb1 HR0.out.lt
    have hf0 := r1.frozen 0
    have hf1 := r1.frozen 1
    have hf2 := r1.frozen 2
    have hr0 := r1.cell 0
    have hr1 := r1.cell 1
    have hr2 := r1.cell 2
    simp only [List.getElem?_toArray, List.getElem?_cons_succ, List.getElem?_cons_zero] at hr0 hr1 hr2
    have HR1 := hide r1
    clear hb1 r1
    gi_wp2_with fail
    have hro := hold3 HR1.out (.string ⟨#[]⟩) (.int .i64 0) (.slice none 0 0)
    have q0 := hro.cell 0
    have q1 := hro.cell 1
    have q2 := hro.cell 2
    simp only [List.getElem?_toArray, List.getElem?_cons_succ, List.getElem?_cons_zero] at q0 q1 q2
    refine ⟨.agg #[.string ⟨#[]⟩, .int .i64 0, .slice none 0 0], ?_, ?_⟩
    · simp [results, Tryd.f18, go_sem, q0, q1, q2]
    · exact tq_cell (t := ⟨[], 0, []⟩) (w := w) (W := w1) (pk := none) (ck := 0) (B := w.heap.size + 1) (by omega) HB1.out (zero_in _ _)
  · rw [hch] at HC
    have hh := fun W => holes_any t W pk ck
    have HH := hide hh
    clear hh
    unfold cs3 at *
    gi_wp2_with fail
    refine ⟨trivial, (callsIn_wide.2 HC.out).mono ?_⟩
    rintro r w1 ⟨rfl, hb1⟩
    have HB1 := hide (HB0.out.trans (hb1.mono HB0.out.size))
    have hW1 := HW0.out.below hb1 HW0.out.lt
    have r1 := HR0.out.below hb1 HR0.out.lt
    have hs1 : w.heap.size + 1 < w1.heap.size := r1.lt
    have hs0 : w.heap.size < w1.heap.size := hW1.lt
    have hmm := @run_makeMap Tryd.prog
    obtain ⟨V, hVe⟩ : ∃ V, V = (w1.alloc (.map #[] 0)).alloc (.cells #[.map (some w1.heap.size)] 56) := ⟨_, rfl⟩
    have hVB : Below w1.heap.size w1 V := by rw [hVe]; exact ((Below.refl _ w1).alloc (Nat.le_refl _) _).alloc (by simp) _
    have hVm : MapI V w1.heap.size (fun _ => none) := by rw [hVe]; exact (MapI.made w1).alloc _
    have hVc : Hold (w1.heap.size + 1) #[.map (some w1.heap.size)] 56 V := by rw [hVe]; have := Hold.new (w1.alloc (.map #[] 0)) #[.map (some w1.heap.size)] 56; rwa [World.size_alloc] at this
    have hVs : V.heap.size = w1.heap.size + 1 + 1 := by rw [hVe]; simp
    have hVW := hW1.below hVB hW1.lt
    have hVR := r1.below hVB r1.lt
    have c0 := hVW.cell 0; have c1 := hVW.cell 1; have c2 := hVW.cell 2
    simp only [List.getElem?_toArray, List.getElem?_cons_succ, List.getElem?_cons_zero] at c0 c1 c2
    have HVB := hide hVB; have HVM := hide hVm; have HVC := hide hVc; have HVS := hide hVs; have HVW := hide hVW; have HVR := hide hVR
    clear hb1 hW1 r1 hVB hVm hVc hVs hVW hVR
    subst hVe
    gi_wp2_with fail
    refine ⟨trivial, (callsIn_wide.2 (HH.out _)).mono ?_⟩
    rintro r w2 ⟨rfl, rfl⟩
    generalize (w1.alloc (.map #[] 0)).alloc (.cells #[.map (some w1.heap.size)] 56) = V at *
    gi_wp2_with fail
    have HX := hide (Hold.new V #[.string (S t.nm), .int .i64 t.n, .slice pk t.ar.length ck] 24)
    have HUM := hide (HVM.out.alloc (.cells #[.string (S t.nm), .int .i64 t.n, .slice pk t.ar.length ck] 24))
    have HUC := hide (HVC.out.alloc (.cells #[.string (S t.nm), .int .i64 t.n, .slice pk t.ar.length ck] 24))
    have HUW := hide (HVW.out.alloc (.cells #[.string (S t.nm), .int .i64 t.n, .slice pk t.ar.length ck] 24))
    have HUR := hide (HVR.out.alloc (.cells #[.string (S t.nm), .int .i64 t.n, .slice pk t.ar.length ck] 24))
    have HUB := hide ((HB1.out.trans (HVB.out.mono HB1.out.size)).alloc (by have := HVS.out; have := HB1.out.size; omega) (.cells #[.string (S t.nm), .int .i64 t.n, .slice pk t.ar.length ck] 24))
    have hUs : (V.alloc (.cells #[.string (S t.nm), .int .i64 t.n, .slice pk t.ar.length ck] 24)).heap.size = V.heap.size + 1 := by simp
    have HUS := hide hUs
    clear hUs c0 c1 c2
    generalize V.alloc (.cells #[.string (S t.nm), .int .i64 t.n, .slice pk t.ar.length ck] 24) = U at *
    have hnil := plF_nil
    rw [← hnil] at HUM
    have hlen : (hs t).length ≤ 2000 := Nat.le_trans (hs_len t) ((chk_iff t).1 hch).2.2
    have htsz : tsz t ≤ 1000000 := Nat.le_trans ((chk_iff t).1 hch).2.2 (by omega)
    refine range_t (n := 3) (by omega) (gf := 48) (lb := #[.pointer (some ⟨V.heap.size, 0, none⟩)]) rfl (enters_of Tryd.func48 (by kernel_rfl) rfl)
      (iter_any (n := 3 - 1) (P := P) (we := w) (t := t) (pk := pk) (ck := ck) (Kp := KpS w.heap.size w1.heap.size 3) hP HUB.out HE.out HX.out (fun B hB => KpS.ok hP (by have := HVS.out; have := HUS.out; omega) ⟨by decide, by decide, by decide⟩))
      KpS.trans (fun W l o o' hl h => KpS.put W l o o' (by have := HUB.out.size; omega) h) (fun _ => rfl)
      (fun pre W => MapI W w1.heap.size (plF (pre.map (·.1))) ∧ Hold (w1.heap.size + 1) #[.map (some w1.heap.size)] 56 W ∧ Hold w.heap.size #[.string (S t.nm), .int .i64 t.n, .slice pk t.ar.length ck] 24 W ∧ Hold (w.heap.size + 1) #[.string ⟨#[]⟩, .int .i64 0, .slice none 0 0] 24 W ∧ Below w.heap.size w W ∧ U.heap.size ≤ W.heap.size)
      (fun s A B row hs hg hr => ⟨mapI_ownB hs.1 (by have := HVS.out; have := HUS.out; omega) hg hr, hold_ownB hs.2.1 hg hr, hold_ownB hs.2.2.1 hg hr, hold_ownB hs.2.2.2.1 hg hr, below_ownB hs.2.2.2.2.1 (Nat.le_refl _) hg (by have := HUB.out.size; omega) hr, Nat.le_trans hs.2.2.2.2.2 hg.size⟩)
      ⟨HUM.out, HUC.out, HUW.out, HUR.out, HUB.out, Nat.le_refl _⟩
      (fun x W => { tmps := #[.agg #[.string (S t.nm), .int .i64 t.n, .slice pk t.ar.length ck], .pointer (some ⟨w.heap.size, 0, none⟩), .pointer (some ⟨w.heap.size + 1, 0, none⟩), .pointer (some ⟨w1.heap.size + 1, 0, none⟩), .int .i64 x.2, .int .i64 x.1, .agg #[.string (S t.nm), .int .i64 t.n, .slice pk t.ar.length ck], .bool true, .bool false, undef, .map (some w1.heap.size), .agg #[.string (S t.nm), .int .i64 t.n, .slice pk t.ar.length ck], .func (.func 48) #[] #[.pointer (some ⟨V.heap.size, 0, none⟩)], .int .i64 x.2, .int .i64 x.1, undef, undef, undef, undef, undef, undef], defers := [] })
      (fun x W => W) (fun x W hWs => ⟨⟨rfl, rfl, rfl, Nat.le_refl _, fun _ _ _ => rfl⟩, KpS.refl _ _ _ _⟩) ?_ ?_ ?_
    · intro ld x W K hK
      unfold encH
      gi_wp2
      exact hK
    · rintro ld pre ⟨m, k⟩ r W X hWs hXs hXb ⟨h1, h2, h3, h4, h5, h6⟩ hxs
      obtain ⟨rfl, hnm, hnd, hll⟩ := zip_at (hs_nodup t) hxs
      have b0 := h2.cell 0
      simp only [List.getElem?_toArray, List.getElem?_cons_succ, List.getElem?_cons_zero] at b0
      have H1 := hide h1
      have H2 := hide h2; have H3 := hide h3; have H4 := hide h4; have H5 := hide h5
      clear h1 h2 h3 h4 h5 hXs hXb hnil
      dsimp only
      gi_wp2_with (first
        | (gi_at_mapUpdate; refine wpListIn_store _ rfl _ _ _ 56 rfl 3 3 Tryd.underlying56 Tryd.underlying3 w1.heap.size (plF (pre.map (·.1))) rfl H1.out m (.int .i64 (pre.length : Int)) rfl rfl ?_; intro w3 hm3 hst3; go_frame)
        | gi_in)
      have hkp := Stored.kp hst3
      have hne := H1.out.ne H2.out
      have hVs2 : w1.heap.size < U.heap.size := by have := HVS.out; have := HUS.out; omega
      refine ⟨KeepsFrom.of_grownBy hst3.1 (fun j hj => by cases hj; exact hVs2), KpS.stored hst3 (by have := HB1.out.size; omega), ?_, ?_, ?_, ?_, ?_, ?_⟩
      · rw [show (pre.length : Int) = ((pre.map (·.1)).length : Int) by simp, plF_new _ _ hnm] at hm3
        rw [List.map_append]
        exact hm3
      · exact H2.out.stored hst3 hne
      · exact H3.out.stored hst3 (by omega)
      · exact H4.out.stored hst3 (by omega)
      · exact H5.out.trans (hkp.below fun x hx => ⟨by have := H5.out.size; omega, by have := HB1.out.size; omega⟩)
      · have := hst3.2; omega
    · rintro W ⟨h1, h2, h3, h4, h5, h6⟩ hd
      rw [zip_fst] at h1
      have c0 := h3.cell 0; have c1 := h3.cell 1; have c2 := h3.cell 2
      simp only [List.getElem?_toArray, List.getElem?_cons_succ, List.getElem?_cons_zero] at c0 c1 c2
      have hcall := filled_any (fun n => hole (plc (hs t) n)) t (P := P) (w := W) (pk := pk) (ck := ck) (fv := .func (.func 37) #[] #[.pointer (some ⟨w1.heap.size + 1, 0, none⟩)]) (fun b hb => by have := hP b hb; have := h5.size; omega) (TyIn.keep (KP.of_below h5 hP) (fun b hb => hb) _ _ HE.out) htsz (fun n hn W' hW' => .inr (.inl ⟨_, rfl, canon1_any (h2.below hW' h2.lt) (h1.below hW' h1.lt) ((hs_mem t n).2 hn) (by omega)⟩))
      have HCALL := hide hcall
      unfold cs3 at HCALL
      have H4 := hide h4; have H5 := hide h5; have HD := hide hd
      have hUW : V.heap.size + 1 < W.heap.size := by
        have := HUS.out
        have := (Array.getElem?_eq_some_iff.1 hd).1
        omega
      clear hcall h1 h2 h3 h4 h5 hd
      dsimp only
      gi_wp2_with fail
      refine ⟨trivial, (callsIn_wide.2 HCALL.out).mono ?_⟩
      rintro r w2 ⟨qk, dk, rfl, hb2, hin2⟩
      have hte : sub (fun n => hole (plc (hs t) n)) t = canon t := rfl
      rw [hte] at hin2 ⊢
      generalize canon t = te at *
      have r2 := H4.out.below hb2 H4.out.lt
      have hf0 := r2.frozen 0
      have hf1 := r2.frozen 1
      have hf2 := r2.frozen 2
      have hr0 := r2.cell 0
      have hr1 := r2.cell 1
      have hr2 := r2.cell 2
      simp only [List.getElem?_toArray, List.getElem?_cons_succ, List.getElem?_cons_zero] at hr0 hr1 hr2
      have HB2 := hide (H5.out.trans (hb2.mono H5.out.size))
      have HBB := hide hb2
      have HIN2 := hide hin2
      have HR2 := hide r2
      have hd2 : w2.heap[U.heap.size]? = some (.deferred (some [])) := (hb2.block _ (Array.getElem?_eq_some_iff.1 HD.out).1).trans HD.out
      have HD2 := hide hd2
      clear hb2 hin2 r2 hte hd2
      unfold cs3
      gi_wp2_with fail
      have hro := hold3 HR2.out (.string (S te.nm)) (.int .i64 te.n) (.slice qk te.ar.length dk)
      have q0 := hro.cell 0
      have q1 := hro.cell 1
      have q2 := hro.cell 2
      simp only [List.getElem?_toArray, List.getElem?_cons_succ, List.getElem?_cons_zero] at q0 q1 q2
      have k3 := kp3 w2 (w.heap.size + 1) (.string (S te.nm)) (.int .i64 te.n) (.slice qk te.ar.length dk)
      have hs3 := size3 w2 (w.heap.size + 1) (.string (S te.nm)) (.int .i64 te.n) (.slice qk te.ar.length dk)
      have hB5 := HUB.out.size
      have hVS := HVS.out
      have hUS := HUS.out
      have hBB := HBB.out.size
      generalize ((w2.setCell ⟨w.heap.size + 1, 0, none⟩ (.string (S te.nm))).setCell ⟨w.heap.size + 1, 1, none⟩ (.int .i64 te.n)).setCell ⟨w.heap.size + 1, 2, none⟩ (.slice qk te.ar.length dk) = W3 at *
      have hd3 : W3.heap[U.heap.size]? = some (.deferred (some [])) := (k3.block _ (by omega)).trans HD2.out
      refine ⟨by simp, .inl ⟨_, _, rfl, run_takeDeferred hd3, ?_⟩⟩
      have kp : KP (fun b => b ≠ w.heap.size + 1 ∧ b ≠ U.heap.size) w2 (W3.putObj U.heap.size (.deferred none)) :=
        (k3.mono fun x hx => hx.1).trans ⟨rfl, rfl, rfl, by simp [World.putObj], fun b hb => World.putObj_heap_other hb.2⟩
      have hro' : Hold (w.heap.size + 1) #[.string (S te.nm), .int .i64 te.n, .slice qk te.ar.length dk] 24 (W3.putObj U.heap.size (.deferred none)) := (World.putObj_heap_other (by omega)).trans hro
      have z0 := hro'.cell 0
      have z1 := hro'.cell 1
      have z2 := hro'.cell 2
      simp only [List.getElem?_toArray, List.getElem?_cons_succ, List.getElem?_cons_zero] at z0 z1 z2
      refine ⟨.agg #[.string (S te.nm), .int .i64 te.n, .slice qk te.ar.length dk], ?_, ?_⟩
      · simp [results, Tryd.f18, go_sem, z0, z1, z2]
      · refine ⟨qk, dk, rfl, HB2.out.trans (kp.below fun x hx => ⟨by omega, by omega⟩), TyIn.keep (kp.mono fun b hb => ?_) (fun b hb => ?_) _ _ HIN2.out⟩
        · have := hb.1; have := hUW; exact ⟨by omega, by omega⟩
        · have := hb.1; have := kp.size; exact ⟨by omega, by have := hb.2; omega⟩
end Go.Proofs.YteoflpalmckikaaDoor
