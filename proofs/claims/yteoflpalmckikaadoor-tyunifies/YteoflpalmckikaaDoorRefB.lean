/-
  THE WALKS OF dawdlerref08's sound AND Check.
-/
import Derived.Test.YteoflpalmckikaaDoorChk
namespace Go.Proofs.YteoflpalmckikaaDoor
open Go.RowKit
set_option linter.unusedVariables false
set_option linter.unusedSimpArgs false
/-- Sound, at most so deep. -/
def soB (e : Ty) (m : Nat) : Bool := allT ok1 e && dpB e m
theorem soB_zero (e : Ty) : soB e 0 = false := by unfold soB; rw [dpB_zero]; simp
theorem soB_succ (e : Ty) (m : Nat) : soB e (m + 1) = (ok1 e && e.ar.all fun k => soB k m) := by
  unfold soB
  rw [allT_eq, dpB_succ, Bool.eq_iff_iff]
  simp only [Bool.and_eq_true, List.all_eq_true]
  constructor
  · rintro ⟨⟨h1, h2⟩, h3⟩
    exact ⟨h1, fun k hk => ⟨h2 k hk, h3 k hk⟩⟩
  · rintro ⟨h1, h2⟩
    exact ⟨⟨h1, fun k hk => (h2 k hk).1⟩, fun k hk => (h2 k hk).2⟩
set_option maxHeartbeats 4000000 in
set_option maxRecDepth 100000 in
theorem rsound_any (e : Ty) : ∀ {P : Nat → Prop} {w : World} {pk : Option Addr} {ck m : Nat}, (∀ b, P b → b < w.heap.size) → TyIn P w e [.string (S e.nm), .int .i64 e.n, .slice pk e.ar.length ck] → m ≤ 1000000 →
    Calls Tryd.prog 35 #[.agg (cs3 e pk ck), .int .i64 m] w fun r w' => r = .returned (.bool (soB e m)) ∧ Below w.heap.size w w' := by
  induction e using Ty.ind with
  | _ e ih =>
    intro P w pk ck m hP hE hm
    have hkl := hE.len
    obtain ⟨hnl, hn1, hn2⟩ := hE.bds
    have hsz := S_size e.nm
    have hI := fun W => rhole_any e W pk ck
    have hO1 := ok1_f e
    have hO2 := ok1_t e
    have hem : e.ar.isEmpty = decide (e.ar.length = 0) := by cases e.ar <;> simp
    have HI := hide hI
    have HIH := hide ih
    have HE := hide hE
    have hB0 : Below w.heap.size w (w.alloc (.cells (cs3 e pk ck) 24)) := (Below.refl _ w).alloc (Nat.le_refl _) _
    have hW : Hold w.heap.size (cs3 e pk ck) 24 (w.alloc (.cells (cs3 e pk ck) 24)) := Hold.new w _ 24
    have HW0 := hide hW
    have HB0 := hide hB0
    clear ih hE hB0 hW hI
    unfold cs3 at *
    cases m with
    | zero =>
      have HR := hide (soB_zero e)
      go_enter Tryd.func35, Tryd.ntmps35
      go_wp2_with fail
      go_ret
      exact ⟨by rw [HR.out]; rfl, HB0.out⟩
    | succ m =>
      have HR := hide (soB_succ e m)
      generalize hbb : soB e (m + 1) = bb at *
      have hmi : ¬ ((m : Int) + 1 ≤ 0) := by omega
      have hmc : (((m + 1 : Nat)) : Int) = (m : Int) + 1 := by omega
      rw [hmc]
      clear hbb hmc
      have k0 := HW0.out.cell 0
      have k1 := HW0.out.cell 1
      have k2 := HW0.out.cell 2
      simp only [List.getElem?_toArray, List.getElem?_cons_succ, List.getElem?_cons_zero] at k0 k1 k2
      cases hh : e.nm.isEmpty
      · have HO := hide (hO1 hh)
        clear hO1 hO2 hem
        rw [hh] at HI
        rw [← hsz] at HO
        clear hh
        generalize hnk : e.ar.length = nk at *
        generalize hsn : S e.nm = sn at *
        have HNK := hide hnk; have HSN := hide hsn
        clear hnk hsn
        by_cases h1 : sn.size ≤ 20
        · have h1i : ¬ (20 : Int) < sn.size := by omega
          rw [decide_eq_true h1] at HO
          clear h1 hsz hnl
          by_cases h2 : e.n = 0
          · rw [decide_eq_true h2] at HO
            have h3 : (e.n != 0) = false := by simpa using h2
            clear h2
            go_enter Tryd.func35, Tryd.ntmps35
            go_wp2_with fail
            refine (HI.out _).mono ?_
            rintro r w1 ⟨rfl, hb⟩
            have HW1 := hide (HW0.out.below hb HW0.out.lt)
            have HB1 := hide (HB0.out.trans (hb.mono HB0.out.size))
            clear hb
            clear k0 k1 k2
            have k0 := HW1.out.cell 0
            have k1 := HW1.out.cell 1
            have k2 := HW1.out.cell 2
            simp only [List.getElem?_toArray, List.getElem?_cons_succ, List.getElem?_cons_zero] at k0 k1 k2
            go_wp2_with fail
            refine (HI.out _).mono ?_
            rintro r w2 ⟨rfl, hb⟩
            have HW2 := hide (HW1.out.below hb HW1.out.lt)
            have HB2 := hide (HB1.out.trans (hb.mono HB1.out.size))
            clear hb
            clear k0 k1 k2
            have k0 := HW2.out.cell 0
            have k1 := HW2.out.cell 1
            have k2 := HW2.out.cell 2
            simp only [List.getElem?_toArray, List.getElem?_cons_succ, List.getElem?_cons_zero] at k0 k1 k2
            go_wp2_with fail
            go_loopg [5, 6] nk (fun k s5 s6 wr => ∃ i : Nat, i ≤ nk ∧ k = nk - i ∧ s5 = .int .i64 i ∧ (e.ar.take i).all (fun k => soB k m) = true ∧ Below w2.heap.size w2 wr)
            case atStart => exact ⟨0, Nat.zero_le _, by omega, rfl, by simp, Below.refl _ _⟩
            case round =>
              obtain ⟨i, hi1, rfl, rfl, hal, hbr⟩ := hrel
              have hb5 := (HW2.out.below hbr HW2.out.lt)
              have c2 := hb5.cell 2
              simp only [List.getElem?_toArray, List.getElem?_cons_succ, List.getElem?_cons_zero] at c2
              have HBR := hide hbr
              have HAL := hide hal
              have hbw : Below w.heap.size w wr := HB2.out.trans (hbr.mono HB2.out.size)
              clear k0 k1 k2
              by_cases hlt : i < nk
              · have hil : i < e.ar.length := by rw [HNK.out]; exact hlt
                have hst := all_take (fun k => soB k m) hil
                have hbad := all_bad (fun k => soB k m) e.ar i hil
                obtain ⟨b, o, qk, dk, hpk, hPb, hIn, a0, a1, a2⟩ := kid_at (e := e) (ck := ck) (pk := pk) (by rw [HNK.out, HSN.out]; exact HE.out) hil
                have hcall := HIH.out e.ar[i] (by simp) (w := wr) (m := m) (fun b hb => Nat.lt_of_lt_of_le (hP b hb) hbw.size) (TyIn.keep (KP.of_below hbw hP) (fun b hb => hb) _ _ hIn) (by omega)
                have hcc : ∀ x, wr.cell? ⟨b, x, none⟩ = w.cell? ⟨b, x, none⟩ := fun x => hbw.cell (p := ⟨b, x, none⟩) (hP b hPb)
                rw [← hcc] at a0 a1 a2
                subst hpk
                generalize e.ar[i] = k at *
                have HC := hide hcall
                have HST := hide hst
                have HBAD := hide hbad
                have hii : (i : Int) < nk := by omega
                clear hcall hst hcc hbr hbw hIn hb5 hal hbad
                cases hok : soB k m
                · rw [hok] at HC
                  go_wp2_with fail
                  refine HC.out.mono ?_
                  rintro r w1 ⟨rfl, hb1⟩
                  have HB1 := hide hb1
                  clear hb1
                  go_wp2_with fail
                  go_ret
                  exact ⟨by rw [HR.out, HBAD.out hok]; simp, HB2.out.trans ((HBR.out.trans (HB1.out.mono HBR.out.size)).mono HB2.out.size)⟩
                · rw [hok] at HC
                  go_wp2_with fail
                  refine HC.out.mono ?_
                  rintro r w1 ⟨rfl, hb1⟩
                  have HB1 := hide hb1
                  clear hb1
                  go_wp2_with fail
                  go_roundg (nk - (i + 1))
                  case measure => omega
                  case rel =>
                    refine ⟨i + 1, by omega, rfl, by go_num, ?_, HBR.out.trans (HB1.out.mono HBR.out.size)⟩
                    rw [HST.out, HAL.out, hok]; rfl
              · have h1 : e.ar.take i = e.ar := List.take_of_length_le (by rw [HNK.out]; omega)
                rw [h1] at hal HAL
                have hii : ¬ (i : Int) < nk := by omega
                clear hbr hbw hb5 h1 hal
                go_wp2_with fail
                go_ret
                exact ⟨by rw [HR.out, HO.out, HAL.out]; rfl, HB2.out.trans (HBR.out.mono HB2.out.size)⟩
          · rw [decide_eq_false h2] at HO
            have h3 : (e.n != 0) = true := by simpa using h2
            clear h2
            go_enter Tryd.func35, Tryd.ntmps35
            go_wp2_with fail
            refine (HI.out _).mono ?_
            rintro r w1 ⟨rfl, hb⟩
            have HW1 := hide (HW0.out.below hb HW0.out.lt)
            have HB1 := hide (HB0.out.trans (hb.mono HB0.out.size))
            clear hb
            clear k0 k1 k2
            have k0 := HW1.out.cell 0
            have k1 := HW1.out.cell 1
            have k2 := HW1.out.cell 2
            simp only [List.getElem?_toArray, List.getElem?_cons_succ, List.getElem?_cons_zero] at k0 k1 k2
            go_wp2_with fail
            refine (HI.out _).mono ?_
            rintro r w2 ⟨rfl, hb⟩
            have HW2 := hide (HW1.out.below hb HW1.out.lt)
            have HB2 := hide (HB1.out.trans (hb.mono HB1.out.size))
            clear hb
            clear k0 k1 k2
            have k0 := HW2.out.cell 0
            have k1 := HW2.out.cell 1
            have k2 := HW2.out.cell 2
            simp only [List.getElem?_toArray, List.getElem?_cons_succ, List.getElem?_cons_zero] at k0 k1 k2
            go_wp2_with fail
            go_ret
            exact ⟨by rw [HR.out, HO.out]; rfl, HB2.out⟩
        · have h1i : (20 : Int) < sn.size := by omega
          rw [decide_eq_false h1] at HO
          rw [← hsz] at hnl
          clear h1 hsz
          go_enter Tryd.func35, Tryd.ntmps35
          go_wp2_with fail
          go_ret
          exact ⟨by rw [HR.out, HO.out]; rfl, HB0.out⟩
      · have hnm : e.nm.length = 0 := by
          cases he : e.nm with
          | nil => rfl
          | cons a r => rw [he] at hh; cases hh
        have HO := hide (hO2 hh)
        rw [hem] at HO
        clear hO1 hO2 hem
        rw [hh] at HI
        clear hh
        generalize hnk : e.ar.length = nk at *
        generalize hsn : S e.nm = sn at *
        have HNK := hide hnk; have HSN := hide hsn
        clear hnk hsn
        have h1i : ¬ (20 : Int) < sn.size := by omega
        clear hsz hnl hnm
        by_cases h2 : 0 ≤ e.n
        · rw [decide_eq_true h2] at HO
          have h3 : ¬ e.n < 0 := by omega
          by_cases h4 : nk = 0
          · subst h4
            rw [decide_eq_true rfl] at HO
            have har : e.ar = [] := List.length_eq_zero_iff.1 HNK.out
            have HAR := hide har
            clear h2 har
            go_enter Tryd.func35, Tryd.ntmps35
            go_wp2_with fail
            refine (HI.out _).mono ?_
            rintro r w1 ⟨rfl, hb⟩
            have HW1 := hide (HW0.out.below hb HW0.out.lt)
            have HB1 := hide (HB0.out.trans (hb.mono HB0.out.size))
            clear hb
            clear k0 k1 k2
            have k0 := HW1.out.cell 0
            have k1 := HW1.out.cell 1
            have k2 := HW1.out.cell 2
            simp only [List.getElem?_toArray, List.getElem?_cons_succ, List.getElem?_cons_zero] at k0 k1 k2
            go_wp2_with fail
            refine (HI.out _).mono ?_
            rintro r w2 ⟨rfl, hb⟩
            have HW2 := hide (HW1.out.below hb HW1.out.lt)
            have HB2 := hide (HB1.out.trans (hb.mono HB1.out.size))
            clear hb
            clear k0 k1 k2
            have k0 := HW2.out.cell 0
            have k1 := HW2.out.cell 1
            have k2 := HW2.out.cell 2
            simp only [List.getElem?_toArray, List.getElem?_cons_succ, List.getElem?_cons_zero] at k0 k1 k2
            go_wp2_with fail
            go_loopg [5, 6] 0 (fun k s5 s6 wr => k = 0 ∧ s5 = .int .i64 0 ∧ Below w2.heap.size w2 wr)
            case atStart => exact ⟨rfl, rfl, Below.refl _ _⟩
            case round =>
              obtain ⟨rfl, rfl, hbr⟩ := hrel
              have hb5 := (HW2.out.below hbr HW2.out.lt)
              have c2 := hb5.cell 2
              simp only [List.getElem?_toArray, List.getElem?_cons_succ, List.getElem?_cons_zero] at c2
              have HBR := hide hbr
              clear k0 k1 k2 hbr hb5
              go_wp2_with fail
              go_ret
              exact ⟨by rw [HR.out, HO.out, HAR.out]; rfl, HB2.out.trans (HBR.out.mono HB2.out.size)⟩
          · rw [decide_eq_false h4] at HO
            have h5 : (0 : Int) < nk := by omega
            clear h2 h4
            go_enter Tryd.func35, Tryd.ntmps35
            go_wp2_with fail
            refine (HI.out _).mono ?_
            rintro r w1 ⟨rfl, hb⟩
            have HW1 := hide (HW0.out.below hb HW0.out.lt)
            have HB1 := hide (HB0.out.trans (hb.mono HB0.out.size))
            clear hb
            clear k0 k1 k2
            have k0 := HW1.out.cell 0
            have k1 := HW1.out.cell 1
            have k2 := HW1.out.cell 2
            simp only [List.getElem?_toArray, List.getElem?_cons_succ, List.getElem?_cons_zero] at k0 k1 k2
            go_wp2_with fail
            go_ret
            exact ⟨by rw [HR.out, HO.out]; rfl, HB1.out⟩
        · rw [decide_eq_false h2] at HO
          have h3 : e.n < 0 := by omega
          clear h2
          go_enter Tryd.func35, Tryd.ntmps35
          go_wp2_with fail
          refine (HI.out _).mono ?_
          rintro r w1 ⟨rfl, hb⟩
          have HW1 := hide (HW0.out.below hb HW0.out.lt)
          have HB1 := hide (HB0.out.trans (hb.mono HB0.out.size))
          clear hb
          clear k0 k1 k2
          have k0 := HW1.out.cell 0
          have k1 := HW1.out.cell 1
          have k2 := HW1.out.cell 2
          simp only [List.getElem?_toArray, List.getElem?_cons_succ, List.getElem?_cons_zero] at k0 k1 k2
          go_wp2_with fail
          go_ret
          exact ⟨by rw [HR.out, HO.out]; rfl, HB1.out⟩
theorem chk_soB (e : Ty) : chk e = (decide (tsz e ≤ 2000) && soB e 60) := by
  unfold chk soB dpB
  cases allT ok1 e <;> cases decide (tdp e ≤ 60) <;> cases decide (tsz e ≤ 2000) <;> rfl
set_option maxHeartbeats 2000000 in
set_option maxRecDepth 100000 in
theorem rcheck_any (e : Ty) {P : Nat → Prop} {w : World} {pk : Option Addr} {ck : Nat} (hP : ∀ b, P b → b < w.heap.size) (hE : TyIn P w e [.string (S e.nm), .int .i64 e.n, .slice pk e.ar.length ck]) :
    Calls Tryd.prog 16 #[.agg (cs3 e pk ck)] w fun r w' => r = .returned (.bool (chk e)) ∧ Below w.heap.size w w' := by
  have hB0 : Below w.heap.size w (w.alloc (.cells (cs3 e pk ck) 24)) := (Below.refl _ w).alloc (Nat.le_refl _) _
  have hW : Hold w.heap.size (cs3 e pk ck) 24 (w.alloc (.cells (cs3 e pk ck) 24)) := Hold.new w _ 24
  have HW0 := hide hW
  have HB0 := hide hB0
  have HP := hide (fun W (hb : Below w.heap.size w W) => rparts_any e (P := P) (w := W) (pk := pk) (ck := ck) (m := 2000) (fun b h => Nat.lt_of_lt_of_le (hP b h) hb.size) (TyIn.keep (KP.of_below hb hP) (fun b h => h) _ _ hE) (by omega))
  have HS := hide (fun W (hb : Below w.heap.size w W) => rsound_any e (P := P) (w := W) (pk := pk) (ck := ck) (m := 60) (fun b h => Nat.lt_of_lt_of_le (hP b h) hb.size) (TyIn.keep (KP.of_below hb hP) (fun b h => h) _ _ hE) (by omega))
  have HR := hide (chk_soB e)
  clear hE hB0 hW
  unfold cs3 at *
  generalize chk e = bb at *
  have hmin : ((min (tsz e) (2000 + 1) : Nat) : Int) ≤ 2000 ↔ tsz e ≤ 2000 := by omega
  generalize min (tsz e) (2000 + 1) = mn at *
  by_cases h1 : tsz e ≤ 2000
  · rw [decide_eq_true h1] at HR
    have h2 := hmin.2 h1
    clear h1 hmin
    go_enter Tryd.func16, Tryd.ntmps16
    go_wp2_with fail
    refine (HP.out _ HB0.out).mono ?_
    rintro r w1 ⟨rfl, hb⟩
    have HW1 := hide (HW0.out.below hb HW0.out.lt)
    have HB1 := hide (HB0.out.trans (hb.mono HB0.out.size))
    clear hb
    have k0 := HW1.out.cell 0
    have k1 := HW1.out.cell 1
    have k2 := HW1.out.cell 2
    simp only [List.getElem?_toArray, List.getElem?_cons_succ, List.getElem?_cons_zero] at k0 k1 k2
    go_wp2_with fail
    refine (HS.out _ HB1.out).mono ?_
    rintro r w2 ⟨rfl, hb⟩
    have HB2 := hide (HB1.out.trans (hb.mono HB1.out.size))
    clear hb
    go_wp2_with fail
    go_ret
    exact ⟨by rw [HR.out]; rfl, HB2.out⟩
  · rw [decide_eq_false h1] at HR
    have h2 : ¬ (mn : Int) ≤ 2000 := fun h => h1 (hmin.1 h)
    clear h1 hmin
    go_enter Tryd.func16, Tryd.ntmps16
    go_wp2_with fail
    refine (HP.out _ HB0.out).mono ?_
    rintro r w1 ⟨rfl, hb⟩
    have HB1 := hide (HB0.out.trans (hb.mono HB0.out.size))
    clear hb
    go_wp2_with fail
    go_ret
    exact ⟨by rw [HR.out]; rfl, HB1.out⟩
end Go.Proofs.YteoflpalmckikaaDoor
