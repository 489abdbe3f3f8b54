/-
  THE WALKS OF dawdlerref08's parts, deep, short AND Few.
-/
import Derived.Test.YteoflpalmckikaaDoorBase
namespace Go.Proofs.YteoflpalmckikaaDoor
open Go.RowKit
set_option linter.unusedVariables false
set_option linter.unusedSimpArgs false
set_option maxHeartbeats 2000000 in
set_option maxRecDepth 100000 in
theorem rparts_any (e : Ty) : ∀ {P : Nat → Prop} {w : World} {pk : Option Addr} {ck m : Nat}, (∀ b, P b → b < w.heap.size) → TyIn P w e [.string (S e.nm), .int .i64 e.n, .slice pk e.ar.length ck] → m ≤ 1000000 →
    Calls Tryd.prog 29 #[.agg (cs3 e pk ck), .int .i64 m] w fun r w' => r = .returned (.int .i64 ((min (tsz e) (m + 1) : Nat) : Int)) ∧ Below w.heap.size w w' := by
  induction e using Ty.ind with
  | _ e ih =>
    intro P w pk ck m hP hE hm
    have hkl := hE.len
    have HT := hide (tsz_eq e)
    have HIH := hide ih
    have HE := hide hE
    have hB0 : Below w.heap.size w (w.alloc (.cells (cs3 e pk ck) 24)) := (Below.refl _ w).alloc (Nat.le_refl _) _
    have hW : Hold w.heap.size (cs3 e pk ck) 24 (w.alloc (.cells (cs3 e pk ck) 24)) := Hold.new w _ 24
    have HW := hide hW
    have HB0 := hide hB0
    clear ih hE hB0 hW
    unfold cs3 at *
    generalize hnk : e.ar.length = nk at *
    have HNK := hide hnk
    clear hnk
    go_enter Tryd.func29, Tryd.ntmps29
    go_wp2_with fail
    go_loopg [5, 6] nk (fun k s5 s6 wr => ∃ i : Nat, i ≤ nk ∧ k = nk - i ∧ s6 = .int .i64 i ∧ s5 = .int .i64 ((min (1 + ((e.ar.take i).map tsz).sum) (m + 1) : Nat) : Int) ∧ Below (w.heap.size + 1) (w.alloc (.cells #[.string (S e.nm), .int .i64 e.n, .slice pk nk ck] 24)) wr)
    case atStart => exact ⟨0, Nat.zero_le _, by omega, rfl, by simp, Below.refl _ _⟩
    case round =>
      obtain ⟨i, hi1, rfl, rfl, rfl, hbr⟩ := hrel
      have hb5 := (HW.out.below hbr (Nat.lt_succ_self _))
      have c2 := hb5.cell 2
      simp only [List.getElem?_toArray, List.getElem?_cons_succ, List.getElem?_cons_zero] at c2
      have HBR := hide hbr
      have hbw : Below w.heap.size w wr := HB0.out.trans (hbr.mono (by omega))
      have hfin : 1 + ((e.ar.take i).map tsz).sum ≤ tsz e := by have := sum_take_le tsz e.ar i; have := HT.out; omega
      have HFIN := hide hfin
      by_cases hgo : i < nk ∧ 1 + ((e.ar.take i).map tsz).sum ≤ m
      · obtain ⟨hlt, hle⟩ := hgo
        have hil : i < e.ar.length := by rw [HNK.out]; exact hlt
        have hst := sum_take tsz hil
        obtain ⟨b, o, qk, dk, hpk, hPb, hIn, a0, a1, a2⟩ := kid_at (e := e) (ck := ck) (pk := pk) (by rw [HNK.out]; exact HE.out) hil
        have hcall := HIH.out e.ar[i] (by simp) (w := wr) (m := m - (1 + ((e.ar.take i).map tsz).sum)) (fun b hb => Nat.lt_of_lt_of_le (hP b hb) hbw.size) (TyIn.keep (KP.of_below hbw hP) (fun b hb => hb) _ _ hIn) (by omega)
        have hcc : ∀ x, wr.cell? ⟨b, x, none⟩ = w.cell? ⟨b, x, none⟩ := fun x => hbw.cell (p := ⟨b, x, none⟩) (hP b hPb)
        rw [← hcc] at a0 a1 a2
        have hmn : min (1 + ((e.ar.take i).map tsz).sum) (m + 1) = 1 + ((e.ar.take i).map tsz).sum := by omega
        rw [hmn]
        subst hpk
        generalize e.ar[i] = k at *
        generalize hsg : ((e.ar.take i).map tsz).sum = sg at *
        have hcast : ((m - (1 + sg) : Nat) : Int) = (m : Int) - (1 + sg) := by omega
        rw [hcast] at hcall
        have HC := hide hcall
        have HST := hide hst
        have hii : (i : Int) < nk := by omega
        have hlei : (1 + (sg : Int)) ≤ m := by omega
        generalize hrr : min (tsz k) (m - (1 + sg) + 1) = rr at *
        have HRR := hide hrr
        have hrb : rr ≤ m + 1 := by omega
        clear hcall hst hcc hbr hbw hIn hfin hb5 hsg hcast hmn hrr
        go_wp2_with fail
        refine HC.out.mono ?_
        rintro r w1 ⟨rfl, hb1⟩
        have HB1 := hide hb1
        clear hb1
        go_wp2_with fail
        go_roundg (nk - (i + 1))
        case measure => omega
        case rel =>
          refine ⟨i + 1, by omega, rfl, by go_num, ?_, HBR.out.trans (HB1.out.mono (by have := HBR.out.size; simpa using this))⟩
          have h1 := HST.out
          have h2 := HRR.out
          congr 1
          rw [h1]
          omega
      · have hres : min (1 + ((e.ar.take i).map tsz).sum) (m + 1) = min (tsz e) (m + 1) := by
          by_cases hlt : i < nk
          · have : ¬ 1 + ((e.ar.take i).map tsz).sum ≤ m := fun h => hgo ⟨hlt, h⟩
            omega
          · have h1 : e.ar.take i = e.ar := List.take_of_length_le (by rw [HNK.out]; omega)
            rw [h1, ← HT.out]
        have HRES := hide hres
        rw [hres]
        have hgo2 : ¬ (i : Int) < nk ∨ ((i : Int) < nk ∧ ¬ ((min (tsz e) (m + 1) : Nat) : Int) ≤ m) := by
          by_cases hlt : i < nk
          · right
            have : ¬ 1 + ((e.ar.take i).map tsz).sum ≤ m := fun h => hgo ⟨hlt, h⟩
            refine ⟨by omega, ?_⟩
            omega
          · left; omega
        generalize hmn : min (tsz e) (m + 1) = mn at *
        have hmm : mn ≤ m + 1 := by omega
        have HMN := hide hmn
        clear hbr hbw hfin hb5 hgo hres hmn
        rcases hgo2 with h1 | ⟨h1, h2⟩
        · go_wp2_with fail
          go_ret
          exact ⟨by rw [HMN.out]; rfl, HB0.out.trans (HBR.out.mono (by omega))⟩
        · go_wp2_with fail
          go_ret
          exact ⟨by rw [HMN.out]; rfl, HB0.out.trans (HBR.out.mono (by omega))⟩
/-- Are all of a list's, and the rest? -/
theorem all_bad {α : Type} (p : α → Bool) (l : List α) (i : Nat) (h : i < l.length) (hb : p l[i] = false) : l.all p = false := by
  rw [List.all_eq_false]; exact ⟨l[i], List.getElem_mem h, by simp [hb]⟩
/-- At most so deep. -/
def dpB (e : Ty) (m : Nat) : Bool := decide (tdp e ≤ m)
theorem dpB_zero (e : Ty) : dpB e 0 = false := by unfold dpB; have := tdp_pos e; simp; omega
theorem dpB_succ (e : Ty) (m : Nat) : dpB e (m + 1) = e.ar.all fun k => dpB k m := by
  unfold dpB
  rw [Bool.eq_iff_iff]
  simp [tdp_le]
def shB (e : Ty) : Bool := allT (fun t => decide (t.nm.length ≤ 50)) e
set_option maxHeartbeats 2000000 in
set_option maxRecDepth 100000 in
theorem rdeep_any (e : Ty) : ∀ {P : Nat → Prop} {w : World} {pk : Option Addr} {ck m : Nat}, (∀ b, P b → b < w.heap.size) → TyIn P w e [.string (S e.nm), .int .i64 e.n, .slice pk e.ar.length ck] → m ≤ 1000000 →
    Calls Tryd.prog 30 #[.agg (cs3 e pk ck), .int .i64 m] w fun r w' => r = .returned (.bool (dpB e m)) ∧ Below w.heap.size w w' := by
  induction e using Ty.ind with
  | _ e ih =>
    intro P w pk ck m hP hE hm
    have hkl := hE.len
    have HIH := hide ih
    have HE := hide hE
    have hB0 : Below w.heap.size w (w.alloc (.cells (cs3 e pk ck) 24)) := (Below.refl _ w).alloc (Nat.le_refl _) _
    have hW : Hold w.heap.size (cs3 e pk ck) 24 (w.alloc (.cells (cs3 e pk ck) 24)) := Hold.new w _ 24
    have HW := hide hW
    have HB0 := hide hB0
    clear ih hE hB0 hW
    unfold cs3 at *
    generalize hnk : e.ar.length = nk at *
    have HNK := hide hnk
    clear hnk
    cases m with
    | zero =>
      have HR := hide (dpB_zero e)
      go_enter Tryd.func30, Tryd.ntmps30
      go_wp2_with fail
      go_ret
      exact ⟨by rw [HR.out]; rfl, HB0.out⟩
    | succ m =>
      have HR := hide (dpB_succ e m)
      generalize hbb : dpB e (m + 1) = bb at *
      have hmi : ¬ ((m : Int) + 1 ≤ 0) := by omega
      have hmc : (((m + 1 : Nat)) : Int) = (m : Int) + 1 := by omega
      rw [hmc]
      clear hbb hmc
      go_enter Tryd.func30, Tryd.ntmps30
      go_wp2_with fail
      go_loopg [5] nk (fun k s5 wr => ∃ i : Nat, i ≤ nk ∧ k = nk - i ∧ s5 = .int .i64 i ∧ (e.ar.take i).all (fun k => dpB k m) = true ∧ Below (w.heap.size + 1) (w.alloc (.cells #[.string (S e.nm), .int .i64 e.n, .slice pk nk ck] 24)) wr)
      case atStart => exact ⟨0, Nat.zero_le _, by omega, rfl, by simp, Below.refl _ _⟩
      case round =>
        obtain ⟨i, hi1, rfl, rfl, hal, hbr⟩ := hrel
        have hb5 := (HW.out.below hbr (Nat.lt_succ_self _))
        have c2 := hb5.cell 2
        simp only [List.getElem?_toArray, List.getElem?_cons_succ, List.getElem?_cons_zero] at c2
        have HBR := hide hbr
        have HAL := hide hal
        have hbw : Below w.heap.size w wr := HB0.out.trans (hbr.mono (by omega))
        by_cases hlt : i < nk
        · have hil : i < e.ar.length := by rw [HNK.out]; exact hlt
          have hst := all_take (fun k => dpB k m) hil
          have hbad := all_bad (fun k => dpB k m) e.ar i hil
          obtain ⟨b, o, qk, dk, hpk, hPb, hIn, a0, a1, a2⟩ := kid_at (e := e) (ck := ck) (pk := pk) (by rw [HNK.out]; exact HE.out) hil
          have hcall := HIH.out e.ar[i] (by simp) (w := wr) (m := m) (fun b hb => Nat.lt_of_lt_of_le (hP b hb) hbw.size) (TyIn.keep (KP.of_below hbw hP) (fun b hb => hb) _ _ hIn) (by omega)
          have hcc : ∀ x, wr.cell? ⟨b, x, none⟩ = w.cell? ⟨b, x, none⟩ := fun x => hbw.cell (p := ⟨b, x, none⟩) (hP b hPb)
          rw [← hcc] at a0 a1 a2
          subst hpk
          generalize e.ar[i] = k at *
          have HC := hide hcall
          have HST := hide hst
          have HBAD := hide hbad
          have hii : (i : Int) < nk := by omega
          clear hcall hst hcc hbr hbw hIn hb5 hal hbad
          cases hok : dpB k m
          · rw [hok] at HC
            go_wp2_with fail
            refine HC.out.mono ?_
            rintro r w1 ⟨rfl, hb1⟩
            have HB1 := hide hb1
            clear hb1
            go_wp2_with fail
            go_ret
            exact ⟨by rw [HR.out, HBAD.out hok]; rfl, HB0.out.trans ((HBR.out.mono (by omega)).trans (HB1.out.mono (by have := HBR.out.size; simp at this; omega)))⟩
          · rw [hok] at HC
            go_wp2_with fail
            refine HC.out.mono ?_
            rintro r w1 ⟨rfl, hb1⟩
            have HB1 := hide hb1
            clear hb1
            go_wp2_with fail
            go_roundg (nk - (i + 1))
            case measure => omega
            case rel =>
              refine ⟨i + 1, by omega, rfl, by go_num, ?_, HBR.out.trans (HB1.out.mono (by have := HBR.out.size; simpa using this))⟩
              rw [HST.out, HAL.out, hok]; rfl
        · have h1 : e.ar.take i = e.ar := List.take_of_length_le (by rw [HNK.out]; omega)
          rw [h1] at hal HAL
          have hii : ¬ (i : Int) < nk := by omega
          clear hbr hbw hb5 h1 hal
          go_wp2_with fail
          go_ret
          exact ⟨by rw [HR.out, HAL.out]; rfl, HB0.out.trans (HBR.out.mono (by omega))⟩
set_option maxHeartbeats 2000000 in
set_option maxRecDepth 100000 in
theorem rshort_any (e : Ty) : ∀ {P : Nat → Prop} {w : World} {pk : Option Addr} {ck : Nat}, (∀ b, P b → b < w.heap.size) → TyIn P w e [.string (S e.nm), .int .i64 e.n, .slice pk e.ar.length ck] →
    Calls Tryd.prog 31 #[.agg (cs3 e pk ck)] w fun r w' => r = .returned (.bool (shB e)) ∧ Below w.heap.size w w' := by
  induction e using Ty.ind with
  | _ e ih =>
    intro P w pk ck hP hE
    have hkl := hE.len
    have hnl := hE.bds.1
    have hsz := S_size e.nm
    have HIH := hide ih
    have HE := hide hE
    have hB0 : Below w.heap.size w (w.alloc (.cells (cs3 e pk ck) 24)) := (Below.refl _ w).alloc (Nat.le_refl _) _
    have hW : Hold w.heap.size (cs3 e pk ck) 24 (w.alloc (.cells (cs3 e pk ck) 24)) := Hold.new w _ 24
    have HW := hide hW
    have HB0 := hide hB0
    have HR : Hid (shB e = (decide (e.nm.length ≤ 50) && e.ar.all shB)) := allT_eq _ e
    clear ih hE hB0 hW
    unfold cs3 at *
    generalize hnk : e.ar.length = nk at *
    have HNK := hide hnk
    clear hnk
    generalize hbb : shB e = bb at *
    generalize hsn : S e.nm = sn at *
    have HSN := hide hsn
    clear hbb hsn
    by_cases hs : e.nm.length ≤ 50
    · rw [decide_eq_true hs] at HR
      have hsi : ¬ (50 : Int) < sn.size := by omega
      clear hs hsz
      go_enter Tryd.func31, Tryd.ntmps31
      go_wp2_with fail
      go_loopg [3] nk (fun k s5 wr => ∃ i : Nat, i ≤ nk ∧ k = nk - i ∧ s5 = .int .i64 i ∧ (e.ar.take i).all shB = true ∧ Below (w.heap.size + 1) (w.alloc (.cells #[.string sn, .int .i64 e.n, .slice pk nk ck] 24)) wr)
      case atStart => exact ⟨0, Nat.zero_le _, by omega, rfl, by simp, Below.refl _ _⟩
      case round =>
        obtain ⟨i, hi1, rfl, rfl, hal, hbr⟩ := hrel
        have hb5 := (HW.out.below hbr (Nat.lt_succ_self _))
        have c2 := hb5.cell 2
        simp only [List.getElem?_toArray, List.getElem?_cons_succ, List.getElem?_cons_zero] at c2
        have HBR := hide hbr
        have HAL := hide hal
        have hbw : Below w.heap.size w wr := HB0.out.trans (hbr.mono (by omega))
        by_cases hlt : i < nk
        · have hil : i < e.ar.length := by rw [HNK.out]; exact hlt
          have hst := all_take shB hil
          have hbad := all_bad shB e.ar i hil
          obtain ⟨b, o, qk, dk, hpk, hPb, hIn, a0, a1, a2⟩ := kid_at (e := e) (ck := ck) (pk := pk) (by rw [HNK.out, HSN.out]; exact HE.out) hil
          have hcall := HIH.out e.ar[i] (by simp) (w := wr) (fun b hb => Nat.lt_of_lt_of_le (hP b hb) hbw.size) (TyIn.keep (KP.of_below hbw hP) (fun b hb => hb) _ _ hIn)
          have hcc : ∀ x, wr.cell? ⟨b, x, none⟩ = w.cell? ⟨b, x, none⟩ := fun x => hbw.cell (p := ⟨b, x, none⟩) (hP b hPb)
          rw [← hcc] at a0 a1 a2
          subst hpk
          generalize e.ar[i] = k at *
          have HC := hide hcall
          have HST := hide hst
          have HBAD := hide hbad
          have hii : (i : Int) < nk := by omega
          clear hcall hst hcc hbr hbw hIn hb5 hal hbad
          cases hok : shB k
          · rw [hok] at HC
            go_wp2_with fail
            refine HC.out.mono ?_
            rintro r w1 ⟨rfl, hb1⟩
            have HB1 := hide hb1
            clear hb1
            go_wp2_with fail
            go_ret
            exact ⟨by rw [HR.out, HBAD.out hok]; rfl, HB0.out.trans ((HBR.out.mono (by omega)).trans (HB1.out.mono (by have := HBR.out.size; simp at this; omega)))⟩
          · rw [hok] at HC
            go_wp2_with fail
            refine HC.out.mono ?_
            rintro r w1 ⟨rfl, hb1⟩
            have HB1 := hide hb1
            clear hb1
            go_wp2_with fail
            go_roundg (nk - (i + 1))
            case measure => omega
            case rel =>
              refine ⟨i + 1, by omega, rfl, by go_num, ?_, HBR.out.trans (HB1.out.mono (by have := HBR.out.size; simpa using this))⟩
              rw [HST.out, HAL.out, hok]; rfl
        · have h1 : e.ar.take i = e.ar := List.take_of_length_le (by rw [HNK.out]; omega)
          rw [h1] at hal HAL
          have hii : ¬ (i : Int) < nk := by omega
          clear hbr hbw hb5 h1 hal
          go_wp2_with fail
          go_ret
          exact ⟨by rw [HR.out, HAL.out]; rfl, HB0.out.trans (HBR.out.mono (by omega))⟩
    · rw [decide_eq_false hs] at HR
      have hsi : (50 : Int) < sn.size := by omega
      clear hs hsz
      go_enter Tryd.func31, Tryd.ntmps31
      go_wp2_with fail
      go_ret
      exact ⟨by rw [HR.out]; rfl, HB0.out⟩
/-- A type of few parts, not too deep, with short Names. -/
def fewM (e : Ty) : Bool := decide (tsz e ≤ 300) && dpB e 70 && shB e
set_option maxHeartbeats 2000000 in
set_option maxRecDepth 100000 in
theorem few_any (e : Ty) {P : Nat → Prop} {w : World} {pk : Option Addr} {ck : Nat} (hP : ∀ b, P b → b < w.heap.size) (hE : TyIn P w e [.string (S e.nm), .int .i64 e.n, .slice pk e.ar.length ck]) :
    Calls Tryd.prog 12 #[.agg (cs3 e pk ck)] w fun r w' => r = .returned (.bool (fewM e)) ∧ Below w.heap.size w w' := by
  have hB0 : Below w.heap.size w (w.alloc (.cells (cs3 e pk ck) 24)) := (Below.refl _ w).alloc (Nat.le_refl _) _
  have hW : Hold w.heap.size (cs3 e pk ck) 24 (w.alloc (.cells (cs3 e pk ck) 24)) := Hold.new w _ 24
  have h1 := fun W (hb : Below w.heap.size w W) => rparts_any e (w := W) (m := 300) (fun b hb' => Nat.lt_of_lt_of_le (hP b hb') hb.size) (TyIn.keep (KP.of_below hb hP) (fun b hb => hb) _ _ hE) (by omega)
  have h2 := fun W (hb : Below w.heap.size w W) => rdeep_any e (w := W) (m := 70) (fun b hb' => Nat.lt_of_lt_of_le (hP b hb') hb.size) (TyIn.keep (KP.of_below hb hP) (fun b hb => hb) _ _ hE) (by omega)
  have h3 := fun W (hb : Below w.heap.size w W) => rshort_any e (w := W) (fun b hb' => Nat.lt_of_lt_of_le (hP b hb') hb.size) (TyIn.keep (KP.of_below hb hP) (fun b hb => hb) _ _ hE)
  have hf : fewM e = (decide (tsz e ≤ 300) && dpB e 70 && shB e) := rfl
  have hts : tsz e ≤ 300 ∨ 300 < tsz e := by omega
  have hmin : min (tsz e) (300 + 1) ≤ 300 ↔ tsz e ≤ 300 := by omega
  have hmb : min (tsz e) (300 + 1) ≤ 301 := by omega
  generalize fewM e = ff at *
  unfold cs3 at *
  generalize min (tsz e) (300 + 1) = mn at *
  have HW := hide hW
  have HB0 := hide hB0
  have H1 := hide h1
  have H2 := hide h2
  have H3 := hide h3
  have HF := hide hf
  clear hW hB0 h1 h2 h3 hf hE
  rcases hts with ht | ht
  · have hm : (mn : Int) ≤ 300 := by omega
    have hm' : ¬ (300 : Int) < mn := by omega
    rw [decide_eq_true ht] at HF
    clear hmin hmb ht
    go_enter Tryd.func12, Tryd.ntmps12
    go_wp2_with fail
    refine (H1.out _ HB0.out).mono ?_
    rintro r w1 ⟨rfl, hb1⟩
    have c0 := HW.out.below hb1 HW.out.lt
    have HB1 := hide (HB0.out.trans (hb1.mono HB0.out.size))
    have HC0 := hide c0
    have k0 := c0.cell 0
    have k1 := c0.cell 1
    have k2 := c0.cell 2
    simp only [List.getElem?_toArray, List.getElem?_cons_succ, List.getElem?_cons_zero] at k0 k1 k2
    clear hb1 c0
    go_wp2_with fail
    refine (H2.out _ HB1.out).mono ?_
    rintro r w2 ⟨rfl, hb2⟩
    have c0 := HC0.out.below hb2 HC0.out.lt
    have HB2 := hide (HB1.out.trans (hb2.mono HB1.out.size))
    have l0 := c0.cell 0
    have l1 := c0.cell 1
    have l2 := c0.cell 2
    simp only [List.getElem?_toArray, List.getElem?_cons_succ, List.getElem?_cons_zero] at l0 l1 l2
    clear hb2 c0
    cases hd : dpB e 70
    · rw [hd] at HF
      go_wp2_with fail
      go_ret
      exact ⟨by rw [HF.out]; rfl, HB2.out⟩
    · rw [hd] at HF
      go_wp2_with fail
      refine (H3.out _ HB2.out).mono ?_
      rintro r w3 ⟨rfl, hb3⟩
      have HB3 := hide (HB2.out.trans (hb3.mono HB2.out.size))
      clear hb3
      go_wp2_with fail
      go_ret
      exact ⟨by rw [HF.out]; rfl, HB3.out⟩
  · have hm : (300 : Int) < mn := by omega
    rw [decide_eq_false (by omega)] at HF
    clear hmin hmb ht
    go_enter Tryd.func12, Tryd.ntmps12
    go_wp2_with fail
    refine (H1.out _ HB0.out).mono ?_
    rintro r w1 ⟨rfl, hb1⟩
    have HB1 := hide (HB0.out.trans (hb1.mono HB0.out.size))
    clear hb1
    go_wp2_with fail
    go_ret
    exact ⟨by rw [HF.out]; rfl, HB1.out⟩
end Go.Proofs.YteoflpalmckikaaDoor
