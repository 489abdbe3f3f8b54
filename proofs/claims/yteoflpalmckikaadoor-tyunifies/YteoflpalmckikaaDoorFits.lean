/-
  THE WALKS OF ty's fits AND Check.
-/
import Derived.Test.YteoflpalmckikaaDoorChk
namespace Go.Proofs.YteoflpalmckikaaDoor
open Go.RowKit
set_option linter.unusedVariables false
set_option linter.unusedSimpArgs false
/-- Is one sound, of at most such a depth, and of at most so many parts? -/
def fitB (e : Ty) (d l : Nat) : Bool := allT ok1 e && decide (tdp e ≤ d) && decide (tsz e ≤ l)
def kidB (d : Nat) (k : Ty) : Bool := allT ok1 k && decide (tdp k ≤ d)
theorem fitB_chk (e : Ty) : fitB e 60 2000 = chk e := rfl
theorem fitB_zero (e : Ty) (l : Nat) : fitB e 0 l = false := by
  unfold fitB; have := tdp_pos e; rw [decide_eq_false (by omega : ¬ tdp e ≤ 0)]; simp
theorem fitB_none (e : Ty) (d : Nat) : fitB e d 0 = false := by
  unfold fitB; have := tsz_pos e; rw [decide_eq_false (by omega : ¬ tsz e ≤ 0)]; simp
theorem fitB_bad (e : Ty) (d l : Nat) (h : ok1 e = false) : fitB e d l = false := by
  unfold fitB; rw [allT_eq, h]; simp
theorem fitB_kid (e : Ty) (d l i : Nat) (hi : i < e.ar.length) (h : fitB e.ar[i] d (l - (1 + ((e.ar.take i).map tsz).sum)) = false) (hs : 1 + ((e.ar.take i).map tsz).sum ≤ l) : fitB e (d + 1) l = false := by
  cases hb : fitB e (d + 1) l with
  | false => rfl
  | true =>
    unfold fitB at hb h
    simp only [Bool.and_eq_true, decide_eq_true_eq] at hb
    obtain ⟨⟨h1, h2⟩, h3⟩ := hb
    have k1 := (allT_kid h1).2 _ (List.getElem_mem hi)
    have k2 := (tdp_le e d).1 h2 _ (List.getElem_mem hi)
    have k3 := sum_take tsz hi
    have k4 := sum_take_le tsz e.ar (i + 1)
    rw [tsz_eq] at h3
    rw [k1, decide_eq_true k2, decide_eq_true (by omega)] at h
    cases h
theorem fitB_all (e : Ty) (d l : Nat) (ho : ok1 e = true) (ha : e.ar.all (kidB d) = true) (hs : 1 + (e.ar.map tsz).sum ≤ l) : fitB e (d + 1) l = true := by
  unfold fitB
  rw [allT_eq, ho, tsz_eq, decide_eq_true hs]
  simp only [List.all_eq_true, kidB, Bool.and_eq_true, decide_eq_true_eq] at ha
  have h1 : e.ar.all (allT ok1) = true := List.all_eq_true.2 fun k hk => (ha k hk).1
  have h2 : tdp e ≤ d + 1 := (tdp_le e d).2 fun k hk => (ha k hk).2
  rw [h1, decide_eq_true h2]
  rfl
theorem fitB_true {e : Ty} {d l : Nat} (h : fitB e d l = true) : kidB d e = true ∧ tsz e ≤ l := by
  unfold fitB at h
  simp only [Bool.and_eq_true, decide_eq_true_eq] at h
  exact ⟨by unfold kidB; rw [h.1.1, decide_eq_true h.1.2]; rfl, h.2⟩
/-- Blocks of old, but one. -/
def Old (n B : Nat) (b : Nat) : Prop := b < n ∧ b ≠ B
theorem Hold.kp {b : Nat} {C : Array Value} {t : TypeId} {W W' : World} {P : Nat → Prop} (h : Hold b C t W) (k : KP P W W') (hp : P b) : Hold b C t W' := (k.block b hp).trans h
/-- What fits comes to. -/
def FitQ (e : Ty) (d l B : Nat) (w : World) (r : Ending) (w' : World) : Prop := r = .returned (.bool (fitB e d l)) ∧ KP (Old w.heap.size B) w w' ∧ ∃ l' : Int, Hold B #[.int .i64 l'] 3 w' ∧ (fitB e d l = true → l' = (l : Int) - (tsz e : Int))
set_option maxHeartbeats 4000000 in
set_option maxRecDepth 100000 in
theorem fits_any (e : Ty) : ∀ {P : Nat → Prop} {w : World} {pk : Option Addr} {ck d l B : Nat}, (∀ b, P b → b < w.heap.size) → ¬ P B → TyIn P w e [.string (S e.nm), .int .i64 e.n, .slice pk e.ar.length ck] → Hold B #[.int .i64 l] 3 w → d ≤ 1000000 → l ≤ 1000000 →
    Calls Tryd.prog 34 #[.agg (cs3 e pk ck), .int .i64 d, .pointer (some ⟨B, 0, none⟩)] w (FitQ e d l B w) := by
  induction e using Ty.ind with
  | _ e ih =>
    intro P w pk ck d l B hP hPB hE hB hd hl
    have hkl := hE.len
    have HIH := hide ih
    have HE := hide hE
    have hBl := hB.lt
    obtain ⟨W1, hW1⟩ : ∃ W1, W1 = (w.setCell ⟨B, 0, none⟩ (.int .i64 ((l : Int) - 1))).alloc (.cells (cs3 e pk ck) 24) := ⟨_, rfl⟩
    have hb0 : (w.alloc (.cells (cs3 e pk ck) 24)).cell? ⟨B, 0, none⟩ = some (.int .i64 l) := (hB.alloc _).cell 0
    have hf0 : (w.alloc (.cells (cs3 e pk ck) 24)).frozen? ⟨B, 0, none⟩ = false := (hB.alloc _).frozen 0
    have hK1 : KP (Old w.heap.size B) w W1 := by
      rw [hW1]
      exact (KP.setCell w B 0 _ fun h => h.2 rfl).trans (KP.alloc _ _ fun b hb => by simpa using hb.1)
    have hH1 : Hold B #[.int .i64 ((l : Int) - 1)] 3 W1 := by rw [hW1]; exact (hB.set 0 _).alloc _
    have hH2 : Hold w.heap.size (cs3 e pk ck) 24 W1 := by rw [hW1]; have := Hold.new (w.setCell ⟨B, 0, none⟩ (.int .i64 ((l : Int) - 1))) (cs3 e pk ck) 24; simpa using this
    have hS1 : W1.heap.size = w.heap.size + 1 := by rw [hW1]; simp
    have hsound := sound_any e (P := P) (w := W1) (TyIn.keep (hK1.mono fun b hb => ⟨hP b hb, fun e => hPB (e ▸ hb)⟩) (fun b hb => hb) _ _ hE)
    have HK1 := hide hK1
    have HH1 := hide hH1
    have HH2 := hide hH2
    have HS1 := hide hS1
    have HSD := hide hsound
    have hc1 : ∀ v, (w.setCell ⟨B, 0, none⟩ v).cell? ⟨B, 0, none⟩ = some v := fun v => (hB.set 0 v).cell 0
    clear ih hE hK1 hH1 hH2 hS1 hsound
    unfold cs3 at *
    subst hW1
    generalize hnk : e.ar.length = nk at *
    have HNK := hide hnk
    clear hnk
    by_cases hd0 : d = 0
    · subst hd0
      have HF := hide (fitB_zero e l)
      go_enter Tryd.func34, Tryd.ntmps34
      go_wp2_with fail
      go_ret
      exact ⟨by rw [HF.out]; rfl, HK1.out, _, HH1.out, fun h => by rw [HF.out] at h; cases h⟩
    have hdi : ((d : Int) == 0) = false := by simp; omega
    by_cases hl0 : l = 0
    · subst hl0
      have HF := hide (fitB_none e d)
      go_enter Tryd.func34, Tryd.ntmps34
      go_wp2_with fail
      go_ret
      exact ⟨by rw [HF.out]; rfl, HK1.out, _, HH1.out, fun h => by rw [HF.out] at h; cases h⟩
    have hli : ¬ ((l : Int) - 1 < 0) := by omega
    cases hok : ok1 e
    · have HF := hide (fitB_bad e d l hok)
      rw [hok] at HSD
      go_enter Tryd.func34, Tryd.ntmps34
      go_wp2_with fail
      refine HSD.out.mono ?_
      rintro r w2 ⟨rfl, hb2⟩
      have HK2 := hide (HK1.out.trans (KP.of_below hb2 fun b hb => by have := HS1.out; have := hb.1; omega))
      have HH3 := hide (HH1.out.below hb2 HH1.out.lt)
      clear hb2
      go_wp2_with fail
      go_ret
      exact ⟨by rw [HF.out]; rfl, HK2.out, _, HH3.out, fun h => by rw [HF.out] at h; cases h⟩
    · rw [hok] at HSD
      obtain ⟨d, rfl⟩ : ∃ d', d = d' + 1 := ⟨d - 1, by omega⟩
      have HFK := hide fun i hi => fitB_kid e d l i hi
      have HFA := hide (fitB_all e d l hok)
      have HTZ := hide (tsz_eq e)
      have hdc : (((d + 1 : Nat)) : Int) = (d : Int) + 1 := by omega
      generalize hfb : fitB e (d + 1) l = fb at *
      have HFB := hide hfb
      rw [hdc] at hdi
      rw [hdc]
      clear hfb hdc hd0 hok
      have hl1 : 1 ≤ l := by omega
      go_enter Tryd.func34, Tryd.ntmps34
      go_wp2_with fail
      refine HSD.out.mono ?_
      rintro r w2 ⟨rfl, hb2⟩
      have HK2 := hide (HK1.out.trans (KP.of_below hb2 fun b hb => by have := HS1.out; have := hb.1; omega))
      have HH3 := hide (HH1.out.below hb2 HH1.out.lt)
      have h4 := HH2.out.below hb2 HH2.out.lt
      have k2 := h4.cell 2
      simp only [List.getElem?_toArray, List.getElem?_cons_succ, List.getElem?_cons_zero] at k2
      have HS2 : Hid (w.heap.size + 1 ≤ w2.heap.size) := by have := hb2.size; rw [HS1.out] at this; exact this
      clear hb2 h4
      go_wp2_with fail
      go_loopg [30] nk (fun k s30 wr => ∃ i : Nat, i ≤ nk ∧ k = nk - i ∧ s30 = .int .i64 i ∧ (e.ar.take i).all (kidB d) = true ∧ 1 + ((e.ar.take i).map tsz).sum ≤ l ∧ Hold B #[.int .i64 ((l : Int) - (1 + ((e.ar.take i).map tsz).sum : Nat))] 3 wr ∧ KP (Old w.heap.size B) w wr)
      case atStart => exact ⟨0, Nat.zero_le _, by omega, rfl, by simp, by simpa using hl1, by simpa using HH3.out, HK2.out⟩
      case round =>
        obtain ⟨i, hi1, rfl, rfl, hal, hsm, hhb, hkr⟩ := hrel
        have HAL := hide hal
        have HSM := hide hsm
        have HHB := hide hhb
        have HKR := hide hkr
        by_cases hlt : i < nk
        · have hil : i < e.ar.length := by rw [HNK.out]; exact hlt
          have hst := all_take (kidB d) hil
          have hst2 := sum_take tsz hil
          have hfk := HFK.out i hil
          obtain ⟨b, o, qk, dk, hpk, hPb, hIn, a0, a1, a2⟩ := kid_at (e := e) (ck := ck) (pk := pk) (by rw [HNK.out]; exact HE.out) hil
          have hold : Old w.heap.size B b := ⟨hP b hPb, fun e => hPB (e ▸ hPb)⟩
          rw [← hkr.cell hold] at a0 a1 a2
          have hcall := HIH.out e.ar[i] (by simp) (w := wr.alloc (.cells #[.string (S e.ar[i].nm), .int .i64 e.ar[i].n, .slice qk e.ar[i].ar.length dk] 24)) (d := d) (l := l - (1 + ((e.ar.take i).map tsz).sum)) (B := B)
            (fun b hb => by have := hP b hb; have := hkr.size; simp; omega) hPB
            (TyIn.keep ((hkr.mono fun b hb => (⟨hP b hb, fun e => hPB (e ▸ hb)⟩ : Old w.heap.size B b)).trans (KP.alloc wr _ fun b hb => by have := hP b hb; have := hkr.size; omega)) (fun b hb => hb) _ _ hIn)
            (by have := hhb.alloc (.cells #[.string (S e.ar[i].nm), .int .i64 e.ar[i].n, .slice qk e.ar[i].ar.length dk] 24); rw [show ((l - (1 + ((e.ar.take i).map tsz).sum) : Nat) : Int) = (l : Int) - ((1 + ((e.ar.take i).map tsz).sum : Nat) : Int) from by omega]; exact this) (by omega) (by omega)
          subst hpk
          generalize e.ar[i] = k at *
          generalize hsg : ((e.ar.take i).map tsz).sum = sg at *
          have HC := hide hcall
          have HST := hide hst
          have HST2 := hide hst2
          have HFK2 := hide hfk
          have hii : (i : Int) < nk := by omega
          have hwl : w.heap.size ≤ wr.heap.size := hkr.size
          clear hcall hst hst2 hfk hhb hkr hIn hal hsm hsg
          cases hfit : fitB k d (l - (1 + sg))
          · go_wp2_with fail
            refine HC.out.mono ?_
            rintro r w3 ⟨rfl, hk3, l', hh3, _⟩
            rw [hfit]
            have HK3 := hide (HKR.out.trans ((KP.alloc wr (.cells #[.string (S k.nm), .int .i64 k.n, .slice qk k.ar.length dk] 24) fun b (hb : Old w.heap.size B b) => by have := hb.1; omega).trans (hk3.mono fun b hb => ⟨by have := hb.1; simp; omega, hb.2⟩)))
            have HH4 := hide hh3
            have hfb : fb = false := by rw [← HFK2.out hfit HSM.out]
            have HFF := hide hfb
            clear hk3 hh3 hfb
            go_wp2_with fail
            go_ret
            exact ⟨by rw [HFB.out, HFF.out]; rfl, HK3.out, _, HH4.out, fun h => by rw [HFB.out, HFF.out] at h; cases h⟩
          · obtain ⟨hf1, hf2⟩ := fitB_true hfit
            go_wp2_with fail
            refine HC.out.mono ?_
            rintro r w3 ⟨rfl, hk3, l', hh3, hl'⟩
            rw [hfit]
            have HK3 := hide (HKR.out.trans ((KP.alloc wr (.cells #[.string (S k.nm), .int .i64 k.n, .slice qk k.ar.length dk] 24) fun b (hb : Old w.heap.size B b) => by have := hb.1; omega).trans (hk3.mono fun b hb => ⟨by have := hb.1; simp; omega, hb.2⟩)))
            have HL' := hide (hl' hfit)
            have HH4 := hide hh3
            clear hk3 hh3 hl'
            go_wp2_with fail
            go_roundg (nk - (i + 1))
            case measure => omega
            case rel =>
              have e1 := HST2.out
              have e2 := HL'.out
              have e3 := HSM.out
              refine ⟨i + 1, by omega, rfl, by go_num, ?_, by rw [e1]; omega, ?_, HK3.out⟩
              · rw [HST.out, HAL.out, hf1]; rfl
              · have e4 := HH4.out
                rw [e2] at e4
                rw [e1]
                have e5 : ((l - (1 + sg) : Nat) : Int) - (tsz k : Int) = (l : Int) - ((1 + (sg + tsz k) : Nat) : Int) := by omega
                rw [e5] at e4
                exact e4
        · have h1 : e.ar.take i = e.ar := List.take_of_length_le (by rw [HNK.out]; omega)
          rw [h1] at HAL HSM HHB
          have hfb : fb = true := HFA.out HAL.out HSM.out
          have HFF := hide hfb
          have hii : ¬ (i : Int) < nk := by omega
          clear hhb hkr h1 hal hsm hfb
          go_wp2_with fail
          go_ret
          exact ⟨by rw [HFB.out, HFF.out]; rfl, HKR.out, _, HHB.out, fun _ => by rw [HTZ.out]⟩
set_option maxHeartbeats 2000000 in
set_option maxRecDepth 100000 in
theorem check_any (e : Ty) {P : Nat → Prop} {w : World} {pk : Option Addr} {ck : Nat} (hP : ∀ b, P b → b < w.heap.size) (hE : TyIn P w e [.string (S e.nm), .int .i64 e.n, .slice pk e.ar.length ck]) :
    Calls Tryd.prog 15 #[.agg (cs3 e pk ck)] w fun r w' => r = .returned (.bool (chk e)) ∧ Below w.heap.size w w' := by
  have hB0 : Below w.heap.size w ((w.alloc (.cells (cs3 e pk ck) 24)).alloc (.cells #[.int .i64 2000] 3)) := ((Below.refl _ w).alloc (Nat.le_refl _) _).alloc (by simp) _
  have hH : Hold (w.heap.size + 1) #[.int .i64 2000] 3 ((w.alloc (.cells (cs3 e pk ck) 24)).alloc (.cells #[.int .i64 2000] 3)) := by have := Hold.new (w.alloc (.cells (cs3 e pk ck) 24)) #[.int .i64 2000] 3; simpa using this
  have hcall := fits_any e (P := P) (w := (w.alloc (.cells (cs3 e pk ck) 24)).alloc (.cells #[.int .i64 2000] 3)) (pk := pk) (ck := ck) (d := 60) (l := 2000) (B := w.heap.size + 1)
    (fun b hb => by have := hP b hb; simp; omega) (fun h => by have := hP _ h; omega) (TyIn.keep (KP.of_below hB0 hP) (fun b hb => hb) _ _ hE) hH (by omega) (by omega)
  have HC := hide hcall
  have HB0 := hide hB0
  clear hcall hB0 hH hE
  unfold cs3 at *
  go_enter Tryd.func15, Tryd.ntmps15
  go_wp2_with fail
  refine HC.out.mono ?_
  rintro r w1 ⟨rfl, hk1, -⟩
  have HK1 := hide hk1
  clear hk1
  rw [fitB_chk]
  go_wp2_with fail
  go_ret
  exact ⟨rfl, HB0.out.trans (HK1.out.below fun b hb => ⟨by simp; omega, by omega⟩)⟩
end Go.Proofs.YteoflpalmckikaaDoor
