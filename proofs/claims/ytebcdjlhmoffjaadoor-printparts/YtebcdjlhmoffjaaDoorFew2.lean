/-
  THE WALKS OF dawdlerref04's short AND Few.
-/
import Derived.Test.YtebcdjlhmoffjaaDoorFew
namespace Go.Proofs.YtebcdjlhmoffjaaDoor
open Go.RowKit
set_option linter.unusedVariables false
set_option linter.unusedSimpArgs false
/-- Texts and names of a tree are short. -/
def tsh (t : Tr) : Bool := t.fold fun t l => decide (t.nm.length ≤ 100) && decide (t.ns.length ≤ 40) && t.ns.all (fun s => decide (s.length ≤ 100)) && l.all fun k => k.2
theorem tsh_eq (t : Tr) : tsh t = (decide (t.nm.length ≤ 100) && decide (t.ns.length ≤ 40) && t.ns.all (fun s => decide (s.length ≤ 100)) && t.ks.all tsh) := by
  unfold tsh
  rw [Tr.fold_eq, List.all_map]
  rfl
def fewM (t : Tr) : Bool := decide (tsz t ≤ 2000) && decide (tdp t ≤ 40) && tsh t
set_option maxHeartbeats 4000000 in
set_option maxRecDepth 100000 in
theorem rshort_any (e : Tr) : ∀ {P : Nat → Prop} {w : World} {pn pk : Option Addr} {cn ck : Nat}, (∀ b, P b → b < w.heap.size) → TrIn P w e [.int .i64 e.kd, .string (S e.nm), .int .i64 e.nu, .slice pn e.ns.length cn, .slice pk e.ks.length ck] →
    Calls Tryd.prog 18 #[.agg (cs5 e pn cn pk ck)] w fun r w' => r = .returned (.bool (tsh e)) ∧ Below w.heap.size w w' := by
  induction e using Tr.ind with
  | _ e ih =>
    intro P w pn pk cn ck hP hE
    have hkl : e.ks.length ≤ 9223372036854775807 := by
      obtain ⟨pn', cn', pk', ck', hcs, _, _, _, h5, _, _⟩ := (TrIn_iff _ _ _ _).1 hE
      exact Nat.le_trans h5.1 h5.2.1
    have hnl : e.ns.length ≤ 9223372036854775807 := by
      obtain ⟨pn', cn', pk', ck', hcs, _, _, h5, _, _, _⟩ := (TrIn_iff _ _ _ _).1 hE
      exact Nat.le_trans h5.1 h5.2.1
    have hSM : SM P w pn e.ns := by
      obtain ⟨pn', cn', pk', ck', hcs, _, _, _, _, h6, _⟩ := (TrIn_iff _ _ _ _).1 hE
      simp at hcs
      rw [hcs.1.1]; exact h6
    have HSM := hide hSM
    have HT := hide (tsh_eq e)
    have HIH := hide ih
    have HE := hide hE
    have hB0 : Below w.heap.size w (w.alloc (.cells (cs5 e pn cn pk ck) 25)) := (Below.refl _ w).alloc (Nat.le_refl _) _
    have hW : Hold w.heap.size (cs5 e pn cn pk ck) 25 (w.alloc (.cells (cs5 e pn cn pk ck) 25)) := Hold.new w _ 25
    have HW := hide hW
    have HB0 := hide hB0
    clear ih hE hB0 hW hSM
    unfold cs5 at *
    generalize hnk : e.ks.length = nk at *
    generalize hnn : e.ns.length = nn at *
    have hss : (S e.nm).size = e.nm.length := S_size e.nm
    generalize hnm : e.nm.length = nml at *
    have HNM := hide hnm
    have HNK := hide hnk
    have HNN := hide hnn
    have hnml : nml ≤ 281474976710656 := by
      have hE := HE.out
      obtain ⟨pn', cn', pk', ck', hcs, h, _⟩ := (TrIn_iff _ _ _ _).1 hE
      omega
    clear hnk hnn hnm
    generalize hsnm : S e.nm = snm at *
    have HSN := hide hsnm
    clear hsnm
    by_cases hq : nml ≤ 100 ∧ nn ≤ 40
    · obtain ⟨hq1, hq2⟩ := hq
      have q1 : ¬ (100 : Int) < nml := by omega
      have q2 : ¬ (40 : Int) < nn := by omega
      go_enter Tryd.func18, Tryd.ntmps18
      go_wp2_with fail
      go_loopg [3] nn (fun k s3 wr => ∃ i : Nat, i ≤ nn ∧ k = nn - i ∧ s3 = .int .i64 i ∧ Below (w.heap.size + 1) (w.alloc (.cells #[.int .i64 e.kd, .string snm, .int .i64 e.nu, .slice pn nn cn, .slice pk nk ck] 25)) wr ∧ (e.ns.take i).all (fun s => decide (s.length ≤ 100)) = true)
      case atStart => exact ⟨0, Nat.zero_le _, by omega, rfl, Below.refl _ _, rfl⟩
      case round =>
        obtain ⟨i, hi1, rfl, rfl, hbr, hall⟩ := hrel
        have hb5 := (HW.out.below hbr (Nat.lt_succ_self _))
        have c3 := hb5.cell 3
        have c4 := hb5.cell 4
        simp only [List.getElem?_toArray, List.getElem?_cons_succ, List.getElem?_cons_zero] at c3 c4
        have HBR := hide hbr
        have HALL := hide hall
        have hbw : Below w.heap.size w wr := HB0.out.trans (hbr.mono (by omega))
        by_cases hlt : i < nn
        · have hil : i < e.ns.length := by rw [HNN.out]; exact hlt
          rcases HSM.out with he | ⟨b, o, rfl, hPb, hma⟩
          · rw [he] at hil; simp at hil
          have a1 : wr.cell? ⟨b, o + i, none⟩ = some (.string (S e.ns[i])) := (hbw.cell (p := ⟨b, o + i, none⟩) (hP b hPb)).trans (hma i e.ns[i] (by simp)).2
          have hsz := (hma i e.ns[i] (by simp)).1
          have htk : e.ns.take (i + 1) = e.ns.take i ++ [e.ns[i]] := List.take_succ_eq_append_getElem hil
          have hmem : e.ns[i] ∈ e.ns := by simp
          have hs2 : (S e.ns[i]).size = e.ns[i].length := S_size _
          generalize e.ns[i] = s at *
          have hii : (i : Int) < nn := by omega
          have HTK := hide htk
          have HMEM := hide hmem
          generalize hsl : s.length = sl at *
          have HSL := hide hsl
          generalize S s = sb at *
          clear hbr hall hbw hb5 htk hmem hma hsl
          by_cases hle : sl ≤ 100
          · have hli : ¬ (100 : Int) < sl := by omega
            go_wp2_with fail
            go_roundg (nn - (i + 1))
            case measure => omega
            case rel =>
              refine ⟨i + 1, by omega, rfl, by go_num, HBR.out, ?_⟩
              rw [HTK.out, List.all_append, HALL.out]
              simp [HSL.out, hle]
          · have hli : (100 : Int) < sl := by omega
            have HF : Hid (tsh e = false) := by
              show _ = _
              rw [HT.out]
              have : e.ns.all (fun s => decide (s.length ≤ 100)) = false := by
                rw [List.all_eq_false]
                exact ⟨s, HMEM.out, by simp [HSL.out]; omega⟩
              rw [this]; simp
            go_wp2_with fail
            go_ret
            exact ⟨by rw [HF.out]; rfl, HB0.out.trans (HBR.out.mono (by omega))⟩
        · have h1 : e.ns.take i = e.ns := List.take_of_length_le (by rw [HNN.out]; omega)
          have hAll : Hid (e.ns.all (fun s => decide (s.length ≤ 100)) = true) := by show _ = _; rw [← h1]; exact HALL.out
          have hii : ¬ (i : Int) < nn := by omega
          clear hbr hall hbw hb5 h1
          go_wp2_with fail
          go_loopg [4] nk (fun k s4 wx => ∃ j : Nat, j ≤ nk ∧ k = nk - j ∧ s4 = .int .i64 j ∧ Below (w.heap.size + 1) (w.alloc (.cells #[.int .i64 e.kd, .string snm, .int .i64 e.nu, .slice pn nn cn, .slice pk nk ck] 25)) wx ∧ (e.ks.take j).all tsh = true)
          case atStart => exact ⟨0, Nat.zero_le _, by omega, rfl, HBR.out, rfl⟩
          case round =>
            obtain ⟨j, hj1, rfl, rfl, hbr, hall⟩ := hrel
            have hb5 := (HW.out.below hbr (Nat.lt_succ_self _))
            clear c3 c4
            have c4 := hb5.cell 4
            simp only [List.getElem?_toArray, List.getElem?_cons_succ, List.getElem?_cons_zero] at c4
            have HBX := hide hbr
            have HALK := hide hall
            have hbw := HB0.out.trans (hbr.mono (Nat.le_succ w.heap.size))
            by_cases hlj : j < nk
            · have hil : j < e.ks.length := by rw [HNK.out]; exact hlj
              obtain ⟨b, o, qn, dn, qk, dk, hpk, hPb, hIn, a0, a1, a2, a3, a4⟩ := kid_at (e := e) (ck := ck) (cn := cn) (pn := pn) (pk := pk) (by rw [HNK.out, HNN.out, HSN.out]; exact HE.out) hil
              have hcall := HIH.out e.ks[j] (by simp) (fun b hb => Nat.lt_of_lt_of_le (hP b hb) hbw.size) (TrIn.keep (KP.of_below hbw hP) (fun b hb => hb) _ _ hIn)
              have hcc := fun x => hbw.cell (p := ⟨b, x, none⟩) (hP b hPb)
              rw [← hcc] at a0 a1 a2 a3 a4
              have htk : e.ks.take (j + 1) = e.ks.take j ++ [e.ks[j]] := List.take_succ_eq_append_getElem hil
              have hmem : e.ks[j] ∈ e.ks := by simp
              subst hpk
              generalize e.ks[j] = k at *
              have HC := hide hcall
              have HTK := hide htk
              have HMEM := hide hmem
              have hji : (j : Int) < nk := by omega
              clear hcall hcc hbr hbw hIn hb5 htk hmem hall
              cases ht : tsh k
              · have HF : Hid (tsh e = false) := by
                  show _ = _
                  rw [HT.out]
                  have : e.ks.all tsh = false := by
                    rw [List.all_eq_false]
                    exact ⟨k, HMEM.out, by simp [ht]⟩
                  rw [this]; simp
                rw [ht] at HC
                clear ht
                go_wp2_with fail
                refine HC.out.mono ?_
                rintro r w1 ⟨rfl, hb1⟩
                have HB1 := hide hb1
                clear hb1
                go_wp2_with fail
                go_ret
                exact ⟨by rw [HF.out]; rfl, HB0.out.trans ((HBX.out.trans (HB1.out.mono (by have := HBX.out.size; simpa using this))).mono (by omega))⟩
              · have HTR := hide ht
                rw [ht] at HC
                clear ht
                go_wp2_with fail
                refine HC.out.mono ?_
                rintro r w1 ⟨rfl, hb1⟩
                have HB1 := hide hb1
                clear hb1
                go_wp2_with fail
                go_roundg (nk - (j + 1))
                case measure => omega
                case rel =>
                  refine ⟨j + 1, by omega, rfl, by go_num, HBX.out.trans (HB1.out.mono (by have := HBX.out.size; simpa using this)), ?_⟩
                  rw [HTK.out, List.all_append, HALK.out]
                  simp [HTR.out]
            · have h1 : e.ks.take j = e.ks := List.take_of_length_le (by rw [HNK.out]; omega)
              have HF : Hid (tsh e = true) := by
                show _ = _
                rw [HT.out, hAll.out, ← h1, HALK.out]
                simp; omega
              have hji : ¬ (j : Int) < nk := by omega
              clear hbr hall hbw hb5 h1
              go_wp2_with fail
              go_ret
              exact ⟨by rw [HF.out]; rfl, HB0.out.trans (HBX.out.mono (by omega))⟩
    · have HF : Hid (tsh e = false) := by
        show _ = _
        rw [HT.out]
        by_cases h1 : nml ≤ 100
        · have : ¬ nn ≤ 40 := fun h => hq ⟨h1, h⟩
          simp; intros; omega
        · simp; intros; omega
      have hq' : (100 : Int) < nml ∨ (¬ (100 : Int) < nml ∧ (40 : Int) < nn) := by omega
      clear hq
      rcases hq' with q1 | ⟨q1, q2⟩
      · go_enter Tryd.func18, Tryd.ntmps18
        go_wp2_with fail
        go_ret
        exact ⟨by rw [HF.out]; rfl, HB0.out⟩
      · go_enter Tryd.func18, Tryd.ntmps18
        go_wp2_with fail
        go_ret
        exact ⟨by rw [HF.out]; rfl, HB0.out⟩
set_option maxHeartbeats 2000000 in
set_option maxRecDepth 100000 in
theorem few_any (e : Tr) {P : Nat → Prop} {w : World} {pn pk : Option Addr} {cn ck : Nat} (hP : ∀ b, P b → b < w.heap.size) (hE : TrIn P w e [.int .i64 e.kd, .string (S e.nm), .int .i64 e.nu, .slice pn e.ns.length cn, .slice pk e.ks.length ck]) :
    Calls Tryd.prog 7 #[.agg (cs5 e pn cn pk ck)] w fun r w' => r = .returned (.bool (fewM e)) ∧ Below w.heap.size w w' := by
  have HS := hide fun W (hb : Below w.heap.size w W) => rsize_any e (w := W) (m := 2000) (fun b hb' => Nat.lt_of_lt_of_le (hP b hb') hb.size) (TrIn.keep (KP.of_below hb hP) (fun b hb => hb) _ _ hE) (by omega)
  have HD := hide fun W (hb : Below w.heap.size w W) => rdepth_any e (w := W) (m := 40) (fun b hb' => Nat.lt_of_lt_of_le (hP b hb') hb.size) (TrIn.keep (KP.of_below hb hP) (fun b hb => hb) _ _ hE) (by omega)
  have HT := hide fun W (hb : Below w.heap.size w W) => rshort_any e (w := W) (fun b hb' => Nat.lt_of_lt_of_le (hP b hb') hb.size) (TrIn.keep (KP.of_below hb hP) (fun b hb => hb) _ _ hE)
  have hB0 : Below w.heap.size w (w.alloc (.cells (cs5 e pn cn pk ck) 25)) := (Below.refl _ w).alloc (Nat.le_refl _) _
  have hW : Hold w.heap.size (cs5 e pn cn pk ck) 25 (w.alloc (.cells (cs5 e pn cn pk ck) 25)) := Hold.new w _ 25
  have HB0 := hide hB0
  have HW := hide hW
  have HF : Hid (fewM e = (decide (tsz e ≤ 2000) && decide (tdp e ≤ 40) && tsh e)) := rfl
  clear hE hP hB0 hW
  unfold cs5 at *
  generalize fewM e = fe at *
  generalize hmn : min (tsz e) (2000 + 1) = mn at *
  generalize hdn : min (tdp e) (40 + 1) = dn at *
  generalize tsh e = te at *
  have HMN := hide hmn
  have HDN := hide hdn
  have hmb : mn ≤ 2001 := by omega
  have hdb : dn ≤ 41 := by omega
  clear hmn hdn
  have hw1 : (w.alloc (.cells #[.int .i64 e.kd, .string (S e.nm), .int .i64 e.nu, .slice pn e.ns.length cn, .slice pk e.ks.length ck] 25)).heap.size = w.heap.size + 1 := by simp
  have HWS := hide hw1
  clear hw1
  by_cases h1 : (2000 : Int) < mn
  · go_enter Tryd.func7, Tryd.ntmps7
    go_wp2_with fail
    refine (HS.out _ HB0.out).mono ?_
    rintro r w1 ⟨rfl, hb1⟩
    have HB1 := hide hb1
    clear hb1
    go_wp2_with fail
    go_ret
    refine ⟨?_, HB0.out.trans (HB1.out.mono (by have := HB0.out.size; exact this))⟩
    rw [HF.out]
    have := HMN.out
    have h : ¬ tsz e ≤ 2000 := by omega
    simp [h]
  · by_cases h2 : (40 : Int) < dn
    · go_enter Tryd.func7, Tryd.ntmps7
      go_wp2_with fail
      refine (HS.out _ HB0.out).mono ?_
      rintro r w1 ⟨rfl, hb1⟩
      have hW1 := (HW.out.below hb1 (by have := HWS.out; omega))
      have HW1 := hide hW1
      have c0 := hW1.cell 0
      have c1 := hW1.cell 1
      have c2 := hW1.cell 2
      have c3 := hW1.cell 3
      have c4 := hW1.cell 4
      simp only [List.getElem?_toArray, List.getElem?_cons_succ, List.getElem?_cons_zero, Nat.zero_add] at c0 c1 c2 c3 c4
      have HB1 := hide (HB0.out.trans (hb1.mono HB0.out.size))
      clear hb1 hW1
      go_wp2_with fail
      refine (HD.out _ HB1.out).mono ?_
      rintro r w2 ⟨rfl, hb2⟩
      have HB2 := hide (HB1.out.trans (hb2.mono HB1.out.size))
      clear hb2
      go_wp2_with fail
      go_ret
      refine ⟨?_, HB2.out⟩
      rw [HF.out]
      have := HDN.out
      have h : ¬ tdp e ≤ 40 := by omega
      simp [h]
    · go_enter Tryd.func7, Tryd.ntmps7
      go_wp2_with fail
      refine (HS.out _ HB0.out).mono ?_
      rintro r w1 ⟨rfl, hb1⟩
      have HLT := hide (Nat.lt_of_lt_of_le (by have := HWS.out; omega : w.heap.size < _) hb1.size)
      have hW1 := (HW.out.below hb1 (by have := HWS.out; omega))
      have HW1 := hide hW1
      have c0 := hW1.cell 0
      have c1 := hW1.cell 1
      have c2 := hW1.cell 2
      have c3 := hW1.cell 3
      have c4 := hW1.cell 4
      simp only [List.getElem?_toArray, List.getElem?_cons_succ, List.getElem?_cons_zero, Nat.zero_add] at c0 c1 c2 c3 c4
      have HB1 := hide (HB0.out.trans (hb1.mono HB0.out.size))
      clear hb1 hW1
      go_wp2_with fail
      refine (HD.out _ HB1.out).mono ?_
      rintro r w2 ⟨rfl, hb2⟩
      have HB2 := hide (HB1.out.trans (hb2.mono HB1.out.size))
      clear c0 c1 c2 c3 c4
      have hW2 := (HW1.out.below hb2 (by have := HB1.out.size; have := HWS.out; exact HLT.out))
      have c0 := hW2.cell 0
      have c1 := hW2.cell 1
      have c2 := hW2.cell 2
      have c3 := hW2.cell 3
      have c4 := hW2.cell 4
      simp only [List.getElem?_toArray, List.getElem?_cons_succ, List.getElem?_cons_zero, Nat.zero_add] at c0 c1 c2 c3 c4
      clear hb2 hW2
      go_wp2_with fail
      refine (HT.out _ HB2.out).mono ?_
      rintro r w3 ⟨rfl, hb3⟩
      have HB3 := hide (HB2.out.trans (hb3.mono HB2.out.size))
      clear hb3
      go_wp2_with fail
      go_ret
      refine ⟨?_, HB3.out⟩
      rw [HF.out]
      have e1 := HDN.out
      have e2 := HMN.out
      have q1 : tdp e ≤ 40 := by omega
      have q2 : tsz e ≤ 2000 := by omega
      simp [q1, q2]
end Go.Proofs.YtebcdjlhmoffjaaDoor
