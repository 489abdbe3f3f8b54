/-
  THE WALKS OF dawdlerref04's Sound AND Check.
-/
import Derived.Test.YtebcdjlhmoffjaaDoorRefWays
namespace Go.Proofs.YtebcdjlhmoffjaaDoor
open Go.RowKit
set_option linter.unusedVariables false
set_option linter.unusedSimpArgs false
theorem kd_cases (k : Int) : k < 1 ∨ 13 < k ∨ (k = 1 ∨ k = 2 ∨ k = 3) ∨ k = 7 ∨ (k = 11 ∨ k = 12) ∨ (k = 4 ∨ k = 6 ∨ k = 13) ∨ k = 8 ∨ k = 9 ∨ (k = 5 ∨ k = 10) := by omega
set_option maxHeartbeats 8000000 in
set_option maxRecDepth 100000 in
theorem rsound_any (e : Tr) : RS e := by
  induction e using Tr.ind with
  | _ e ih =>
    intro P w pn pk cn ck hP hE
    obtain ⟨hEM, hkl, hSM, hnl, hnm⟩ := em_of hE
    have hB0 : Below w.heap.size w (w.alloc (.cells (cs5 e pn cn pk ck) 25)) := (Below.refl _ w).alloc (Nat.le_refl _) _
    have hW : Hold w.heap.size (cs5 e pn cn pk ck) 25 (w.alloc (.cells (cs5 e pn cn pk ck) 25)) := Hold.new w _ 25
    have HPL := hide fun W => rplain_any e pn cn pk ck W
    have HLF := hide fun W => rleaf_any e pn cn pk ck W hnm hkl
    have HWY := hide fun W (hb : Below w.heap.size w W) => rways_any ih (w := W) (P := P) (pn := pn) (cn := cn) (pk := pk) (ck := ck) (fun b hb' => Nat.lt_of_lt_of_le (hP b hb') hb.size) (TrIn.keep (KP.of_below hb hP) (fun b hb => hb) _ _ hE)
    have HBL := hide fun W (hb : Below w.heap.size w W) => rblock_any ih (w := W) (P := P) (pn := pn) (cn := cn) (pk := pk) (ck := ck) (fun b hb' => Nat.lt_of_lt_of_le (hP b hb') hb.size) (TrIn.keep (KP.of_below hb hP) (fun b hb => hb) _ _ hE)
    have HKD := hide fun W (hb : Below w.heap.size w W) => rkids_any ih (w := W) (P := P) (pk := pk) (ck := ck) (may := 0) (fun b hb' => Nat.lt_of_lt_of_le (hP b hb') hb.size) hkl (EM.keep (KP.of_below hb hP) (fun b hb => hb) hEM)
    have HNS := hide fun W (hb : Below w.heap.size w W) (mk : Int) => rnames_any (w := W) (P := P) (p := pn) (c := cn) (mk := mk) hnl (fun b hb' => Nat.lt_of_lt_of_le (hP b hb') hb.size) (hSM.keep (KP.of_below hb hP))
    have HCN := hide fun W => rcon_any e.nm W hnm
    have HIS := hide fun W => ris_any e.nm W
    have HT := hide (rsoundM_eq e)
    have HBD : Hid (rbindM e = (decide (e.ks.length = manyK e.kd) && rkidsM e.ks 0 && (if e.kd = 4 ∨ e.kd = 6 ∨ e.kd = 13 then rnamesM e.ns 1 else if e.kd = 8 then rnamesM e.ns (-1) && Go.Proofs.YtebcdjlhmoffjaaDoor.cn e.nm else if e.kd = 9 then isOp e.nm || isCmp e.nm else true))) := rfl
    have HW := hide hW
    have HB0 := hide hB0
    clear ih hE hEM hSM hnm hW hB0
    generalize rsoundM e = rv at *
    generalize rplainM e = pl at *
    generalize rleafM e = lf at *
    generalize rwaysM e = wy at *
    generalize rblockM e = bl at *
    generalize rbindM e = bd at *
    generalize rkidsM e.ks 0 = kz at *
    unfold cs5 at *
    obtain ⟨kd, nm', nu, ns, ks⟩ := e
    simp only at *
    generalize ks.length = nk at *
    generalize hnn : ns.length = nn at *
    clear hnn
    generalize isOp nm' = io at *
    generalize isCmp nm' = ic at *
    generalize Go.Proofs.YtebcdjlhmoffjaaDoor.cn nm' = cc at *
    generalize hr1 : rnamesM ns 1 = r1 at *
    generalize hr2 : rnamesM ns (-1) = r2 at *
    have HN1 := hide fun W hb => HNS.out W hb 1
    have HN2 := hide fun W hb => HNS.out W hb (-1)
    rw [hr1] at HN1
    rw [hr2] at HN2
    clear HNS hr1 hr2
    generalize S nm' = sb at *
    have hS : (w.alloc (.cells #[.int .i64 kd, .string sb, .int .i64 nu, .slice pn nn cn, .slice pk nk ck] 25)).heap.size = w.heap.size + 1 := by simp
    have HWS := hide hS
    clear hS
    cases pl
    · have HF : Hid (rv = false) := by show _ = _; rw [HT.out]; simp
      go_enter Tryd.func27, Tryd.ntmps27
      go_wp2_with fail
      refine (HPL.out _).mono ?_
      rintro r w1 ⟨rfl, hb1⟩
      have HB1 := hide (HB0.out.trans (hb1.mono HB0.out.size))
      clear hb1
      go_wp2_with fail
      go_ret
      exact ⟨by rw [HF.out]; rfl, HB1.out⟩
    · rcases kd_cases kd with h | h | h | rfl | h | (rfl | rfl | rfl) | rfl | rfl | (rfl | rfl)
      · have HF : Hid (rv = false) := by show _ = _; rw [HT.out]; simp; omega
        go_enter Tryd.func27, Tryd.ntmps27
        go_wp2_with fail
        refine (HPL.out _).mono ?_
        rintro r w1 ⟨rfl, hb1⟩
        have c0 := (HW.out.below hb1 (by have := HWS.out; omega)).cell 0
        simp only [List.getElem?_toArray, List.getElem?_cons_succ, List.getElem?_cons_zero] at c0
        have HB1 := hide (HB0.out.trans (hb1.mono HB0.out.size))
        clear hb1
        go_wp2_with fail
        go_ret
        exact ⟨by rw [HF.out]; rfl, HB1.out⟩
      · have HF : Hid (rv = false) := by show _ = _; rw [HT.out]; simp; omega
        have h' : ¬ kd < 1 := by omega
        go_enter Tryd.func27, Tryd.ntmps27
        go_wp2_with fail
        refine (HPL.out _).mono ?_
        rintro r w1 ⟨rfl, hb1⟩
        have c0 := (HW.out.below hb1 (by have := HWS.out; omega)).cell 0
        simp only [List.getElem?_toArray, List.getElem?_cons_succ, List.getElem?_cons_zero] at c0
        have HB1 := hide (HB0.out.trans (hb1.mono HB0.out.size))
        clear hb1
        go_wp2_with fail
        go_ret
        exact ⟨by rw [HF.out]; rfl, HB1.out⟩
      · have HF : Hid (rv = lf) := by show _ = _; rw [HT.out]; rcases h with rfl | rfl | rfl <;> simp
        rcases h with rfl | rfl | rfl <;>
        · go_enter Tryd.func27, Tryd.ntmps27
          go_wp2_with fail
          refine (HPL.out _).mono ?_
          rintro r w1 ⟨rfl, hb1⟩
          have hW1 := (HW.out.below hb1 (by have := HWS.out; omega))
          have c0 := hW1.cell 0
          have c1 := hW1.cell 1
          have c2 := hW1.cell 2
          have c3 := hW1.cell 3
          have c4 := hW1.cell 4
          simp only [List.getElem?_toArray, List.getElem?_cons_succ, List.getElem?_cons_zero, Nat.zero_add] at c0 c1 c2 c3 c4
          have HB1 := hide (HB0.out.trans (hb1.mono HB0.out.size))
          clear hb1 hW1
          go_wp2_with fail
          refine (HLF.out _).mono ?_
          rintro r w2 ⟨rfl, hb2⟩
          have HB2 := hide (HB1.out.trans (hb2.mono HB1.out.size))
          clear hb2
          go_wp2_with fail
          go_ret
          exact ⟨by rw [HF.out]; rfl, HB2.out⟩
      · have HF : Hid (rv = wy) := by show _ = _; rw [HT.out]; simp
        go_enter Tryd.func27, Tryd.ntmps27
        go_wp2_with fail
        refine (HPL.out _).mono ?_
        rintro r w1 ⟨rfl, hb1⟩
        have hW1 := (HW.out.below hb1 (by have := HWS.out; omega))
        have c0 := hW1.cell 0
        have c1 := hW1.cell 1
        have c2 := hW1.cell 2
        have c3 := hW1.cell 3
        have c4 := hW1.cell 4
        simp only [List.getElem?_toArray, List.getElem?_cons_succ, List.getElem?_cons_zero, Nat.zero_add] at c0 c1 c2 c3 c4
        have HB1 := hide (HB0.out.trans (hb1.mono HB0.out.size))
        clear hb1 hW1
        go_wp2_with fail
        refine (HWY.out _ HB1.out).mono ?_
        rintro r w2 ⟨rfl, hb2⟩
        have HB2 := hide (HB1.out.trans (hb2.mono HB1.out.size))
        clear hb2
        go_wp2_with fail
        go_ret
        exact ⟨by rw [HF.out]; rfl, HB2.out⟩
      · have HF : Hid (rv = bl) := by show _ = _; rw [HT.out]; rcases h with rfl | rfl <;> simp
        rcases h with rfl | rfl <;>
        · go_enter Tryd.func27, Tryd.ntmps27
          go_wp2_with fail
          refine (HPL.out _).mono ?_
          rintro r w1 ⟨rfl, hb1⟩
          have hW1 := (HW.out.below hb1 (by have := HWS.out; omega))
          have c0 := hW1.cell 0
          have c1 := hW1.cell 1
          have c2 := hW1.cell 2
          have c3 := hW1.cell 3
          have c4 := hW1.cell 4
          simp only [List.getElem?_toArray, List.getElem?_cons_succ, List.getElem?_cons_zero, Nat.zero_add] at c0 c1 c2 c3 c4
          have HB1 := hide (HB0.out.trans (hb1.mono HB0.out.size))
          clear hb1 hW1
          go_wp2_with fail
          refine (HBL.out _ HB1.out).mono ?_
          rintro r w2 ⟨rfl, hb2⟩
          have HB2 := hide (HB1.out.trans (hb2.mono HB1.out.size))
          clear hb2
          go_wp2_with fail
          go_ret
          exact ⟨by rw [HF.out]; rfl, HB2.out⟩
      · have HF : Hid (rv = bd) := by show _ = _; rw [HT.out]; simp
        rw [← HF.out] at HBD
        simp only [show manyK 4 = 1 from rfl] at HBD
        by_cases hn : ¬ nk = 1
        · have hn1 : ¬ (nk : Int) = 1 := by omega
          have hn2 : ((nk : Int) == 1) = false := by simp; omega
          have HZ : Hid (rv = false) := by show _ = _; rw [HBD.out]; simp [hn]
          go_enter Tryd.func27, Tryd.ntmps27
          go_wp2_with fail
          refine (HPL.out _).mono ?_
          rintro r w1 ⟨rfl, hb1⟩
          have hW1 := (HW.out.below hb1 (by have := HWS.out; omega))
          have c0 := hW1.cell 0
          have c4 := hW1.cell 4
          simp only [List.getElem?_toArray, List.getElem?_cons_succ, List.getElem?_cons_zero, Nat.zero_add] at c0 c4
          have HLT := hide (Nat.lt_of_lt_of_le (by have := HWS.out; omega : w.heap.size < _) hb1.size)
          have HW1 := hide hW1
          have HB1 := hide (HB0.out.trans (hb1.mono HB0.out.size))
          clear hb1 hW1
          go_wp2_with fail
          go_ret
          exact ⟨by rw [HZ.out]; rfl, HB1.out⟩
        · obtain rfl : nk = 1 := by omega
          cases kz
          · have HZ : Hid (rv = false) := by show _ = _; rw [HBD.out]; simp
            go_enter Tryd.func27, Tryd.ntmps27
            go_wp2_with fail
            refine (HPL.out _).mono ?_
            rintro r w1 ⟨rfl, hb1⟩
            have hW1 := (HW.out.below hb1 (by have := HWS.out; omega))
            have c0 := hW1.cell 0
            have c4 := hW1.cell 4
            simp only [List.getElem?_toArray, List.getElem?_cons_succ, List.getElem?_cons_zero, Nat.zero_add] at c0 c4
            have HLT := hide (Nat.lt_of_lt_of_le (by have := HWS.out; omega : w.heap.size < _) hb1.size)
            have HW1 := hide hW1
            have HB1 := hide (HB0.out.trans (hb1.mono HB0.out.size))
            clear hb1 hW1
            go_wp2_with fail
            refine (HKD.out _ HB1.out).mono ?_
            rintro r w2 ⟨rfl, hb2⟩
            have hW2 := (HW1.out.below hb2 HLT.out)
            clear c0 c4
            have c0 := hW2.cell 0
            have c1 := hW2.cell 1
            have c3 := hW2.cell 3
            simp only [List.getElem?_toArray, List.getElem?_cons_succ, List.getElem?_cons_zero, Nat.zero_add] at c0 c1 c3
            have HLT2 := hide (Nat.lt_of_lt_of_le HLT.out hb2.size)
            have HW2 := hide hW2
            have HB2 := hide (HB1.out.trans (hb2.mono HB1.out.size))
            clear hb2 hW2
            go_wp2_with fail
            go_ret
            exact ⟨by rw [HZ.out]; rfl, HB2.out⟩
          · have HZ : Hid (rv = r1) := by show _ = _; rw [HBD.out]; simp
            go_enter Tryd.func27, Tryd.ntmps27
            go_wp2_with fail
            refine (HPL.out _).mono ?_
            rintro r w1 ⟨rfl, hb1⟩
            have hW1 := (HW.out.below hb1 (by have := HWS.out; omega))
            have c0 := hW1.cell 0
            have c4 := hW1.cell 4
            simp only [List.getElem?_toArray, List.getElem?_cons_succ, List.getElem?_cons_zero, Nat.zero_add] at c0 c4
            have HLT := hide (Nat.lt_of_lt_of_le (by have := HWS.out; omega : w.heap.size < _) hb1.size)
            have HW1 := hide hW1
            have HB1 := hide (HB0.out.trans (hb1.mono HB0.out.size))
            clear hb1 hW1
            go_wp2_with fail
            refine (HKD.out _ HB1.out).mono ?_
            rintro r w2 ⟨rfl, hb2⟩
            have hW2 := (HW1.out.below hb2 HLT.out)
            clear c0 c4
            have c0 := hW2.cell 0
            have c1 := hW2.cell 1
            have c3 := hW2.cell 3
            simp only [List.getElem?_toArray, List.getElem?_cons_succ, List.getElem?_cons_zero, Nat.zero_add] at c0 c1 c3
            have HLT2 := hide (Nat.lt_of_lt_of_le HLT.out hb2.size)
            have HW2 := hide hW2
            have HB2 := hide (HB1.out.trans (hb2.mono HB1.out.size))
            clear hb2 hW2
            go_wp2_with fail
            refine (HN1.out _ HB2.out).mono ?_
            rintro r w3 ⟨rfl, hb3⟩
            have HB3 := hide (HB2.out.trans (hb3.mono HB2.out.size))
            clear hb3
            go_wp2_with fail
            go_ret
            exact ⟨by rw [HZ.out]; rfl, HB3.out⟩
      · have HF : Hid (rv = bd) := by show _ = _; rw [HT.out]; simp
        rw [← HF.out] at HBD
        simp only [show manyK 6 = 2 from rfl] at HBD
        by_cases hn : ¬ nk = 2
        · have hn1 : ¬ (nk : Int) = 2 := by omega
          have hn2 : ((nk : Int) == 2) = false := by simp; omega
          have HZ : Hid (rv = false) := by show _ = _; rw [HBD.out]; simp [hn]
          go_enter Tryd.func27, Tryd.ntmps27
          go_wp2_with fail
          refine (HPL.out _).mono ?_
          rintro r w1 ⟨rfl, hb1⟩
          have hW1 := (HW.out.below hb1 (by have := HWS.out; omega))
          have c0 := hW1.cell 0
          have c4 := hW1.cell 4
          simp only [List.getElem?_toArray, List.getElem?_cons_succ, List.getElem?_cons_zero, Nat.zero_add] at c0 c4
          have HLT := hide (Nat.lt_of_lt_of_le (by have := HWS.out; omega : w.heap.size < _) hb1.size)
          have HW1 := hide hW1
          have HB1 := hide (HB0.out.trans (hb1.mono HB0.out.size))
          clear hb1 hW1
          go_wp2_with fail
          go_ret
          exact ⟨by rw [HZ.out]; rfl, HB1.out⟩
        · obtain rfl : nk = 2 := by omega
          cases kz
          · have HZ : Hid (rv = false) := by show _ = _; rw [HBD.out]; simp
            go_enter Tryd.func27, Tryd.ntmps27
            go_wp2_with fail
            refine (HPL.out _).mono ?_
            rintro r w1 ⟨rfl, hb1⟩
            have hW1 := (HW.out.below hb1 (by have := HWS.out; omega))
            have c0 := hW1.cell 0
            have c4 := hW1.cell 4
            simp only [List.getElem?_toArray, List.getElem?_cons_succ, List.getElem?_cons_zero, Nat.zero_add] at c0 c4
            have HLT := hide (Nat.lt_of_lt_of_le (by have := HWS.out; omega : w.heap.size < _) hb1.size)
            have HW1 := hide hW1
            have HB1 := hide (HB0.out.trans (hb1.mono HB0.out.size))
            clear hb1 hW1
            go_wp2_with fail
            refine (HKD.out _ HB1.out).mono ?_
            rintro r w2 ⟨rfl, hb2⟩
            have hW2 := (HW1.out.below hb2 HLT.out)
            clear c0 c4
            have c0 := hW2.cell 0
            have c1 := hW2.cell 1
            have c3 := hW2.cell 3
            simp only [List.getElem?_toArray, List.getElem?_cons_succ, List.getElem?_cons_zero, Nat.zero_add] at c0 c1 c3
            have HLT2 := hide (Nat.lt_of_lt_of_le HLT.out hb2.size)
            have HW2 := hide hW2
            have HB2 := hide (HB1.out.trans (hb2.mono HB1.out.size))
            clear hb2 hW2
            go_wp2_with fail
            go_ret
            exact ⟨by rw [HZ.out]; rfl, HB2.out⟩
          · have HZ : Hid (rv = r1) := by show _ = _; rw [HBD.out]; simp
            go_enter Tryd.func27, Tryd.ntmps27
            go_wp2_with fail
            refine (HPL.out _).mono ?_
            rintro r w1 ⟨rfl, hb1⟩
            have hW1 := (HW.out.below hb1 (by have := HWS.out; omega))
            have c0 := hW1.cell 0
            have c4 := hW1.cell 4
            simp only [List.getElem?_toArray, List.getElem?_cons_succ, List.getElem?_cons_zero, Nat.zero_add] at c0 c4
            have HLT := hide (Nat.lt_of_lt_of_le (by have := HWS.out; omega : w.heap.size < _) hb1.size)
            have HW1 := hide hW1
            have HB1 := hide (HB0.out.trans (hb1.mono HB0.out.size))
            clear hb1 hW1
            go_wp2_with fail
            refine (HKD.out _ HB1.out).mono ?_
            rintro r w2 ⟨rfl, hb2⟩
            have hW2 := (HW1.out.below hb2 HLT.out)
            clear c0 c4
            have c0 := hW2.cell 0
            have c1 := hW2.cell 1
            have c3 := hW2.cell 3
            simp only [List.getElem?_toArray, List.getElem?_cons_succ, List.getElem?_cons_zero, Nat.zero_add] at c0 c1 c3
            have HLT2 := hide (Nat.lt_of_lt_of_le HLT.out hb2.size)
            have HW2 := hide hW2
            have HB2 := hide (HB1.out.trans (hb2.mono HB1.out.size))
            clear hb2 hW2
            go_wp2_with fail
            refine (HN1.out _ HB2.out).mono ?_
            rintro r w3 ⟨rfl, hb3⟩
            have HB3 := hide (HB2.out.trans (hb3.mono HB2.out.size))
            clear hb3
            go_wp2_with fail
            go_ret
            exact ⟨by rw [HZ.out]; rfl, HB3.out⟩
      · have HF : Hid (rv = bd) := by show _ = _; rw [HT.out]; simp
        rw [← HF.out] at HBD
        simp only [show manyK 13 = 1 from rfl] at HBD
        by_cases hn : ¬ nk = 1
        · have hn1 : ¬ (nk : Int) = 1 := by omega
          have hn2 : ((nk : Int) == 1) = false := by simp; omega
          have HZ : Hid (rv = false) := by show _ = _; rw [HBD.out]; simp [hn]
          go_enter Tryd.func27, Tryd.ntmps27
          go_wp2_with fail
          refine (HPL.out _).mono ?_
          rintro r w1 ⟨rfl, hb1⟩
          have hW1 := (HW.out.below hb1 (by have := HWS.out; omega))
          have c0 := hW1.cell 0
          have c4 := hW1.cell 4
          simp only [List.getElem?_toArray, List.getElem?_cons_succ, List.getElem?_cons_zero, Nat.zero_add] at c0 c4
          have HLT := hide (Nat.lt_of_lt_of_le (by have := HWS.out; omega : w.heap.size < _) hb1.size)
          have HW1 := hide hW1
          have HB1 := hide (HB0.out.trans (hb1.mono HB0.out.size))
          clear hb1 hW1
          go_wp2_with fail
          go_ret
          exact ⟨by rw [HZ.out]; rfl, HB1.out⟩
        · obtain rfl : nk = 1 := by omega
          cases kz
          · have HZ : Hid (rv = false) := by show _ = _; rw [HBD.out]; simp
            go_enter Tryd.func27, Tryd.ntmps27
            go_wp2_with fail
            refine (HPL.out _).mono ?_
            rintro r w1 ⟨rfl, hb1⟩
            have hW1 := (HW.out.below hb1 (by have := HWS.out; omega))
            have c0 := hW1.cell 0
            have c4 := hW1.cell 4
            simp only [List.getElem?_toArray, List.getElem?_cons_succ, List.getElem?_cons_zero, Nat.zero_add] at c0 c4
            have HLT := hide (Nat.lt_of_lt_of_le (by have := HWS.out; omega : w.heap.size < _) hb1.size)
            have HW1 := hide hW1
            have HB1 := hide (HB0.out.trans (hb1.mono HB0.out.size))
            clear hb1 hW1
            go_wp2_with fail
            refine (HKD.out _ HB1.out).mono ?_
            rintro r w2 ⟨rfl, hb2⟩
            have hW2 := (HW1.out.below hb2 HLT.out)
            clear c0 c4
            have c0 := hW2.cell 0
            have c1 := hW2.cell 1
            have c3 := hW2.cell 3
            simp only [List.getElem?_toArray, List.getElem?_cons_succ, List.getElem?_cons_zero, Nat.zero_add] at c0 c1 c3
            have HLT2 := hide (Nat.lt_of_lt_of_le HLT.out hb2.size)
            have HW2 := hide hW2
            have HB2 := hide (HB1.out.trans (hb2.mono HB1.out.size))
            clear hb2 hW2
            go_wp2_with fail
            go_ret
            exact ⟨by rw [HZ.out]; rfl, HB2.out⟩
          · have HZ : Hid (rv = r1) := by show _ = _; rw [HBD.out]; simp
            go_enter Tryd.func27, Tryd.ntmps27
            go_wp2_with fail
            refine (HPL.out _).mono ?_
            rintro r w1 ⟨rfl, hb1⟩
            have hW1 := (HW.out.below hb1 (by have := HWS.out; omega))
            have c0 := hW1.cell 0
            have c4 := hW1.cell 4
            simp only [List.getElem?_toArray, List.getElem?_cons_succ, List.getElem?_cons_zero, Nat.zero_add] at c0 c4
            have HLT := hide (Nat.lt_of_lt_of_le (by have := HWS.out; omega : w.heap.size < _) hb1.size)
            have HW1 := hide hW1
            have HB1 := hide (HB0.out.trans (hb1.mono HB0.out.size))
            clear hb1 hW1
            go_wp2_with fail
            refine (HKD.out _ HB1.out).mono ?_
            rintro r w2 ⟨rfl, hb2⟩
            have hW2 := (HW1.out.below hb2 HLT.out)
            clear c0 c4
            have c0 := hW2.cell 0
            have c1 := hW2.cell 1
            have c3 := hW2.cell 3
            simp only [List.getElem?_toArray, List.getElem?_cons_succ, List.getElem?_cons_zero, Nat.zero_add] at c0 c1 c3
            have HLT2 := hide (Nat.lt_of_lt_of_le HLT.out hb2.size)
            have HW2 := hide hW2
            have HB2 := hide (HB1.out.trans (hb2.mono HB1.out.size))
            clear hb2 hW2
            go_wp2_with fail
            refine (HN1.out _ HB2.out).mono ?_
            rintro r w3 ⟨rfl, hb3⟩
            have HB3 := hide (HB2.out.trans (hb3.mono HB2.out.size))
            clear hb3
            go_wp2_with fail
            go_ret
            exact ⟨by rw [HZ.out]; rfl, HB3.out⟩
      · have HF : Hid (rv = bd) := by show _ = _; rw [HT.out]; simp
        rw [← HF.out] at HBD
        simp only [show manyK 8 = 1 from rfl] at HBD
        by_cases hn : ¬ nk = 1
        · have hn1 : ¬ (nk : Int) = 1 := by omega
          have hn2 : ((nk : Int) == 1) = false := by simp; omega
          have HZ : Hid (rv = false) := by show _ = _; rw [HBD.out]; simp [hn]
          go_enter Tryd.func27, Tryd.ntmps27
          go_wp2_with fail
          refine (HPL.out _).mono ?_
          rintro r w1 ⟨rfl, hb1⟩
          have hW1 := (HW.out.below hb1 (by have := HWS.out; omega))
          have c0 := hW1.cell 0
          have c4 := hW1.cell 4
          simp only [List.getElem?_toArray, List.getElem?_cons_succ, List.getElem?_cons_zero, Nat.zero_add] at c0 c4
          have HLT := hide (Nat.lt_of_lt_of_le (by have := HWS.out; omega : w.heap.size < _) hb1.size)
          have HW1 := hide hW1
          have HB1 := hide (HB0.out.trans (hb1.mono HB0.out.size))
          clear hb1 hW1
          go_wp2_with fail
          go_ret
          exact ⟨by rw [HZ.out]; rfl, HB1.out⟩
        · obtain rfl : nk = 1 := by omega
          cases kz
          · have HZ : Hid (rv = false) := by show _ = _; rw [HBD.out]; simp
            go_enter Tryd.func27, Tryd.ntmps27
            go_wp2_with fail
            refine (HPL.out _).mono ?_
            rintro r w1 ⟨rfl, hb1⟩
            have hW1 := (HW.out.below hb1 (by have := HWS.out; omega))
            have c0 := hW1.cell 0
            have c4 := hW1.cell 4
            simp only [List.getElem?_toArray, List.getElem?_cons_succ, List.getElem?_cons_zero, Nat.zero_add] at c0 c4
            have HLT := hide (Nat.lt_of_lt_of_le (by have := HWS.out; omega : w.heap.size < _) hb1.size)
            have HW1 := hide hW1
            have HB1 := hide (HB0.out.trans (hb1.mono HB0.out.size))
            clear hb1 hW1
            go_wp2_with fail
            refine (HKD.out _ HB1.out).mono ?_
            rintro r w2 ⟨rfl, hb2⟩
            have hW2 := (HW1.out.below hb2 HLT.out)
            clear c0 c4
            have c0 := hW2.cell 0
            have c1 := hW2.cell 1
            have c3 := hW2.cell 3
            simp only [List.getElem?_toArray, List.getElem?_cons_succ, List.getElem?_cons_zero, Nat.zero_add] at c0 c1 c3
            have HLT2 := hide (Nat.lt_of_lt_of_le HLT.out hb2.size)
            have HW2 := hide hW2
            have HB2 := hide (HB1.out.trans (hb2.mono HB1.out.size))
            clear hb2 hW2
            go_wp2_with fail
            go_ret
            exact ⟨by rw [HZ.out]; rfl, HB2.out⟩
          · cases r2
            · have HZ : Hid (rv = false) := by show _ = _; rw [HBD.out]; simp
              go_enter Tryd.func27, Tryd.ntmps27
              go_wp2_with fail
              refine (HPL.out _).mono ?_
              rintro r w1 ⟨rfl, hb1⟩
              have hW1 := (HW.out.below hb1 (by have := HWS.out; omega))
              have c0 := hW1.cell 0
              have c4 := hW1.cell 4
              simp only [List.getElem?_toArray, List.getElem?_cons_succ, List.getElem?_cons_zero, Nat.zero_add] at c0 c4
              have HLT := hide (Nat.lt_of_lt_of_le (by have := HWS.out; omega : w.heap.size < _) hb1.size)
              have HW1 := hide hW1
              have HB1 := hide (HB0.out.trans (hb1.mono HB0.out.size))
              clear hb1 hW1
              go_wp2_with fail
              refine (HKD.out _ HB1.out).mono ?_
              rintro r w2 ⟨rfl, hb2⟩
              have hW2 := (HW1.out.below hb2 HLT.out)
              clear c0 c4
              have c0 := hW2.cell 0
              have c1 := hW2.cell 1
              have c3 := hW2.cell 3
              simp only [List.getElem?_toArray, List.getElem?_cons_succ, List.getElem?_cons_zero, Nat.zero_add] at c0 c1 c3
              have HLT2 := hide (Nat.lt_of_lt_of_le HLT.out hb2.size)
              have HW2 := hide hW2
              have HB2 := hide (HB1.out.trans (hb2.mono HB1.out.size))
              clear hb2 hW2
              go_wp2_with fail
              refine (HN2.out _ HB2.out).mono ?_
              rintro r w3 ⟨rfl, hb3⟩
              have HB3 := hide (HB2.out.trans (hb3.mono HB2.out.size))
              clear hb3
              go_wp2_with fail
              go_ret
              exact ⟨by rw [HZ.out]; rfl, HB3.out⟩
            · have HZ : Hid (rv = cc) := by show _ = _; rw [HBD.out]; simp
              go_enter Tryd.func27, Tryd.ntmps27
              go_wp2_with fail
              refine (HPL.out _).mono ?_
              rintro r w1 ⟨rfl, hb1⟩
              have hW1 := (HW.out.below hb1 (by have := HWS.out; omega))
              have c0 := hW1.cell 0
              have c4 := hW1.cell 4
              simp only [List.getElem?_toArray, List.getElem?_cons_succ, List.getElem?_cons_zero, Nat.zero_add] at c0 c4
              have HLT := hide (Nat.lt_of_lt_of_le (by have := HWS.out; omega : w.heap.size < _) hb1.size)
              have HW1 := hide hW1
              have HB1 := hide (HB0.out.trans (hb1.mono HB0.out.size))
              clear hb1 hW1
              go_wp2_with fail
              refine (HKD.out _ HB1.out).mono ?_
              rintro r w2 ⟨rfl, hb2⟩
              have hW2 := (HW1.out.below hb2 HLT.out)
              clear c0 c4
              have c0 := hW2.cell 0
              have c1 := hW2.cell 1
              have c3 := hW2.cell 3
              simp only [List.getElem?_toArray, List.getElem?_cons_succ, List.getElem?_cons_zero, Nat.zero_add] at c0 c1 c3
              have HLT2 := hide (Nat.lt_of_lt_of_le HLT.out hb2.size)
              have HW2 := hide hW2
              have HB2 := hide (HB1.out.trans (hb2.mono HB1.out.size))
              clear hb2 hW2
              go_wp2_with fail
              refine (HN2.out _ HB2.out).mono ?_
              rintro r w3 ⟨rfl, hb3⟩
              have hW3 := (HW2.out.below hb3 HLT2.out)
              clear c0 c1 c3
              have c1 := hW3.cell 1
              simp only [List.getElem?_toArray, List.getElem?_cons_succ, List.getElem?_cons_zero, Nat.zero_add] at c1
              have HB3 := hide (HB2.out.trans (hb3.mono HB2.out.size))
              clear hb3 hW3
              go_wp2_with fail
              refine (HCN.out _).mono ?_
              rintro r w4 ⟨rfl, rfl⟩
              go_wp2_with fail
              go_ret
              exact ⟨by rw [HZ.out]; rfl, HB3.out⟩
      · have HF : Hid (rv = bd) := by show _ = _; rw [HT.out]; simp
        rw [← HF.out] at HBD
        simp only [show manyK 9 = 2 from rfl] at HBD
        by_cases hn : ¬ nk = 2
        · have hn1 : ¬ (nk : Int) = 2 := by omega
          have hn2 : ((nk : Int) == 2) = false := by simp; omega
          have HZ : Hid (rv = false) := by show _ = _; rw [HBD.out]; simp [hn]
          go_enter Tryd.func27, Tryd.ntmps27
          go_wp2_with fail
          refine (HPL.out _).mono ?_
          rintro r w1 ⟨rfl, hb1⟩
          have hW1 := (HW.out.below hb1 (by have := HWS.out; omega))
          have c0 := hW1.cell 0
          have c4 := hW1.cell 4
          simp only [List.getElem?_toArray, List.getElem?_cons_succ, List.getElem?_cons_zero, Nat.zero_add] at c0 c4
          have HLT := hide (Nat.lt_of_lt_of_le (by have := HWS.out; omega : w.heap.size < _) hb1.size)
          have HW1 := hide hW1
          have HB1 := hide (HB0.out.trans (hb1.mono HB0.out.size))
          clear hb1 hW1
          go_wp2_with fail
          go_ret
          exact ⟨by rw [HZ.out]; rfl, HB1.out⟩
        · obtain rfl : nk = 2 := by omega
          have HZ : Hid (rv = (kz && (io || ic))) := by show _ = _; rw [HBD.out]; simp
          clear HBD HF HT
          cases kz <;> cases io <;>
          · go_enter Tryd.func27, Tryd.ntmps27
            go_wp2_with fail
            refine (HPL.out _).mono ?_
            rintro r w1 ⟨rfl, hb1⟩
            have hW1 := (HW.out.below hb1 (by have := HWS.out; omega))
            have c0 := hW1.cell 0
            have c4 := hW1.cell 4
            simp only [List.getElem?_toArray, List.getElem?_cons_succ, List.getElem?_cons_zero, Nat.zero_add] at c0 c4
            have HLT := hide (Nat.lt_of_lt_of_le (by have := HWS.out; omega : w.heap.size < _) hb1.size)
            have HW1 := hide hW1
            have HB1 := hide (HB0.out.trans (hb1.mono HB0.out.size))
            clear hb1 hW1
            go_wp2_with fail
            refine (HKD.out _ HB1.out).mono ?_
            rintro r w2 ⟨rfl, hb2⟩
            have hW2 := (HW1.out.below hb2 HLT.out)
            clear c0 c4
            have c0 := hW2.cell 0
            have c1 := hW2.cell 1
            have c3 := hW2.cell 3
            simp only [List.getElem?_toArray, List.getElem?_cons_succ, List.getElem?_cons_zero, Nat.zero_add] at c0 c1 c3
            have HLT2 := hide (Nat.lt_of_lt_of_le HLT.out hb2.size)
            have HW2 := hide hW2
            have HB2 := hide (HB1.out.trans (hb2.mono HB1.out.size))
            clear hb2 hW2
            go_wp2_with fail
            refine (HIS.out _).mono ?_
            rintro r w4 ⟨rfl, rfl⟩
            go_wp2_with fail
            go_ret
            exact ⟨by rw [HZ.out]; rfl, HB2.out⟩
      · have HF : Hid (rv = bd) := by show _ = _; rw [HT.out]; simp
        rw [← HF.out] at HBD
        simp only [show manyK 5 = 2 from rfl] at HBD
        by_cases hn : ¬ nk = 2
        · have hn1 : ¬ (nk : Int) = 2 := by omega
          have hn2 : ((nk : Int) == 2) = false := by simp; omega
          have HZ : Hid (rv = false) := by show _ = _; rw [HBD.out]; simp [hn]
          go_enter Tryd.func27, Tryd.ntmps27
          go_wp2_with fail
          refine (HPL.out _).mono ?_
          rintro r w1 ⟨rfl, hb1⟩
          have hW1 := (HW.out.below hb1 (by have := HWS.out; omega))
          have c0 := hW1.cell 0
          have c4 := hW1.cell 4
          simp only [List.getElem?_toArray, List.getElem?_cons_succ, List.getElem?_cons_zero, Nat.zero_add] at c0 c4
          have HLT := hide (Nat.lt_of_lt_of_le (by have := HWS.out; omega : w.heap.size < _) hb1.size)
          have HW1 := hide hW1
          have HB1 := hide (HB0.out.trans (hb1.mono HB0.out.size))
          clear hb1 hW1
          go_wp2_with fail
          go_ret
          exact ⟨by rw [HZ.out]; rfl, HB1.out⟩
        · obtain rfl : nk = 2 := by omega
          have HZ : Hid (rv = kz) := by show _ = _; rw [HBD.out]; simp
          go_enter Tryd.func27, Tryd.ntmps27
          go_wp2_with fail
          refine (HPL.out _).mono ?_
          rintro r w1 ⟨rfl, hb1⟩
          have hW1 := (HW.out.below hb1 (by have := HWS.out; omega))
          have c0 := hW1.cell 0
          have c4 := hW1.cell 4
          simp only [List.getElem?_toArray, List.getElem?_cons_succ, List.getElem?_cons_zero, Nat.zero_add] at c0 c4
          have HLT := hide (Nat.lt_of_lt_of_le (by have := HWS.out; omega : w.heap.size < _) hb1.size)
          have HW1 := hide hW1
          have HB1 := hide (HB0.out.trans (hb1.mono HB0.out.size))
          clear hb1 hW1
          go_wp2_with fail
          refine (HKD.out _ HB1.out).mono ?_
          rintro r w2 ⟨rfl, hb2⟩
          have hW2 := (HW1.out.below hb2 HLT.out)
          clear c0 c4
          have c0 := hW2.cell 0
          have c1 := hW2.cell 1
          have c3 := hW2.cell 3
          simp only [List.getElem?_toArray, List.getElem?_cons_succ, List.getElem?_cons_zero, Nat.zero_add] at c0 c1 c3
          have HLT2 := hide (Nat.lt_of_lt_of_le HLT.out hb2.size)
          have HW2 := hide hW2
          have HB2 := hide (HB1.out.trans (hb2.mono HB1.out.size))
          clear hb2 hW2
          go_wp2_with fail
          go_ret
          exact ⟨by rw [HZ.out]; rfl, HB2.out⟩
      · have HF : Hid (rv = bd) := by show _ = _; rw [HT.out]; simp
        rw [← HF.out] at HBD
        simp only [show manyK 10 = 3 from rfl] at HBD
        by_cases hn : ¬ nk = 3
        · have hn1 : ¬ (nk : Int) = 3 := by omega
          have hn2 : ((nk : Int) == 3) = false := by simp; omega
          have HZ : Hid (rv = false) := by show _ = _; rw [HBD.out]; simp [hn]
          go_enter Tryd.func27, Tryd.ntmps27
          go_wp2_with fail
          refine (HPL.out _).mono ?_
          rintro r w1 ⟨rfl, hb1⟩
          have hW1 := (HW.out.below hb1 (by have := HWS.out; omega))
          have c0 := hW1.cell 0
          have c4 := hW1.cell 4
          simp only [List.getElem?_toArray, List.getElem?_cons_succ, List.getElem?_cons_zero, Nat.zero_add] at c0 c4
          have HLT := hide (Nat.lt_of_lt_of_le (by have := HWS.out; omega : w.heap.size < _) hb1.size)
          have HW1 := hide hW1
          have HB1 := hide (HB0.out.trans (hb1.mono HB0.out.size))
          clear hb1 hW1
          go_wp2_with fail
          go_ret
          exact ⟨by rw [HZ.out]; rfl, HB1.out⟩
        · obtain rfl : nk = 3 := by omega
          have HZ : Hid (rv = kz) := by show _ = _; rw [HBD.out]; simp
          go_enter Tryd.func27, Tryd.ntmps27
          go_wp2_with fail
          refine (HPL.out _).mono ?_
          rintro r w1 ⟨rfl, hb1⟩
          have hW1 := (HW.out.below hb1 (by have := HWS.out; omega))
          have c0 := hW1.cell 0
          have c4 := hW1.cell 4
          simp only [List.getElem?_toArray, List.getElem?_cons_succ, List.getElem?_cons_zero, Nat.zero_add] at c0 c4
          have HLT := hide (Nat.lt_of_lt_of_le (by have := HWS.out; omega : w.heap.size < _) hb1.size)
          have HW1 := hide hW1
          have HB1 := hide (HB0.out.trans (hb1.mono HB0.out.size))
          clear hb1 hW1
          go_wp2_with fail
          refine (HKD.out _ HB1.out).mono ?_
          rintro r w2 ⟨rfl, hb2⟩
          have hW2 := (HW1.out.below hb2 HLT.out)
          clear c0 c4
          have c0 := hW2.cell 0
          have c1 := hW2.cell 1
          have c3 := hW2.cell 3
          simp only [List.getElem?_toArray, List.getElem?_cons_succ, List.getElem?_cons_zero, Nat.zero_add] at c0 c1 c3
          have HLT2 := hide (Nat.lt_of_lt_of_le HLT.out hb2.size)
          have HW2 := hide hW2
          have HB2 := hide (HB1.out.trans (hb2.mono HB1.out.size))
          clear hb2 hW2
          go_wp2_with fail
          go_ret
          exact ⟨by rw [HZ.out]; rfl, HB2.out⟩
end Go.Proofs.YtebcdjlhmoffjaaDoor
