/-
  THE WALK OF tree's sound.
-/
import Derived.Test.YtebcdjlhmoffjaaDoorSound2
namespace Go.Proofs.YtebcdjlhmoffjaaDoor
open Go.RowKit
set_option linter.unusedVariables false
set_option linter.unusedSimpArgs false
theorem fits_take (e : Tr) (i : Nat) (h : i < e.ks.length) : ((List.range (i + 1)).all fun i => fitsM e i (e.ks.getD i ⟨0, [], 0, [], []⟩)) = (((List.range i).all fun i => fitsM e i (e.ks.getD i ⟨0, [], 0, [], []⟩)) && fitsM e i e.ks[i]) := by
  rw [List.range_succ, List.all_append]
  simp [List.getD, h]
theorem fits_bad (e : Tr) (i : Nat) (h : i < e.ks.length) (hb : fitsM e i e.ks[i] = false) : fitsAll e = false := by
  unfold fitsAll
  rw [List.all_eq_false]
  exact ⟨i, List.mem_range.2 h, by simp [List.getD, h, hb]⟩
set_option maxHeartbeats 1000000 in
set_option maxRecDepth 100000 in
theorem sound_any {P : Nat → Prop} {e : Tr} {pn : Option Addr} {cn : Nat} {pk : Option Addr} {ck : Nat} {w : World} (hP : ∀ b, P b → b < w.heap.size) (hE : TrIn P w e [.int .i64 e.kd, .string (S e.nm), .int .i64 e.nu, .slice pn e.ns.length cn, .slice pk e.ks.length ck]) :
    Calls Tryd.prog 45 #[.agg (cs5 e pn cn pk ck)] w fun r w' => r = .returned (.bool (soundM e)) ∧ Below w.heap.size w w' := by
  obtain ⟨pn', cn', pk', ck', hcs, hnm, hnu, hsn, hsk, hSM, hEM⟩ := (TrIn_iff _ _ _ _).1 hE
  obtain ⟨rfl, rfl, rfl, rfl⟩ : pn = pn' ∧ cn = cn' ∧ pk = pk' ∧ ck = ck' := by simp at hcs; exact ⟨hcs.1.1, hcs.1.2, hcs.2.1, hcs.2.2⟩
  clear hcs
  have hn1 : e.ns.length ≤ 9223372036854775807 := Nat.le_trans hsn.1 hsn.2.1
  have hn2 : e.ks.length ≤ 9223372036854775807 := Nat.le_trans hsk.1 hsk.2.1
  have hW : Hold w.heap.size (cs5 e pn cn pk ck) 25 (w.alloc (.cells (cs5 e pn cn pk ck) 25)) := Hold.new w _ 25
  have hB0 : Below w.heap.size w (w.alloc (.cells (cs5 e pn cn pk ck) 25)) := (Below.refl _ w).alloc (Nat.le_refl _) _
  have HA := hide fun W => hasNum_any e pn cn pk ck W
  have HBn := hide fun W => hasName_any e pn cn pk ck W hnm
  have HC := hide fun W (hb : Below w.heap.size w W) => hasNames_any (cn := cn) (pk := pk) (ck := ck) (w := W) hn1 (fun b hb' => Nat.lt_of_lt_of_le (hP b hb') hb.size) (hSM.keep (KP.of_below hb hP))
  have HD := hide fun W => hasKids_any e pn cn pk ck W
  have HF := hide fun W (hb : Below w.heap.size w W) i k (hk : e.ks[i]? = some k) => fits_any (pn := pn) (cn := cn) (ck := ck) (w := W) (i := i) (k := k) hk hn2 (fun b hb' => Nat.lt_of_lt_of_le (hP b hb') hb.size) (EM.keep (KP.of_below hb hP) (fun b hb => hb) hEM)
  have HS : Hid (∀ W, Below (w.heap.size + 1) (w.alloc (.cells (cs5 e pn cn pk ck) 25)) W → W.cell? ⟨w.heap.size, 0, none⟩ = some (.int .i64 e.kd) ∧ W.cell? ⟨w.heap.size, 1, none⟩ = some (.string (S e.nm)) ∧ W.cell? ⟨w.heap.size, 2, none⟩ = some (.int .i64 e.nu) ∧ W.cell? ⟨w.heap.size, 3, none⟩ = some (.slice pn e.ns.length cn) ∧ W.cell? ⟨w.heap.size, 4, none⟩ = some (.slice pk e.ks.length ck)) := fun W hb => by
    have h := hW.below hb (Nat.lt_succ_self _)
    exact ⟨h.cell 0, h.cell 1, h.cell 2, h.cell 3, h.cell 4⟩
  have HB0 := hide hB0
  clear hW hB0 hE hSM hEM hsn hsk
  cases h1 : hasNumM e
  · have HR : Hid (soundM e = false) := by show soundM e = false; simp [soundM, h1]
    unfold cs5 at *
    go_enter Tryd.func45, Tryd.ntmps45
    go_wp2_with fail
    refine (HA.out _).mono ?_
    rintro r w1 ⟨rfl, rfl⟩
    rw [h1]
    go_wp2_with fail
    go_ret
    exact ⟨by rw [HR.out]; rfl, HB0.out.trans (((Below.refl _ _).alloc (Nat.le_refl _) _).mono HB0.out.size)⟩
  · cases h2 : hasNameM e
    · have HR : Hid (soundM e = false) := by show soundM e = false; simp [soundM, h2]
      unfold cs5 at *
      go_enter Tryd.func45, Tryd.ntmps45
      go_wp2_with fail
      refine (HA.out _).mono ?_
      rintro r w1 ⟨rfl, rfl⟩
      rw [h1]
      go_wp2_with fail
      refine (HBn.out _).mono ?_
      rintro r w2 ⟨rfl, rfl⟩
      rw [h2]
      go_wp2_with fail
      go_ret
      exact ⟨by rw [HR.out]; rfl, HB0.out.trans ((((Below.refl _ _).alloc (Nat.le_refl _) _).alloc (by simp) _).mono HB0.out.size)⟩
    · cases h3 : hasNamesM e
      · have HR : Hid (soundM e = false) := by show soundM e = false; simp [soundM, h3]
        unfold cs5 at *
        go_enter Tryd.func45, Tryd.ntmps45
        go_wp2_with fail
        refine (HA.out _).mono ?_
        rintro r w1 ⟨rfl, rfl⟩
        rw [h1]
        go_wp2_with fail
        refine (HBn.out _).mono ?_
        rintro r w2 ⟨rfl, rfl⟩
        rw [h2]
        go_wp2_with fail
        have hb2 : Below (w.heap.size + 1) (w.alloc (.cells (cs5 e pn cn pk ck) 25)) (((w.alloc (.cells (cs5 e pn cn pk ck) 25)).alloc (.cells (cs5 e pn cn pk ck) 25)).alloc (.cells (cs5 e pn cn pk ck) 25)) := ((Below.refl _ _).alloc (by simp) _).alloc (by simp) _
        refine (HC.out _ (HB0.out.trans (hb2.mono (by omega)))).mono ?_
        rintro r w3 ⟨rfl, hb3⟩
        have hb3' : Below (w.heap.size + 1) (w.alloc (.cells (cs5 e pn cn pk ck) 25)) w3 := hb2.trans (hb3.mono (by simp))
        obtain ⟨c0, c1, c2, c3, c4⟩ := HS.out w3 hb3'
        have HB3 := hide hb3'
        clear hb3 hb3' hb2
        rw [h3]
        go_wp2_with fail
        go_ret
        exact ⟨by rw [HR.out]; rfl, HB0.out.trans (HB3.out.mono (by omega))⟩
      · cases h4 : hasKidsM e
        · have HR : Hid (soundM e = false) := by show soundM e = false; simp [soundM, h4]
          unfold cs5 at *
          go_enter Tryd.func45, Tryd.ntmps45
          go_wp2_with fail
          refine (HA.out _).mono ?_
          rintro r w1 ⟨rfl, rfl⟩
          rw [h1]
          go_wp2_with fail
          refine (HBn.out _).mono ?_
          rintro r w2 ⟨rfl, rfl⟩
          rw [h2]
          go_wp2_with fail
          have hb2 : Below (w.heap.size + 1) (w.alloc (.cells (cs5 e pn cn pk ck) 25)) (((w.alloc (.cells (cs5 e pn cn pk ck) 25)).alloc (.cells (cs5 e pn cn pk ck) 25)).alloc (.cells (cs5 e pn cn pk ck) 25)) := ((Below.refl _ _).alloc (by simp) _).alloc (by simp) _
          refine (HC.out _ (HB0.out.trans (hb2.mono (by omega)))).mono ?_
          rintro r w3 ⟨rfl, hb3⟩
          have hb3' : Below (w.heap.size + 1) (w.alloc (.cells (cs5 e pn cn pk ck) 25)) w3 := hb2.trans (hb3.mono (by simp))
          obtain ⟨c0, c1, c2, c3, c4⟩ := HS.out w3 hb3'
          have HB3 := hide hb3'
          clear hb3 hb3' hb2
          rw [h3]
          go_wp2_with fail
          refine (HD.out _).mono ?_
          rintro r w4 ⟨rfl, rfl⟩
          rw [h4]
          go_wp2_with fail
          go_ret
          exact ⟨by rw [HR.out]; rfl, (HB0.out.trans (HB3.out.mono (by omega))).alloc (by have := HB3.out.size; simp at this; omega) _⟩
        · have HR : Hid (soundM e = fitsAll e) := by show soundM e = fitsAll e; simp [soundM, h1, h2, h3, h4]
          unfold cs5 at *
          go_enter Tryd.func45, Tryd.ntmps45
          go_wp2_with fail
          refine (HA.out _).mono ?_
          rintro r w1 ⟨rfl, rfl⟩
          rw [h1]
          go_wp2_with fail
          refine (HBn.out _).mono ?_
          rintro r w2 ⟨rfl, rfl⟩
          rw [h2]
          go_wp2_with fail
          have hb2 : Below (w.heap.size + 1) (w.alloc (.cells (cs5 e pn cn pk ck) 25)) (((w.alloc (.cells (cs5 e pn cn pk ck) 25)).alloc (.cells (cs5 e pn cn pk ck) 25)).alloc (.cells (cs5 e pn cn pk ck) 25)) := ((Below.refl _ _).alloc (by simp) _).alloc (by simp) _
          refine (HC.out _ (HB0.out.trans (hb2.mono (by omega)))).mono ?_
          rintro r w3 ⟨rfl, hb3⟩
          have hb3' : Below (w.heap.size + 1) (w.alloc (.cells (cs5 e pn cn pk ck) 25)) w3 := hb2.trans (hb3.mono (by simp))
          obtain ⟨c0, c1, c2, c3, c4⟩ := HS.out w3 hb3'
          have HB3 := hide hb3'
          clear hb3 hb3' hb2
          rw [h3]
          go_wp2_with fail
          refine (HD.out _).mono ?_
          rintro r w4 ⟨rfl, rfl⟩
          rw [h4]
          have hb4 : Below (w.heap.size + 1) (w.alloc (.cells (cs5 e pn cn pk ck) 25)) (w3.alloc (.cells (cs5 e pn cn pk ck) 25)) := HB3.out.alloc (by have := HB3.out.size; simpa using this) _
          obtain ⟨d0, d1, d2, d3, d4⟩ := HS.out _ hb4
          have HB4 := hide hb4
          clear hb4
          unfold cs5 at *
          generalize hmm : e.ks.length = m at *
          go_wp2_with fail
          have HML := hide hmm
          go_loopg [25] m (fun k s25 wr => ∃ i : Nat, i ≤ m ∧ k = m - i ∧ s25 = .int .i64 i ∧ Below (w.heap.size + 1) (w.alloc (.cells #[.int .i64 e.kd, .string (S e.nm), .int .i64 e.nu, .slice pn e.ns.length cn, .slice pk m ck] 25)) wr ∧ ((List.range i).all fun i => fitsM e i (e.ks.getD i ⟨0, [], 0, [], []⟩)) = true)
          case atStart => exact ⟨0, Nat.zero_le _, by omega, rfl, HB4.out, rfl⟩
          case round =>
            obtain ⟨i, hi1, rfl, rfl, hbr, hall⟩ := hrel
            obtain ⟨c0', c1', c2', c3', c4'⟩ := HS.out wr hbr
            have HBR := hide hbr
            have HALL := hide hall
            have hbw : Below w.heap.size w wr := HB0.out.trans (hbr.mono (by omega))
            by_cases hlt : i < m
            · have hil : i < e.ks.length := by omega
              have ht := fits_take e i hil
              have hbad := fits_bad e i hil
              have HFF := hide (HF.out wr hbw i e.ks[i] (by simp))
              cases hq : fitsM e i e.ks[i]
              · have HBD := hide (hbad hq)
                rw [hq] at HFF
                clear hbad ht hq hbr hall hbw
                go_wp2_with fail
                refine HFF.out.mono ?_
                rintro r w5 ⟨rfl, hb5⟩
                have HB5 := hide hb5
                clear hb5
                go_wp2_with fail
                go_ret
                exact ⟨by rw [HR.out, HBD.out]; rfl, HB0.out.trans ((HBR.out.trans (HB5.out.mono (by have := HBR.out.size; simpa using this))).mono (by omega))⟩
              · have HTK := hide ht
                have HQ := hide hq
                rw [hq] at HFF
                clear hbad ht hq hbr hall hbw
                go_wp2_with fail
                refine HFF.out.mono ?_
                rintro r w5 ⟨rfl, hb5⟩
                have HB5 := hide hb5
                clear hb5
                go_wp2_with fail
                go_roundg (m - (i + 1))
                case measure => omega
                case rel => exact ⟨i + 1, by omega, rfl, by go_num, HBR.out.trans (HB5.out.mono (by have := HBR.out.size; simpa using this)), by rw [HTK.out, HALL.out, HQ.out]; rfl⟩
            · clear hbr hall hbw
              go_wp2_with fail
              go_ret
              refine ⟨?_, HB0.out.trans (HBR.out.mono (by omega))⟩
              rw [HR.out]
              have : fitsAll e = true := by
                unfold fitsAll
                rw [HML.out, show m = i by omega]
                exact HALL.out
              rw [this]; rfl
end Go.Proofs.YtebcdjlhmoffjaaDoor
