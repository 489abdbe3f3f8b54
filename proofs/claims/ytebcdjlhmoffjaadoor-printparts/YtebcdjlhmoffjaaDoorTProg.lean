/-
  THE WALK OF tree.Prog: which programs may be.
-/
import Derived.Test.YtebcdjlhmoffjaaDoorData
namespace Go.Proofs.YtebcdjlhmoffjaaDoor
open Go.RowKit
set_option linter.unusedVariables false
set_option linter.unusedSimpArgs false
def defM (d : Df) : Bool := nm d.nm && checkM d.bd
def progM (p : Pg) : Bool := decide (p.ds.length ≤ 40) && decide (p.fs.length ≤ 40) && p.ds.all dataM && p.fs.all defM
/-- A program whose types lie in blocks of Q, whose trees lie in blocks of P. -/
def PgIn2 (Q P : Nat → Prop) (w : World) (p : Pg) (cs : List Value) : Prop := ∃ pd cd pf cf, cs = [.slice pd p.ds.length cd, .slice pf p.fs.length cf] ∧ SlOK pd p.ds.length cd ∧ SlOK pf p.fs.length cf ∧ RM 3 Q w (DtIn Q w) pd p.ds ∧ RM 6 P w (DfIn P w) pf p.fs
theorem PgIn2.keep {Q P : Nat → Prop} {w w' : World} (kq : KP Q w w') (kp : KP P w w') (f : Pg) (cs : List Value) (h : PgIn2 Q P w f cs) : PgIn2 Q P w' f cs := by
  obtain ⟨pp, cp, pf, cf, h1, h2, h3, h4, h5⟩ := h
  exact ⟨pp, cp, pf, cf, h1, h2, h3, h4.keep kq (fun b hb => hb) (DtIn.keep kq (fun b hb => hb)), h5.keep kp (fun b hb => hb) (DfIn.keep kp (fun b hb => hb))⟩
theorem PgIn2.join {Q P R : Nat → Prop} {w w' : World} (kq : KP Q w w') (kp : KP P w w') (hq : ∀ b, Q b → R b) (hp : ∀ b, P b → R b) (f : Pg) (cs : List Value) (h : PgIn2 Q P w f cs) : PgIn R w' f cs := by
  obtain ⟨pp, cp, pf, cf, h1, h2, h3, h4, h5⟩ := h
  exact ⟨pp, cp, pf, cf, h1, h2, h3, h4.keep kq hq (DtIn.keep kq hq), h5.keep kp hp (DfIn.keep kp hp)⟩
set_option maxHeartbeats 4000000 in
set_option maxRecDepth 100000 in
theorem tprog_any2 {Q P : Nat → Prop} {w : World} {p : Pg} {pd : Option Addr} {cd : Nat} {pf : Option Addr} {cf : Nat} (hQ : PL Q w) (hP : ∀ b, P b → b < w.heap.size) (hE : PgIn2 Q P w p [.slice pd p.ds.length cd, .slice pf p.fs.length cf]) (hD : ∀ d ∈ p.fs, ∀ x ∈ po d.bd 1, x.1 ≤ 1000000 ∧ x.2.ks.length ≤ 1000000) :
    Calls Tryd.prog 21 #[.agg #[.slice pd p.ds.length cd, .slice pf p.fs.length cf]] w fun r w' => r = .returned (.bool (progM p)) ∧ Below w.heap.size w w' := by
  obtain ⟨pp', cp', pf', cf', hcs, hs1, hs2, hRD, hRF⟩ := hE
  simp at hcs
  obtain ⟨⟨rfl, rfl⟩, rfl, rfl⟩ := hcs
  have hdl := Nat.le_trans hs1.1 hs1.2.1
  have hfl := Nat.le_trans hs2.1 hs2.2.1
  have HRD := hide hRD
  have HRF := hide hRF
  have HPL := hide hQ
  have HP0 := hide hP
  have HDD := hide hD
  have hB0 : Below w.heap.size w (w.alloc (.cells #[.slice pd p.ds.length cd, .slice pf p.fs.length cf] 37)) := (Below.refl _ w).alloc (Nat.le_refl _) _
  have hW : Hold w.heap.size #[.slice pd p.ds.length cd, .slice pf p.fs.length cf] 37 (w.alloc (.cells #[.slice pd p.ds.length cd, .slice pf p.fs.length cf] 37)) := Hold.new w _ 37
  have HB0 := hide hB0
  have HHW := hide hW
  have HD : Hid (progM p = (decide (p.ds.length ≤ 40) && decide (p.fs.length ≤ 40) && p.ds.all dataM && p.fs.all defM)) := rfl
  clear hRD hRF hP hQ hB0 hW hs1 hs2 hD
  generalize hnf : p.fs.length = nf at *
  have HNF := hide hnf
  generalize hdp : p.ds.length = nd at *
  have HND := hide hdp
  clear hnf hdp
  by_cases hd : ¬ nd ≤ 40
  · have HF : Hid (progM p = false) := by show _ = _; rw [HD.out]; simp [hd]
    have q : (40 : Int) < nd := by omega
    go_enter Tryd.func21, Tryd.ntmps21
    go_wp2_with fail
    go_ret
    exact ⟨by rw [HF.out]; rfl, HB0.out⟩
  replace hd : nd ≤ 40 := by omega
  by_cases hf : ¬ nf ≤ 40
  · have HF : Hid (progM p = false) := by show _ = _; rw [HD.out]; simp [hf]
    have q : ¬ (40 : Int) < nd := by omega
    have q2 : (40 : Int) < nf := by omega
    go_enter Tryd.func21, Tryd.ntmps21
    go_wp2_with fail
    go_ret
    exact ⟨by rw [HF.out]; rfl, HB0.out⟩
  replace hf : nf ≤ 40 := by omega
  have HD2 : Hid (progM p = (p.ds.all dataM && p.fs.all defM)) := by show _ = _; rw [HD.out]; simp [hd, hf]
  have q : ¬ (40 : Int) < nd := by omega
  have q2 : ¬ (40 : Int) < nf := by omega
  go_enter Tryd.func21, Tryd.ntmps21
  go_wp2_with fail
  go_loopg [20] nd (fun k s20 wr => ∃ i : Nat, i ≤ nd ∧ k = nd - i ∧ s20 = .int .i64 i ∧ Below (w.heap.size + 1) (w.alloc (.cells #[.slice pd nd cd, .slice pf nf cf] 37)) wr ∧ (p.ds.take i).all dataM = true)
  case atStart => exact ⟨0, Nat.zero_le _, by omega, rfl, Below.refl _ _, rfl⟩
  case round =>
    obtain ⟨i, hi1, rfl, rfl, hbr, hall⟩ := hrel
    have HBR := hide hbr
    have HALL := hide hall
    have hbw : Below w.heap.size w wr := HB0.out.trans (hbr.mono (by omega))
    have hsz1 : w.heap.size + 1 ≤ wr.heap.size := by have := hbr.size; simpa using this
    by_cases hlt : i < nd
    · have hil : i < p.ds.length := by rw [HND.out]; exact hlt
      rcases HRD.out with he | ⟨b, o, rfl, hPb, hma⟩
      · rw [he] at hil; simp at hil
      obtain ⟨ds, l1, c1, r1⟩ := hma i p.ds[i] (by simp)
      obtain ⟨qp, dp, qf, df, rfl, hz, hs1, hs2, hSM, hRM⟩ := r1
      have hbb := HPL.out b hPb
      have a0 := (hbw.cell (p := ⟨b, o + i * 3, none⟩) hbb.1).trans (c1 0 _ rfl)
      have a1 := (hbw.cell (p := ⟨b, o + i * 3 + 1, none⟩) hbb.1).trans (c1 1 _ rfl)
      have a2 := (hbw.cell (p := ⟨b, o + i * 3 + 2, none⟩) hbb.1).trans (c1 2 _ rfl)
      have hii : (i : Int) < nd := by omega
      have hDA := fun W (hb : Below w.heap.size w W) => data_any (w := W) (HPL.out.below (Nat.le_refl _) hb) (DtIn.keep (Q := Q) (KP.of_below hb HPL.out.lt) (fun b hb => hb) p.ds[i] _ ⟨qp, dp, qf, df, rfl, hz, hs1, hs2, hSM, hRM⟩)
      have htk : p.ds.take (i + 1) = p.ds.take i ++ [p.ds[i]] := List.take_succ_eq_append_getElem hil
      have hmem : p.ds[i] ∈ p.ds := by simp
      generalize p.ds[i] = d at *
      generalize d.ps.length = np at *
      generalize d.fs.length = nff at *
      have HDA := hide hDA
      have HTK := hide htk
      have HMEM := hide hmem
      have hBa := hbw.alloc hbw.size (.cells #[.string (S d.nm), .slice qp np dp, .slice qf nff df] 50)
      have hBb := hbr.alloc hsz1 (.cells #[.string (S d.nm), .slice qp np dp, .slice qf nff df] 50)
      have HBA := hide hBa
      have HBB := hide hBb
      clear hDA htk hmem hbr hall hma hSM hRM hs1 hs2 c1 l1 hz hbb hBa hBb hbw
      cases hdm : dataM d
      · have HF : Hid (progM p = false) := by
          show _ = _
          rw [HD2.out]
          have : p.ds.all dataM = false := by rw [List.all_eq_false]; exact ⟨d, HMEM.out, by simp [hdm]⟩
          rw [this]; rfl
        rw [hdm] at HDA
        clear hdm
        go_wp2_with fail
        refine (HDA.out _ HBA.out).mono ?_
        rintro r w2 ⟨rfl, hb2⟩
        have HB2 := hide (HBA.out.trans (hb2.mono HBA.out.size))
        clear hb2
        go_wp2_with fail
        go_ret
        exact ⟨by rw [HF.out]; rfl, HB2.out⟩
      · have HDT := hide hdm
        rw [hdm] at HDA
        clear hdm
        go_wp2_with fail
        refine (HDA.out _ HBA.out).mono ?_
        rintro r w2 ⟨rfl, hb2⟩
        have HB2 := hide (HBB.out.trans (hb2.mono (by have := HBB.out.size; simp at this ⊢; omega)))
        clear hb2
        go_wp2_with fail
        go_roundg (nd - (i + 1))
        case measure => omega
        case rel =>
          refine ⟨i + 1, by omega, rfl, by go_num, HB2.out, ?_⟩
          rw [HTK.out, List.all_append, HALL.out]
          simp [HDT.out]
    · have h1 : p.ds.take i = p.ds := List.take_of_length_le (by rw [HND.out]; omega)
      have HDT : Hid (p.ds.all dataM = true) := by show _ = _; rw [← h1]; exact HALL.out
      have hii : ¬ (i : Int) < nd := by omega
      have hH1 := HHW.out.below hbr (Nat.lt_succ_self _)
      have e1 := hH1.cell 1
      simp only [List.getElem?_toArray, List.getElem?_cons_succ, List.getElem?_cons_zero, Nat.zero_add] at e1
      have HBW := hide hbw
      clear h1 hall hbr hbw hH1
      go_wp2_with fail
      go_loopg [31] nf (fun k s31 wx => ∃ j : Nat, j ≤ nf ∧ k = nf - j ∧ s31 = .int .i64 j ∧ Below w.heap.size w wx ∧ (p.fs.take j).all defM = true)
      case atStart => exact ⟨0, Nat.zero_le _, by omega, rfl, HBW.out, rfl⟩
      case round =>
        obtain ⟨j, hj1, rfl, rfl, hbx, hall⟩ := hrel
        have HBX := hide hbx
        have HALF := hide hall
        by_cases hlt : j < nf
        · have hil : j < p.fs.length := by rw [HNF.out]; exact hlt
          rcases HRF.out with he | ⟨b, o, rfl, hPb, hma⟩
          · rw [he] at hil; simp at hil
          obtain ⟨ds, l1, c1, r1⟩ := hma j p.fs[j] (by simp)
          obtain ⟨ds', rfl, hz, hT⟩ := r1
          obtain ⟨qn, dn, qk, dk, rfl, hTT⟩ := (TrIn_iff _ _ _ _).1 hT
          have hbb : b < w.heap.size ∧ True := ⟨HP0.out b hPb, trivial⟩
          have a0 := (hbx.cell (p := ⟨b, o + j * 6, none⟩) hbb.1).trans (c1 0 _ rfl)
          have a1 := (hbx.cell (p := ⟨b, o + j * 6 + 1, none⟩) hbb.1).trans (c1 1 _ rfl)
          have a2 := (hbx.cell (p := ⟨b, o + j * 6 + 2, none⟩) hbb.1).trans (c1 2 _ rfl)
          have a3 := (hbx.cell (p := ⟨b, o + j * 6 + 3, none⟩) hbb.1).trans (c1 3 _ rfl)
          have a4 := (hbx.cell (p := ⟨b, o + j * 6 + 4, none⟩) hbb.1).trans (c1 4 _ rfl)
          have a5 := (hbx.cell (p := ⟨b, o + j * 6 + 5, none⟩) hbb.1).trans (c1 5 _ rfl)
          have hii : (j : Int) < nf := by omega
          have hNA := fun W => name_any p.fs[j].nm W hz
          have hCK := fun W (hb : Below w.heap.size w W) => check_tree (w := W) (fun b hb' => Nat.lt_of_lt_of_le (HP0.out b hb') hb.size) (TrIn.keep (KP.of_below hb HP0.out) (fun b hb => hb) _ _ hT) (HDD.out p.fs[j] (by simp))
          have htk : p.fs.take (j + 1) = p.fs.take j ++ [p.fs[j]] := List.take_succ_eq_append_getElem hil
          have hmem : p.fs[j] ∈ p.fs := by simp
          unfold cs5 at hCK
          generalize p.fs[j] = d at *
          have HNA := hide hNA
          have HCK := hide hCK
          have HTK := hide htk
          have HMEM := hide hmem
          have hBa := hbx.alloc hbx.size (.cells #[.string (S d.nm), .int .i64 d.bd.kd, .string (S d.bd.nm), .int .i64 d.bd.nu, .slice qn d.bd.ns.length dn, .slice qk d.bd.ks.length dk] 33)
          have HBA := hide hBa
          clear hNA hCK htk hmem hbx hall hma hT hTT c1 l1 hz hbb hBa
          cases hnm : nm d.nm
          · have HF : Hid (progM p = false) := by
              show _ = _
              rw [HD2.out]
              have : p.fs.all defM = false := by rw [List.all_eq_false]; exact ⟨d, HMEM.out, by simp [defM, hnm]⟩
              rw [this]; simp
            rw [hnm] at HNA
            clear hnm
            go_wp2_with fail
            refine (HNA.out _).mono ?_
            rintro r w2 ⟨rfl, rfl⟩
            go_wp2_with fail
            go_ret
            exact ⟨by rw [HF.out]; rfl, HBA.out⟩
          · have HNT := hide hnm
            rw [hnm] at HNA
            clear hnm
            go_wp2_with fail
            refine (HNA.out _).mono ?_
            rintro r w2 ⟨rfl, rfl⟩
            go_wp2_with fail
            refine (HCK.out _ HBA.out).mono ?_
            rintro r w2 ⟨rfl, hb2⟩
            have HB2 := hide (HBA.out.trans (hb2.mono HBA.out.size))
            clear hb2
            cases hc : checkM d.bd
            · have HF : Hid (progM p = false) := by
                show _ = _
                rw [HD2.out]
                have : p.fs.all defM = false := by rw [List.all_eq_false]; exact ⟨d, HMEM.out, by simp [defM, hc]⟩
                rw [this]; simp
              clear hc
              go_wp2_with fail
              go_ret
              exact ⟨by rw [HF.out]; rfl, HB2.out⟩
            · have HCT := hide hc
              clear hc
              go_wp2_with fail
              go_roundg (nf - (j + 1))
              case measure => omega
              case rel =>
                refine ⟨j + 1, by omega, rfl, by go_num, HB2.out, ?_⟩
                rw [HTK.out, List.all_append, HALF.out]
                simp [defM, HNT.out, HCT.out]
        · have h1 : p.fs.take j = p.fs := List.take_of_length_le (by rw [HNF.out]; omega)
          have HT : Hid (progM p = true) := by show _ = _; rw [HD2.out, HDT.out, ← h1, HALF.out]; rfl
          have hii : ¬ (j : Int) < nf := by omega
          clear h1 hall hbx
          go_wp2_with fail
          go_ret
          exact ⟨by rw [HT.out]; rfl, HBX.out⟩
end Go.Proofs.YtebcdjlhmoffjaaDoor
