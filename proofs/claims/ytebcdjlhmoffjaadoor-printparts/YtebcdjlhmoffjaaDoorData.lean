/-
  THE WALKS OF tree's data AND Prog: which programs may be.
-/
import Derived.Test.YtebcdjlhmoffjaaDoorWritten2
import Derived.Test.YtebcdjlhmoffjaaDoorMay
namespace Go.Proofs.YtebcdjlhmoffjaaDoor
open Go.RowKit
set_option linter.unusedVariables false
set_option linter.unusedSimpArgs false
def formM (f : Fm) : Bool := cn f.nm && wrM f.ar 30
def dataM (d : Dt) : Bool := cn d.nm && namesM d.ps && !decide (d.fs.length = 0) && decide (d.fs.length ≤ 40) && d.fs.all formM
set_option maxHeartbeats 4000000 in
set_option maxRecDepth 100000 in
theorem data_any {P : Nat → Prop} {w : World} {d : Dt} {pp : Option Addr} {cp : Nat} {pf : Option Addr} {cf : Nat} (hP : PL P w) (hE : DtIn P w d [.string (S d.nm), .slice pp d.ps.length cp, .slice pf d.fs.length cf]) :
    Calls Tryd.prog 30 #[.agg #[.string (S d.nm), .slice pp d.ps.length cp, .slice pf d.fs.length cf]] w fun r w' => r = .returned (.bool (dataM d)) ∧ Below w.heap.size w w' := by
  obtain ⟨pp', cp', pf', cf', hcs, hz, hs1, hs2, hSM, hRM⟩ := hE
  simp at hcs
  obtain ⟨⟨rfl, rfl⟩, rfl, rfl⟩ := hcs
  have hpl := Nat.le_trans hs1.1 hs1.2.1
  have hfl := Nat.le_trans hs2.1 hs2.2.1
  have HC := hide fun W => con_any d.nm W hz
  have HN := hide fun W (hb : Below w.heap.size w W) => names_any (c := cp) (w := W) hpl (fun b hb' => Nat.lt_of_lt_of_le (hP.lt b hb') hb.size) (hSM.keep (KP.of_below hb hP.lt))
  have HRM := hide hRM
  have HPL := hide hP
  have hB0 : Below w.heap.size w (w.alloc (.cells #[.string (S d.nm), .slice pp d.ps.length cp, .slice pf d.fs.length cf] 50)) := (Below.refl _ w).alloc (Nat.le_refl _) _
  have hW : Hold w.heap.size #[.string (S d.nm), .slice pp d.ps.length cp, .slice pf d.fs.length cf] 50 (w.alloc (.cells #[.string (S d.nm), .slice pp d.ps.length cp, .slice pf d.fs.length cf] 50)) := Hold.new w _ 50
  have HB0 := hide hB0
  have HHW := hide hW
  have HD : Hid (dataM d = (cn d.nm && namesM d.ps && !decide (d.fs.length = 0) && decide (d.fs.length ≤ 40) && d.fs.all formM)) := rfl
  clear hSM hRM hP hB0 hW hs1 hs2 hz
  generalize hnf : d.fs.length = nf at *
  have HNF := hide hnf
  generalize hdp : d.ps.length = np at *
  have HNP := hide hdp
  clear hnf hdp
  generalize S d.nm = sn at *
  cases hc : cn d.nm
  · rw [hc] at HC HD
    have HF : Hid (dataM d = false) := by show _ = _; rw [HD.out]; simp
    clear hc
    go_enter Tryd.func30, Tryd.ntmps30
    go_wp2_with fail
    refine (HC.out _).mono ?_
    rintro r w1 ⟨rfl, rfl⟩
    go_wp2_with fail
    go_ret
    exact ⟨by rw [HF.out]; rfl, HB0.out⟩
  · rw [hc] at HC HD
    clear hc
    go_enter Tryd.func30, Tryd.ntmps30
    go_wp2_with fail
    refine (HC.out _).mono ?_
    rintro r w1 ⟨rfl, rfl⟩
    go_wp2_with fail
    refine (HN.out _ HB0.out).mono ?_
    rintro r w1 ⟨rfl, hb1⟩
    have hB1 := HB0.out.trans (hb1.mono HB0.out.size)
    have hH1 := HHW.out.below hb1 (by simp)
    have c2 := hH1.cell 2
    simp only [List.getElem?_toArray, List.getElem?_cons_succ, List.getElem?_cons_zero, Nat.zero_add] at c2
    have HB1 := hide hB1
    clear hb1 hB1 hH1
    cases hn : namesM d.ps
    · rw [hn] at HD
      have HF : Hid (dataM d = false) := by show _ = _; rw [HD.out]; simp
      clear hn
      go_wp2_with fail
      go_ret
      exact ⟨by rw [HF.out]; rfl, HB1.out⟩
    · rw [hn] at HD
      clear hn
      by_cases h0 : nf = 0
      · subst h0
        have HF : Hid (dataM d = false) := by show _ = _; rw [HD.out]; simp
        go_wp2_with fail
        go_ret
        exact ⟨by rw [HF.out]; rfl, HB1.out⟩
      have q0 : ¬ (nf : Int) = 0 := by omega
      have q0b : ((nf : Int) == 0) = false := by simp; omega
      by_cases h40 : nf ≤ 40
      · have q1 : ¬ (40 : Int) < nf := by omega
        have q2 : (0 : Int) < nf := by omega
        have HD2 : Hid (dataM d = d.fs.all formM) := by show _ = _; rw [HD.out]; simp [h0, h40]
        go_wp2_with fail
        go_loopg [30] nf (fun k s30 wr => ∃ i : Nat, i ≤ nf ∧ k = nf - i ∧ s30 = .int .i64 i ∧ Below w.heap.size w wr ∧ (d.fs.take i).all formM = true)
        case atStart => exact ⟨0, Nat.zero_le _, by omega, rfl, HB1.out, rfl⟩
        case round =>
          obtain ⟨i, hi1, rfl, rfl, hbr, hall⟩ := hrel
          have HBR := hide hbr
          have HALL := hide hall
          by_cases hlt : i < nf
          · have hil : i < d.fs.length := by rw [HNF.out]; exact hlt
            rcases HRM.out with he | ⟨b, o, rfl, hPb, hma⟩
            · rw [he] at hil; simp at hil
            obtain ⟨ds, l1, c1, r1⟩ := hma i d.fs[i] (by simp)
            obtain ⟨qk, dk, rfl, hz, hsl, hG⟩ := r1
            have hbb := HPL.out b hPb
            have a0 : wr.cell? ⟨b, o + i * 2, none⟩ = some (.string (S d.fs[i].nm)) := (hbr.cell (p := ⟨b, o + i * 2, none⟩) hbb.1).trans (c1 0 _ rfl)
            have a1 : wr.cell? ⟨b, o + i * 2 + 1, none⟩ = some (.slice qk d.fs[i].ar.length dk) := (hbr.cell (p := ⟨b, o + i * 2 + 1, none⟩) hbb.1).trans (c1 1 _ rfl)
            have hii : (i : Int) < nf := by omega
            have hCF := fun W => con_any d.fs[i].nm W hz
            have hWR := fun W (hb : Below w.heap.size w W) => written_any 30 (w := W) (c := dk) (HPL.out.below (Nat.le_refl _) hb) (hG.keep (KP.of_below hb HPL.out.lt) fun b hb => hb) (Nat.le_trans hsl.1 hsl.2.1) (by omega)
            have htk : d.fs.take (i + 1) = d.fs.take i ++ [d.fs[i]] := List.take_succ_eq_append_getElem hil
            have hmem : d.fs[i] ∈ d.fs := by simp
            have hsz : w.heap.size ≤ wr.heap.size := hbr.size
            have HSZ := hide hsz
            generalize d.fs[i] = f at *
            generalize f.ar.length = na at *
            have HCF := hide hCF
            have HWR := hide hWR
            have HTK := hide htk
            have HMEM := hide hmem
            have hBa := hbr.alloc hsz (.cells #[.string (S f.nm), .slice qk na dk] 47)
            have HBA := hide hBa
            clear hCF hWR htk hmem hbr hall hma hG hsl c1 l1 hz hbb hsz hBa
            cases hcf : cn f.nm
            · have HF : Hid (dataM d = false) := by
                show _ = _
                rw [HD2.out, List.all_eq_false]
                exact ⟨f, HMEM.out, by unfold formM; rw [hcf]; simp⟩
              rw [hcf] at HCF
              clear hcf
              go_wp2_with fail
              refine (HCF.out _).mono ?_
              rintro r w2 ⟨rfl, rfl⟩
              go_wp2_with fail
              go_ret
              exact ⟨by rw [HF.out]; rfl, HBA.out⟩
            · have HCT := hide hcf
              rw [hcf] at HCF
              clear hcf
              go_wp2_with fail
              refine (HCF.out _).mono ?_
              rintro r w2 ⟨rfl, rfl⟩
              go_wp2_with fail
              refine (HWR.out _ HBA.out).mono ?_
              rintro r w2 ⟨rfl, hb2⟩
              have HB2 := hide (HBA.out.trans (hb2.mono HBA.out.size))
              clear hb2
              cases hw : wrM f.ar 30
              · have HF : Hid (dataM d = false) := by
                  show _ = _
                  rw [HD2.out, List.all_eq_false]
                  exact ⟨f, HMEM.out, by unfold formM; rw [hw]; simp⟩
                clear hw
                go_wp2_with fail
                go_ret
                exact ⟨by rw [HF.out]; rfl, HB2.out⟩
              · have HWT := hide hw
                clear hw
                go_wp2_with fail
                go_roundg (nf - (i + 1))
                case measure => omega
                case rel =>
                  refine ⟨i + 1, by omega, rfl, by go_num, HB2.out, ?_⟩
                  rw [HTK.out, List.all_append, HALL.out]
                  simp [formM, HCT.out, HWT.out]
          · have h1 : d.fs.take i = d.fs := List.take_of_length_le (by rw [HNF.out]; omega)
            have HT : Hid (dataM d = true) := by show _ = _; rw [HD2.out, ← h1, HALL.out]
            have hii : ¬ (i : Int) < nf := by omega
            clear h1 hall hbr
            go_wp2_with fail
            go_ret
            exact ⟨by rw [HT.out]; rfl, HBR.out⟩
      · have q1 : (40 : Int) < nf := by omega
        have HF : Hid (dataM d = false) := by show _ = _; rw [HD.out]; simp [h40]
        go_wp2_with fail
        go_ret
        exact ⟨by rw [HF.out]; rfl, HB1.out⟩
end Go.Proofs.YtebcdjlhmoffjaaDoor
