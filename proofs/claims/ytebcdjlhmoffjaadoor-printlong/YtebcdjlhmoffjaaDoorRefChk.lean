/-
  THE WALK OF dawdlerref04's Check.
-/
import Derived.Test.YtebcdjlhmoffjaaDoorRefCheck
namespace Go.Proofs.YtebcdjlhmoffjaaDoor
open Go.RowKit
set_option linter.unusedVariables false
set_option linter.unusedSimpArgs false
/-- May a tree be, by the document's answer? -/
def rcheckM (e : Tr) : Bool := decide (tsz e ≤ 1000) && decide (tdp e ≤ 30) && !(decide (e.kd = 8) || decide (e.kd = 13)) && rsoundM e
set_option maxHeartbeats 4000000 in
set_option maxRecDepth 100000 in
theorem rcheck_any (e : Tr) {P : Nat → Prop} {w : World} {pn pk : Option Addr} {cn ck : Nat} (hP : ∀ b, P b → b < w.heap.size) (hE : TrIn P w e [.int .i64 e.kd, .string (S e.nm), .int .i64 e.nu, .slice pn e.ns.length cn, .slice pk e.ks.length ck]) :
    Calls Tryd.prog 15 #[.agg (cs5 e pn cn pk ck)] w fun r w' => r = .returned (.bool (rcheckM e)) ∧ Below w.heap.size w w' := by
  have HS := hide fun W (hb : Below w.heap.size w W) => rsize_any e (w := W) (m := 1000) (fun b hb' => Nat.lt_of_lt_of_le (hP b hb') hb.size) (TrIn.keep (KP.of_below hb hP) (fun b hb => hb) _ _ hE) (by omega)
  have HD := hide fun W (hb : Below w.heap.size w W) => rdepth_any e (w := W) (m := 30) (fun b hb' => Nat.lt_of_lt_of_le (hP b hb') hb.size) (TrIn.keep (KP.of_below hb hP) (fun b hb => hb) _ _ hE) (by omega)
  have HT := hide fun W (hb : Below w.heap.size w W) => rsound_any e (w := W) (fun b hb' => Nat.lt_of_lt_of_le (hP b hb') hb.size) (TrIn.keep (KP.of_below hb hP) (fun b hb => hb) _ _ hE)
  have hB0 : Below w.heap.size w (w.alloc (.cells (cs5 e pn cn pk ck) 25)) := (Below.refl _ w).alloc (Nat.le_refl _) _
  have hW : Hold w.heap.size (cs5 e pn cn pk ck) 25 (w.alloc (.cells (cs5 e pn cn pk ck) 25)) := Hold.new w _ 25
  have HB0 := hide hB0
  have HW := hide hW
  have HF : Hid (rcheckM e = (decide (tsz e ≤ 1000) && decide (tdp e ≤ 30) && !(decide (e.kd = 8) || decide (e.kd = 13)) && rsoundM e)) := rfl
  clear hE hP hB0 hW
  unfold cs5 at *
  generalize rcheckM e = fe at *
  generalize hmn : min (tsz e) (1000 + 1) = mn at *
  generalize hdn : min (tdp e) (30 + 1) = dn at *
  generalize rsoundM e = te at *
  have HMN := hide hmn
  have HDN := hide hdn
  have hmb : mn ≤ 1001 := by omega
  have hdb : dn ≤ 31 := by omega
  have q2 : mn ≤ 1000 → tsz e ≤ 1000 := by omega
  have q1 : dn ≤ 30 → tdp e ≤ 30 := by omega
  have q4 : ¬ mn ≤ 1000 → ¬ tsz e ≤ 1000 := by omega
  have q3 : ¬ dn ≤ 30 → ¬ tdp e ≤ 30 := by omega
  have HQ1 := hide q1
  have HQ2 := hide q2
  have HQ3 := hide q3
  have HQ4 := hide q4
  clear hmn hdn q1 q2 q3 q4
  generalize e.kd = kd at *
  have hw1 : (w.alloc (.cells #[.int .i64 kd, .string (S e.nm), .int .i64 e.nu, .slice pn e.ns.length cn, .slice pk e.ks.length ck] 25)).heap.size = w.heap.size + 1 := by simp
  have HWS := hide hw1
  clear hw1
  by_cases h1 : (1000 : Int) < mn
  · have HZ : Hid (fe = false) := by show _ = _; rw [HF.out]; simp [HQ4.out (by omega)]
    go_enter Tryd.func15, Tryd.ntmps15
    go_wp2_with fail
    refine (HS.out _ HB0.out).mono ?_
    rintro r w1 ⟨rfl, hb1⟩
    have HB1 := hide (HB0.out.trans (hb1.mono HB0.out.size))
    clear hb1
    go_wp2_with fail
    go_ret
    exact ⟨by rw [HZ.out]; rfl, HB1.out⟩
  · by_cases h2 : (30 : Int) < dn
    · have HZ : Hid (fe = false) := by show _ = _; rw [HF.out]; simp [HQ3.out (by omega)]
      go_enter Tryd.func15, Tryd.ntmps15
      go_wp2_with fail
      refine (HS.out _ HB0.out).mono ?_
      rintro r w1 ⟨rfl, hb1⟩
      have hW1 := (HW.out.below hb1 (by have := HWS.out; omega))
      have c0 := hW1.cell 0
      have c1 := hW1.cell 1
      have c2 := hW1.cell 2
      have c3 := hW1.cell 3
      have c4 := hW1.cell 4
      simp only [List.getElem?_toArray, List.getElem?_cons_succ, List.getElem?_cons_zero, Nat.zero_add] at c0 c1 c2 c3 c4
      have HB1 := hide (HB0.out.trans (hb1.mono HB0.out.size))
      clear hb1 hW1
      go_wp2_with fail
      refine (HD.out _ HB1.out).mono ?_
      rintro r w2 ⟨rfl, hb2⟩
      have HB2 := hide (HB1.out.trans (hb2.mono HB1.out.size))
      clear hb2
      go_wp2_with fail
      go_ret
      exact ⟨by rw [HZ.out]; rfl, HB2.out⟩
    · have hk : kd = 8 ∨ kd = 13 ∨ (¬ kd = 8 ∧ ¬ kd = 13) := by omega
      have HZ : Hid (fe = (!(decide (kd = 8) || decide (kd = 13)) && te)) := by show _ = _; rw [HF.out]; simp [HQ1.out (by omega), HQ2.out (by omega)]
      clear HF
      rcases hk with rfl | rfl | ⟨k8, k13⟩
      iterate 2
        go_enter Tryd.func15, Tryd.ntmps15
        go_wp2_with fail
        refine (HS.out _ HB0.out).mono ?_
        rintro r w1 ⟨rfl, hb1⟩
        have HLT := hide (Nat.lt_of_lt_of_le (by have := HWS.out; omega : w.heap.size < _) hb1.size)
        have hW1 := (HW.out.below hb1 (by have := HWS.out; omega))
        have HW1 := hide hW1
        have c0 := hW1.cell 0
        have c1 := hW1.cell 1
        have c2 := hW1.cell 2
        have c3 := hW1.cell 3
        have c4 := hW1.cell 4
        simp only [List.getElem?_toArray, List.getElem?_cons_succ, List.getElem?_cons_zero, Nat.zero_add] at c0 c1 c2 c3 c4
        have HB1 := hide (HB0.out.trans (hb1.mono HB0.out.size))
        clear hb1 hW1
        go_wp2_with fail
        refine (HD.out _ HB1.out).mono ?_
        rintro r w2 ⟨rfl, hb2⟩
        have HB2 := hide (HB1.out.trans (hb2.mono HB1.out.size))
        clear c0 c1 c2 c3 c4
        have hW2 := (HW1.out.below hb2 HLT.out)
        have c0 := hW2.cell 0
        simp only [List.getElem?_toArray, List.getElem?_cons_succ, List.getElem?_cons_zero, Nat.zero_add] at c0
        clear hb2 hW2
        go_wp2_with fail
        go_ret
        exact ⟨by rw [HZ.out]; rfl, HB2.out⟩
      have k8b : (kd == 8) = false := by simpa using k8
      have k13b : (kd == 13) = false := by simpa using k13
      have HY : Hid (fe = te) := by show _ = _; rw [HZ.out]; simp [k8, k13]
      go_enter Tryd.func15, Tryd.ntmps15
      go_wp2_with fail
      refine (HS.out _ HB0.out).mono ?_
      rintro r w1 ⟨rfl, hb1⟩
      have HLT := hide (Nat.lt_of_lt_of_le (by have := HWS.out; omega : w.heap.size < _) hb1.size)
      have hW1 := (HW.out.below hb1 (by have := HWS.out; omega))
      have HW1 := hide hW1
      have c0 := hW1.cell 0
      have c1 := hW1.cell 1
      have c2 := hW1.cell 2
      have c3 := hW1.cell 3
      have c4 := hW1.cell 4
      simp only [List.getElem?_toArray, List.getElem?_cons_succ, List.getElem?_cons_zero, Nat.zero_add] at c0 c1 c2 c3 c4
      have HB1 := hide (HB0.out.trans (hb1.mono HB0.out.size))
      clear hb1 hW1
      go_wp2_with fail
      refine (HD.out _ HB1.out).mono ?_
      rintro r w2 ⟨rfl, hb2⟩
      have HB2 := hide (HB1.out.trans (hb2.mono HB1.out.size))
      clear c0 c1 c2 c3 c4
      have hW2 := (HW1.out.below hb2 HLT.out)
      have c0 := hW2.cell 0
      have c1 := hW2.cell 1
      have c2 := hW2.cell 2
      have c3 := hW2.cell 3
      have c4 := hW2.cell 4
      simp only [List.getElem?_toArray, List.getElem?_cons_succ, List.getElem?_cons_zero, Nat.zero_add] at c0 c1 c2 c3 c4
      clear hb2 hW2
      go_wp2_with fail
      refine (HT.out _ HB2.out).mono ?_
      rintro r w3 ⟨rfl, hb3⟩
      have HB3 := hide (HB2.out.trans (hb3.mono HB2.out.size))
      clear hb3
      go_wp2_with fail
      go_ret
      exact ⟨by rw [HY.out]; rfl, HB3.out⟩
end Go.Proofs.YtebcdjlhmoffjaaDoor
