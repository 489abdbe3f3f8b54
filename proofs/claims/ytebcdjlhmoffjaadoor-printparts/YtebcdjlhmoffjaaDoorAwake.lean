/-
  THE WALK OF dawdlerref04's Check.
  THE TREES AND PROGRAMS at the head of the statements of layer 5, and what is told of them. No walk in it.
  HOW THE TREES AND PROGRAMS at the head of the statements of layer 5 lie in memory, and what the calls with them answer.
  THE WALK OF the calls at the head of the statements of layer 5.
-/
import Derived.Test.YtebcdjlhmoffjaaDoorRefCheck
import Derived.Test.YtebcdjlhmoffjaaDoorProgP
import Derived.Test.YtebcdjlhmoffjaaDoorSigP
namespace Go.Proofs.YtebcdjlhmoffjaaDoor
open Go.RowKit
set_option linter.unusedVariables false
set_option linter.unusedSimpArgs false
/-- May a tree be, by the document's answer? -/
def rcheckM (e : Tr) : Bool := decide (tsz e ≤ 1000) && decide (tdp e ≤ 30) && !(decide (e.kd = 8) || decide (e.kd = 13)) && rsoundM e
set_option maxHeartbeats 4000000 in
set_option maxRecDepth 100000 in
theorem rcheck_any (e : Tr) {P : Nat → Prop} {w : World} {pn pk : Option Addr} {cn ck : Nat} (hP : ∀ b, P b → b < w.heap.size) (hE : TrIn P w e [.int .i64 e.kd, .string (S e.nm), .int .i64 e.nu, .slice pn e.ns.length cn, .slice pk e.ks.length ck]) :
    Calls Tryd.prog 15 #[.agg (cs5 e pn cn pk ck)] w fun r w' => r = .returned (.bool (rcheckM e)) ∧ Below w.heap.size w w' := by
  have HS := hide fun W (hb : Below w.heap.size w W) => rsize_any e (w := W) (m := 1000) (fun b hb' => Nat.lt_of_lt_of_le (hP b hb') hb.size) (TrIn.keep (KP.of_below hb hP) (fun b hb => hb) _ _ hE) (by omega)
  have HD := hide fun W (hb : Below w.heap.size w W) => rdepth_any e (w := W) (m := 30) (fun b hb' => Nat.lt_of_lt_of_le (hP b hb') hb.size) (TrIn.keep (KP.of_below hb hP) (fun b hb => hb) _ _ hE) (by omega)
  have HT := hide fun W (hb : Below w.heap.size w W) => rsound_any e (w := W) (fun b hb' => Nat.lt_of_lt_of_le (hP b hb') hb.size) (TrIn.keep (KP.of_below hb hP) (fun b hb => hb) _ _ hE)
  have hB0 : Below w.heap.size w (w.alloc (.cells (cs5 e pn cn pk ck) 25)) := (Below.refl _ w).alloc (Nat.le_refl _) _
  have hW : Hold w.heap.size (cs5 e pn cn pk ck) 25 (w.alloc (.cells (cs5 e pn cn pk ck) 25)) := Hold.new w _ 25
  have HB0 := hide hB0
  have HW := hide hW
  have HF : Hid (rcheckM e = (decide (tsz e ≤ 1000) && decide (tdp e ≤ 30) && !(decide (e.kd = 8) || decide (e.kd = 13)) && rsoundM e)) := rfl
  clear hE hP hB0 hW
  unfold cs5 at *
  generalize rcheckM e = fe at *
  generalize hmn : min (tsz e) (1000 + 1) = mn at *
  generalize hdn : min (tdp e) (30 + 1) = dn at *
  generalize rsoundM e = te at *
  have HMN := hide hmn
  have HDN := hide hdn
  have hmb : mn ≤ 1001 := by omega
  have hdb : dn ≤ 31 := by omega
  have q2 : mn ≤ 1000 → tsz e ≤ 1000 := by omega
  have q1 : dn ≤ 30 → tdp e ≤ 30 := by omega
  have q4 : ¬ mn ≤ 1000 → ¬ tsz e ≤ 1000 := by omega
  have q3 : ¬ dn ≤ 30 → ¬ tdp e ≤ 30 := by omega
  have HQ1 := hide q1
  have HQ2 := hide q2
  have HQ3 := hide q3
  have HQ4 := hide q4
  clear hmn hdn q1 q2 q3 q4
  generalize e.kd = kd at *
  have hw1 : (w.alloc (.cells #[.int .i64 kd, .string (S e.nm), .int .i64 e.nu, .slice pn e.ns.length cn, .slice pk e.ks.length ck] 25)).heap.size = w.heap.size + 1 := by simp
  have HWS := hide hw1
  clear hw1
  by_cases h1 : (1000 : Int) < mn
  · have HZ : Hid (fe = false) := by show _ = _; rw [HF.out]; simp [HQ4.out (by omega)]
    go_enter Tryd.func15, Tryd.ntmps15
    go_wp2_with fail
    refine (HS.out _ HB0.out).mono ?_
    rintro r w1 ⟨rfl, hb1⟩
    have HB1 := hide (HB0.out.trans (hb1.mono HB0.out.size))
    clear hb1
    go_wp2_with fail
    go_ret
    exact ⟨by rw [HZ.out]; rfl, HB1.out⟩
  · by_cases h2 : (30 : Int) < dn
    · have HZ : Hid (fe = false) := by show _ = _; rw [HF.out]; simp [HQ3.out (by omega)]
      go_enter Tryd.func15, Tryd.ntmps15
      go_wp2_with fail
      refine (HS.out _ HB0.out).mono ?_
      rintro r w1 ⟨rfl, hb1⟩
      have hW1 := (HW.out.below hb1 (by have := HWS.out; omega))
      have c0 := hW1.cell 0
      have c1 := hW1.cell 1
      have c2 := hW1.cell 2
      have c3 := hW1.cell 3
      have c4 := hW1.cell 4
      simp only [List.getElem?_toArray, List.getElem?_cons_succ, List.getElem?_cons_zero, Nat.zero_add] at c0 c1 c2 c3 c4
      have HB1 := hide (HB0.out.trans (hb1.mono HB0.out.size))
      clear hb1 hW1
      go_wp2_with fail
      refine (HD.out _ HB1.out).mono ?_
      rintro r w2 ⟨rfl, hb2⟩
      have HB2 := hide (HB1.out.trans (hb2.mono HB1.out.size))
      clear hb2
      go_wp2_with fail
      go_ret
      exact ⟨by rw [HZ.out]; rfl, HB2.out⟩
    · have hk : kd = 8 ∨ kd = 13 ∨ (¬ kd = 8 ∧ ¬ kd = 13) := by omega
      have HZ : Hid (fe = (!(decide (kd = 8) || decide (kd = 13)) && te)) := by show _ = _; rw [HF.out]; simp [HQ1.out (by omega), HQ2.out (by omega)]
      clear HF
      rcases hk with rfl | rfl | ⟨k8, k13⟩
      iterate 2
        go_enter Tryd.func15, Tryd.ntmps15
        go_wp2_with fail
        refine (HS.out _ HB0.out).mono ?_
        rintro r w1 ⟨rfl, hb1⟩
        have HLT := hide (Nat.lt_of_lt_of_le (by have := HWS.out; omega : w.heap.size < _) hb1.size)
        have hW1 := (HW.out.below hb1 (by have := HWS.out; omega))
        have HW1 := hide hW1
        have c0 := hW1.cell 0
        have c1 := hW1.cell 1
        have c2 := hW1.cell 2
        have c3 := hW1.cell 3
        have c4 := hW1.cell 4
        simp only [List.getElem?_toArray, List.getElem?_cons_succ, List.getElem?_cons_zero, Nat.zero_add] at c0 c1 c2 c3 c4
        have HB1 := hide (HB0.out.trans (hb1.mono HB0.out.size))
        clear hb1 hW1
        go_wp2_with fail
        refine (HD.out _ HB1.out).mono ?_
        rintro r w2 ⟨rfl, hb2⟩
        have HB2 := hide (HB1.out.trans (hb2.mono HB1.out.size))
        clear c0 c1 c2 c3 c4
        have hW2 := (HW1.out.below hb2 HLT.out)
        have c0 := hW2.cell 0
        simp only [List.getElem?_toArray, List.getElem?_cons_succ, List.getElem?_cons_zero, Nat.zero_add] at c0
        clear hb2 hW2
        go_wp2_with fail
        go_ret
        exact ⟨by rw [HZ.out]; rfl, HB2.out⟩
      have k8b : (kd == 8) = false := by simpa using k8
      have k13b : (kd == 13) = false := by simpa using k13
      have HY : Hid (fe = te) := by show _ = _; rw [HZ.out]; simp [k8, k13]
      go_enter Tryd.func15, Tryd.ntmps15
      go_wp2_with fail
      refine (HS.out _ HB0.out).mono ?_
      rintro r w1 ⟨rfl, hb1⟩
      have HLT := hide (Nat.lt_of_lt_of_le (by have := HWS.out; omega : w.heap.size < _) hb1.size)
      have hW1 := (HW.out.below hb1 (by have := HWS.out; omega))
      have HW1 := hide hW1
      have c0 := hW1.cell 0
      have c1 := hW1.cell 1
      have c2 := hW1.cell 2
      have c3 := hW1.cell 3
      have c4 := hW1.cell 4
      simp only [List.getElem?_toArray, List.getElem?_cons_succ, List.getElem?_cons_zero, Nat.zero_add] at c0 c1 c2 c3 c4
      have HB1 := hide (HB0.out.trans (hb1.mono HB0.out.size))
      clear hb1 hW1
      go_wp2_with fail
      refine (HD.out _ HB1.out).mono ?_
      rintro r w2 ⟨rfl, hb2⟩
      have HB2 := hide (HB1.out.trans (hb2.mono HB1.out.size))
      clear c0 c1 c2 c3 c4
      have hW2 := (HW1.out.below hb2 HLT.out)
      have c0 := hW2.cell 0
      have c1 := hW2.cell 1
      have c2 := hW2.cell 2
      have c3 := hW2.cell 3
      have c4 := hW2.cell 4
      simp only [List.getElem?_toArray, List.getElem?_cons_succ, List.getElem?_cons_zero, Nat.zero_add] at c0 c1 c2 c3 c4
      clear hb2 hW2
      go_wp2_with fail
      refine (HT.out _ HB2.out).mono ?_
      rintro r w3 ⟨rfl, hb3⟩
      have HB3 := hide (HB2.out.trans (hb3.mono HB2.out.size))
      clear hb3
      go_wp2_with fail
      go_ret
      exact ⟨by rw [HY.out]; rfl, HB3.out⟩
end Go.Proofs.YtebcdjlhmoffjaaDoor
namespace Go.Proofs.YtebcdjlhmoffjaaDoor
open Go.RowKit
set_option linter.unusedVariables false
set_option linter.unusedSimpArgs false
def tX : Tr := ⟨2, [120], 0, [], []⟩
def tF : Tr := ⟨2, [102], 0, [], []⟩
def tA : Tr := ⟨5, [], 0, [], [tF, tX]⟩
def tB : Tr := ⟨5, [], 0, [], [tF, tA]⟩
def tE : Tr := ⟨4, [], 0, [[120]], [tB]⟩
def sA0 : Sg := ⟨[97], []⟩
def sB0 : Sg := ⟨[98], []⟩
def sT : Sg := ⟨[84], [sA0]⟩
def sAr : Sg := ⟨[45, 62], [sA0, sB0]⟩
def fA : Fm := ⟨[65], [sT]⟩
def fB : Fm := ⟨[66], []⟩
def dT : Dt := ⟨[84], [[97]], [fA, fB]⟩
def pA : Pg := ⟨[dT], [⟨[102], tX⟩]⟩
def pB : Pg := ⟨[], [⟨[], t0⟩]⟩
theorem po_X (n : Nat) : po tX n = [(n, tX)] := by rw [po_eq]; rfl
theorem po_F (n : Nat) : po tF n = [(n, tF)] := by rw [po_eq]; rfl
theorem po_0 (n : Nat) : po t0 n = [(n, t0)] := by rw [po_eq]; rfl
theorem po_A (n : Nat) : po tA n = [(n, tA), (n + 1, tF), (n + 1, tX)] := by rw [po_eq]; simp [tA, po_X, po_F]
theorem po_B (n : Nat) : po tB n = [(n, tB), (n + 1, tF), (n + 1, tA), (n + 2, tF), (n + 2, tX)] := by rw [po_eq]; simp [tB, po_A, po_F]
theorem po_E (n : Nat) : po tE n = [(n, tE), (n + 1, tB), (n + 2, tF), (n + 2, tA), (n + 3, tF), (n + 3, tX)] := by rw [po_eq]; simp [tE, po_B]
theorem s_X : soundM tX = true := by decide
theorem s_F : soundM tF = true := by decide
theorem s_A : soundM tA = true := by decide
theorem s_B : soundM tB = true := by decide
theorem s_E : soundM tE = true := by decide
theorem s_0 : soundM t0 = false := by decide
theorem ck_E : checkM tE = true := by
  unfold checkM
  rw [po_E]
  simp only [goC, s_X, s_F, s_A, s_B, s_E]
  decide
theorem ck_X : checkM tX = true := by
  unfold checkM
  rw [po_X]
  simp only [goC, s_X]
  decide
theorem ck_0 : checkM t0 = false := by
  unfold checkM
  rw [po_0]
  simp only [goC, s_0]
  decide
theorem ws_X : ws tX = [pw [120]] := by rw [ws_eq]; rfl
theorem ws_F : ws tF = [pw [102]] := by rw [ws_eq]; rfl
theorem ws_A : ws tA = [pw [102], pw [120]] := by
  rw [ws_eq]
  show wsF tA [(tF, ws tF), (tX, ws tX)] = _
  rw [ws_X, ws_F]
  rfl
theorem ws_B : ws tB = [pw [102], (1, [40]), pw [102], pw [120], (2, [41])] := by
  rw [ws_eq]
  show wsF tB [(tF, ws tF), (tA, ws tA)] = _
  rw [ws_A, ws_F]
  rfl
theorem ws_E : ws tE = [(1, [92]), pw [120], pw [45, 62], pw [102], (1, [40]), pw [102], pw [120], (2, [41])] := by
  rw [ws_eq]
  show wsF tE [(tB, ws tB)] = _
  rw [ws_B]
  rfl
theorem av1 : exprV tE = .tuple #[.string ⟨#[92, 120, 32, 45, 62, 32, 102, 32, 40, 102, 32, 120, 41]⟩, .int .i64 0] := by
  unfold exprV
  rw [ck_E]
  show wholeV (runA (ws tE) _) = _
  rw [ws_E]
  rfl
theorem av2 : exprV t0 = .tuple #[.string ⟨#[]⟩, .int .i64 40] := by
  unfold exprV
  rw [ck_0]
  rfl
theorem sg_a : sgW sA0 = [pw [97]] := by rw [sgW_eq]; rfl
theorem sg_b : sgW sB0 = [pw [98]] := by rw [sgW_eq]; rfl
theorem sg_T : sgW sT = [pw [84], pw [97]] := by
  rw [sgW_eq]
  show sgF sT [(sA0, sgW sA0)] = _
  rw [sg_a]
  rfl
theorem sg_Ar : sgW sAr = [pw [97], pw [45, 62], pw [98]] := by
  rw [sgW_eq]
  show sgF sAr [(sA0, sgW sA0), (sB0, sgW sB0)] = _
  rw [sg_a, sg_b]
  rfl
theorem ok_a (n : Nat) (h : n + 1 ≤ 30) : sgOK sA0 n = true := by rw [sgOK_eq]; simp [sA0]; omega
theorem ok_b (n : Nat) (h : n + 1 ≤ 30) : sgOK sB0 n = true := by rw [sgOK_eq]; simp [sB0]; omega
theorem ok_T (n : Nat) (h : n + 2 ≤ 30) : sgOK sT n = true := by rw [sgOK_eq]; simp [sT, ok_a _ (show n + 1 + 1 ≤ 30 by omega)]; omega
theorem ok_Ar : sgOK sAr 0 = true := by rw [sgOK_eq]; simp [sAr, ok_a, ok_b]
theorem pt_Ar : ptA 0 (pSig sAr) (some ([], true)) = some ([97, 32, 45, 62, 32, 98], false) := by
  unfold ptA
  rw [show ptOK 0 (pSig sAr) = sgOK sAr 0 from rfl, ok_Ar, show ptW (pSig sAr) = sgW sAr from rfl, sg_Ar]
  rfl
theorem fm_A : fmW fA = [pw [65], (1, [40]), pw [84], pw [97], (2, [41])] := by
  show pw [65] :: [(sT, sgW sT)].flatMap sgAt = _
  rw [sg_T]
  rfl
theorem dt_T : dtW dT = [pw [100, 97, 116, 97], pw [84], pw [97], pw [61], pw [65], (1, [40]), pw [84], pw [97], (2, [41]), pw [124], pw [66]] := by
  show pw [100, 97, 116, 97] :: pw [84] :: ([pw [97]] ++ (pw [61] :: sepW [124] [fmW fA, fmW fB])) = _
  rw [fm_A]
  rfl
theorem pg_A : pgW pA = [pw [123], pw [100, 97, 116, 97], pw [84], pw [97], pw [61], pw [65], (1, [40]), pw [84], pw [97], (2, [41]), pw [124], pw [66], pw [59], pw [102], pw [61], pw [120], pw [125]] := by
  show pw [123] :: (sepW [59] ([dtW dT] ++ [pw [102] :: pw [61] :: ws tX]) ++ [pw [125]]) = _
  rw [dt_T, ws_X]
  rfl
theorem sgM_a (n : Nat) : sgM sA0 n = true := by rw [sgM_eq]; simp [wrM, sA0]; decide
theorem sgM_T (n : Nat) (h : n ≠ 0) : sgM sT n = true := by
  rw [sgM_eq]
  simp only [wrM, sT, List.all_cons, List.all_nil, sgM_a]
  simp [h]
  decide
theorem pm_A : progM pA = true := by
  unfold progM
  simp only [pA, List.all_cons, List.all_nil, Bool.and_true]
  have h1 : dataM dT = true := by
    unfold dataM
    simp only [dT, List.all_cons, List.all_nil]
    have h2 : formM fA = true := by
      unfold formM
      simp only [fA, wrM, List.all_cons, List.all_nil]
      rw [sgM_T _ (by decide)]
      decide
    have h3 : formM fB = true := by decide
    rw [h2, h3]
    decide
  have h2 : defM ⟨[102], tX⟩ = true := by
    unfold defM
    simp only [ck_X]
    decide
  rw [h1, h2]
  decide
theorem av3 : progV pA = .tuple #[.string ⟨#[123, 32, 100, 97, 116, 97, 32, 84, 32, 97, 32, 61, 32, 65, 32, 40, 84, 32, 97, 41, 32, 124, 32, 66, 32, 59, 32, 102, 32, 61, 32, 120, 32, 125]⟩, .int .i64 0] := by
  unfold progV
  rw [pm_A]
  unfold ptA
  rw [show ptOK 0 (pProg pA) = true from by
    show [dT].all (fun d => dtOK d 0) = true
    simp [dtOK, dT, fA, fB, ok_T], show ptW (pProg pA) = pgW pA from rfl, pg_A]
  rfl
theorem av4 : progV pB = .tuple #[.string ⟨#[]⟩, .int .i64 40] := by
  unfold progV
  rw [show progM pB = false from by
    unfold progM
    simp only [pB, List.all_cons, List.all_nil, Bool.and_true]
    rw [show defM ⟨[], t0⟩ = false from by unfold defM; simp only [ck_0]; decide]
    decide]
  rfl
theorem rs_X : rsoundM tX = true := by rw [rsoundM_eq]; decide
theorem rs_F : rsoundM tF = true := by rw [rsoundM_eq]; decide
theorem rs_A : rsoundM tA = true := by
  rw [rsoundM_eq]
  simp only [rbindM, rkidsM, tA, List.all_cons, List.all_nil, rs_X, rs_F]
  decide
theorem rs_B : rsoundM tB = true := by
  rw [rsoundM_eq]
  simp only [rbindM, rkidsM, tB, List.all_cons, List.all_nil, rs_A, rs_F]
  decide
theorem rs_E : rsoundM tE = true := by
  rw [rsoundM_eq]
  simp only [rbindM, rkidsM, tE, List.all_cons, List.all_nil, rs_B]
  decide
theorem av6 : rcheckM tE = true := by
  unfold rcheckM
  rw [rs_E]
  have h1 : tsz tE = 6 := by simp [tsz_eq, tE, tB, tA, tF, tX]
  have d1 : tdp tX = 1 := by rw [tdp_eq]; rfl
  have d2 : tdp tF = 1 := by rw [tdp_eq]; rfl
  have d3 : tdp tA = 2 := by rw [tdp_eq]; simp only [tA, List.foldl, d1, d2]; decide
  have d4 : tdp tB = 3 := by rw [tdp_eq]; simp only [tB, List.foldl, d3, d2]; decide
  have h2 : tdp tE = 4 := by rw [tdp_eq]; simp only [tE, List.foldl, d4]; decide
  rw [h1, h2]
  decide
end Go.Proofs.YtebcdjlhmoffjaaDoor
namespace Go.Proofs.YtebcdjlhmoffjaaDoor
open Go.RowKit
set_option linter.unusedVariables false
set_option linter.unusedSimpArgs false
theorem flat_at {n : Nat} : ∀ (dss : List (List Value)) (i j : Nat) (ds : List Value) (d : Value), (∀ ds ∈ dss, ds.length = n) → dss[i]? = some ds → ds[j]? = some d → dss.flatten[i * n + j]? = some d := by
  intro dss
  induction dss with
  | nil => intro i j ds d _ h; simp at h
  | cons a r ih =>
    intro i j ds d hn h hd
    have ha : a.length = n := hn a (by simp)
    cases i with
    | zero =>
      simp at h
      subst h
      rw [List.flatten_cons, Nat.zero_mul, Nat.zero_add, List.getElem?_append_left (by have := (List.getElem?_eq_some_iff.1 hd).1; omega)]
      exact hd
    | succ i =>
      rw [List.flatten_cons, List.getElem?_append_right (by rw [ha, Nat.succ_mul]; omega), ha, show (i + 1) * n + j - n = i * n + j by rw [Nat.succ_mul]; omega]
      exact ih i j ds d (fun x hx => hn x (by simp [hx])) (by simpa using h) hd
theorem rm_hold {α : Type} {n : Nat} {P : Nat → Prop} {w : World} {R : α → List Value → Prop} {b : Nat} {C : Array Value} {ty : TypeId} {l : List α} (dss : List (List Value)) (hb : P b) (hH : Hold b C ty w) (hC : C.toList = dss.flatten) (hn : ∀ ds ∈ dss, ds.length = n) (hl : l.length = dss.length) (hT : ∀ (i : Nat) t ds, l[i]? = some t → dss[i]? = some ds → R t ds) : RM n P w R (some ⟨b, 0, none⟩) l := by
  refine .inr ⟨b, 0, rfl, hb, fun i t ht => ?_⟩
  have hi : i < dss.length := by have := (List.getElem?_eq_some_iff.1 ht).1; omega
  refine ⟨dss[i], hn _ (by simp), fun j d hd => ?_, hT i t _ ht (by simp)⟩
  rw [hH.cell, ← Array.getElem?_toList, hC, Nat.zero_add]
  exact flat_at dss i j _ d hn (by simp) hd
theorem all1 {α : Type} {β : Type} {R : α → β → Prop} {a : α} {x : β} (h : R a x) : ∀ (i : Nat) t ds, [a][i]? = some t → [x][i]? = some ds → R t ds := by
  intro i t ds h1 h2
  cases i with
  | zero => simp at h1 h2; subst h1; subst h2; exact h
  | succ i => simp at h1
theorem all2 {α : Type} {β : Type} {R : α → β → Prop} {a b : α} {x y : β} (h : R a x) (h' : R b y) : ∀ (i : Nat) t ds, [a, b][i]? = some t → [x, y][i]? = some ds → R t ds := by
  intro i t ds h1 h2
  rcases i with _ | _ | i
  · simp at h1 h2; subst h1; subst h2; exact h
  · simp at h1 h2; subst h1; subst h2; exact h'
  · simp at h1
theorem alloc_step {W : World} {n : Nat} (hs : W.heap.size = n) (C : Array Value) (t : TypeId) : Hold n C t (W.alloc (.cells C t)) ∧ (W.alloc (.cells C t)).heap.size = n + 1 := by
  subst hs
  exact ⟨Hold.new W C t, by simp⟩
theorem slok {p : Option Addr} {n : Nat} (h : p = none → n = 0) (hn : n ≤ 1000) : SlOK p n n := ⟨Nat.le_refl _, by omega, h⟩
theorem sm_one {P : Nat → Prop} {w : World} {b : Nat} {ty : TypeId} {s : List UInt8} (hb : P b) (hs : s.length ≤ 1000) (hH : Hold b #[.string (S s)] ty w) : SM P w (some ⟨b, 0, none⟩) [s] := by
  refine .inr ⟨b, 0, rfl, hb, fun i t ht => ?_⟩
  cases i with
  | zero =>
    simp at ht
    subst ht
    exact ⟨by omega, hH.cell 0⟩
  | succ i => simp at ht
/-- A tree without names and Kids. -/
theorem trIn_leaf {P : Nat → Prop} {w : World} (k : Int) (s : List UInt8) (hs : s.length ≤ 1000) : TrIn P w ⟨k, s, 0, [], []⟩ [.int .i64 k, .string (S s), .int .i64 0, .slice none 0 0, .slice none 0 0] :=
  (TrIn_iff _ _ _ _).2 ⟨none, 0, none, 0, rfl, by show s.length ≤ _; omega, by show -9223372036854775808 ≤ (0 : Int) ∧ (0 : Int) ≤ 9223372036854775807; omega, slok (fun _ => rfl) (by simp), slok (fun _ => rfl) (by simp), .inl rfl, .inl rfl⟩
abbrev cX : List Value := [.int .i64 2, .string ⟨#[120]⟩, .int .i64 0, .slice none 0 0, .slice none 0 0]
abbrev cF : List Value := [.int .i64 2, .string ⟨#[102]⟩, .int .i64 0, .slice none 0 0, .slice none 0 0]
theorem in_X {P : Nat → Prop} {w : World} : TrIn P w tX cX := trIn_leaf 2 [120] (by decide)
theorem in_F {P : Nat → Prop} {w : World} : TrIn P w tF cF := trIn_leaf 2 [102] (by decide)
/-- An application of two trees that lie in a block. -/
theorem in_app {P : Nat → Prop} {w : World} {b : Nat} {x y : Tr} {cx cy : List Value} {C : Array Value} (hb : P b) (hH : Hold b C 25 w) (hC : C.toList = cx ++ cy) (hx : TrIn P w x cx) (hy : TrIn P w y cy) (lx : cx.length = 5) (ly : cy.length = 5) : TrIn P w ⟨5, [], 0, [], [x, y]⟩ [.int .i64 5, .string ⟨#[]⟩, .int .i64 0, .slice none 0 0, .slice (some ⟨b, 0, none⟩) 2 2] :=
  (TrIn_iff _ _ _ _).2 ⟨none, 0, some ⟨b, 0, none⟩, 2, rfl, by simp, by simp, slok (fun _ => rfl) (by simp), slok (fun h => by cases h) (by simp), .inl rfl, rm_hold (n := 5) (R := TrIn P w) [cx, cy] hb hH (by simp [hC]) (by simp [lx, ly]) rfl (all2 hx hy)⟩
abbrev cE (n : Nat) : List Value := [.int .i64 4, .string ⟨#[]⟩, .int .i64 0, .slice (some ⟨n + 1 + 1, 0, none⟩) 1 1, .slice (some ⟨n + 1 + 1 + 1 + 1 + 1, 0, none⟩) 1 1]
/-- The first tree, once it is laid. -/
def aw1 (w : World) : World :=
  (((((((w.alloc (.cells #[.int .i64 2, .string ⟨#[120]⟩, .int .i64 0, .slice none 0 0, .slice none 0 0] 25)).alloc (.cells #[.int .i64 2, .string ⟨#[102]⟩, .int .i64 0, .slice none 0 0, .slice none 0 0] 25)).alloc (.cells #[.string ⟨#[120]⟩] 9)).alloc
    (.cells #[.int .i64 2, .string ⟨#[102]⟩, .int .i64 0, .slice none 0 0, .slice none 0 0, .int .i64 2, .string ⟨#[120]⟩, .int .i64 0, .slice none 0 0, .slice none 0 0] 25)).alloc
    (.cells #[.int .i64 2, .string ⟨#[102]⟩, .int .i64 0, .slice none 0 0, .slice none 0 0, .int .i64 5, .string ⟨#[]⟩, .int .i64 0, .slice none 0 0, .slice (some ⟨w.heap.size + 1 + 1 + 1, 0, none⟩) 2 2] 25)).alloc
    (.cells #[.int .i64 5, .string ⟨#[]⟩, .int .i64 0, .slice none 0 0, .slice (some ⟨w.heap.size + 1 + 1 + 1 + 1, 0, none⟩) 2 2] 25)).alloc
    (.cells #[.int .i64 4, .string ⟨#[]⟩, .int .i64 0, .slice (some ⟨w.heap.size + 1 + 1, 0, none⟩) 1 1, .slice (some ⟨w.heap.size + 1 + 1 + 1 + 1 + 1, 0, none⟩) 1 1] 25))
theorem aw1_all (w : World) : Below w.heap.size w (aw1 w) ∧ Hold w.heap.size cX.toArray 25 (aw1 w) ∧ Hold (w.heap.size + 1 + 1 + 1 + 1 + 1 + 1) (cE w.heap.size).toArray 25 (aw1 w) ∧ (aw1 w).heap.size = w.heap.size + 1 + 1 + 1 + 1 + 1 + 1 + 1 ∧ TrIn (fun b => w.heap.size ≤ b ∧ b < w.heap.size + 7) (aw1 w) tE (cE w.heap.size) := by
  unfold aw1
  obtain ⟨h1, s1⟩ := alloc_step (W := w) rfl #[.int .i64 2, .string ⟨#[120]⟩, .int .i64 0, .slice none 0 0, .slice none 0 0] 25
  obtain ⟨h2, s2⟩ := alloc_step s1 #[.int .i64 2, .string ⟨#[102]⟩, .int .i64 0, .slice none 0 0, .slice none 0 0] 25
  obtain ⟨h3, s3⟩ := alloc_step s2 #[.string ⟨#[120]⟩] 9
  obtain ⟨h4, s4⟩ := alloc_step s3 #[.int .i64 2, .string ⟨#[102]⟩, .int .i64 0, .slice none 0 0, .slice none 0 0, .int .i64 2, .string ⟨#[120]⟩, .int .i64 0, .slice none 0 0, .slice none 0 0] 25
  obtain ⟨h5, s5⟩ := alloc_step s4 #[.int .i64 2, .string ⟨#[102]⟩, .int .i64 0, .slice none 0 0, .slice none 0 0, .int .i64 5, .string ⟨#[]⟩, .int .i64 0, .slice none 0 0, .slice (some ⟨w.heap.size + 1 + 1 + 1, 0, none⟩) 2 2] 25
  obtain ⟨h6, s6⟩ := alloc_step s5 #[.int .i64 5, .string ⟨#[]⟩, .int .i64 0, .slice none 0 0, .slice (some ⟨w.heap.size + 1 + 1 + 1 + 1, 0, none⟩) 2 2] 25
  obtain ⟨h7, s7⟩ := alloc_step s6 #[.int .i64 4, .string ⟨#[]⟩, .int .i64 0, .slice (some ⟨w.heap.size + 1 + 1, 0, none⟩) 1 1, .slice (some ⟨w.heap.size + 1 + 1 + 1 + 1 + 1, 0, none⟩) 1 1] 25
  refine ⟨((((((((Below.refl _ w).alloc (by omega) _).alloc (by omega) _).alloc (by omega) _).alloc (by omega) _).alloc (by omega) _).alloc (by omega) _).alloc (by omega) _), ((((((h1.alloc _).alloc _).alloc _).alloc _).alloc _).alloc _), h7, s7, ?_⟩
  have H3 := ((((h3.alloc (.cells #[.int .i64 2, .string ⟨#[102]⟩, .int .i64 0, .slice none 0 0, .slice none 0 0, .int .i64 2, .string ⟨#[120]⟩, .int .i64 0, .slice none 0 0, .slice none 0 0] 25)).alloc (.cells #[.int .i64 2, .string ⟨#[102]⟩, .int .i64 0, .slice none 0 0, .slice none 0 0, .int .i64 5, .string ⟨#[]⟩, .int .i64 0, .slice none 0 0, .slice (some ⟨w.heap.size + 1 + 1 + 1, 0, none⟩) 2 2] 25)).alloc (.cells #[.int .i64 5, .string ⟨#[]⟩, .int .i64 0, .slice none 0 0, .slice (some ⟨w.heap.size + 1 + 1 + 1 + 1, 0, none⟩) 2 2] 25)).alloc (.cells #[.int .i64 4, .string ⟨#[]⟩, .int .i64 0, .slice (some ⟨w.heap.size + 1 + 1, 0, none⟩) 1 1, .slice (some ⟨w.heap.size + 1 + 1 + 1 + 1 + 1, 0, none⟩) 1 1] 25))
  have H4 := (((h4.alloc (.cells #[.int .i64 2, .string ⟨#[102]⟩, .int .i64 0, .slice none 0 0, .slice none 0 0, .int .i64 5, .string ⟨#[]⟩, .int .i64 0, .slice none 0 0, .slice (some ⟨w.heap.size + 1 + 1 + 1, 0, none⟩) 2 2] 25)).alloc (.cells #[.int .i64 5, .string ⟨#[]⟩, .int .i64 0, .slice none 0 0, .slice (some ⟨w.heap.size + 1 + 1 + 1 + 1, 0, none⟩) 2 2] 25)).alloc (.cells #[.int .i64 4, .string ⟨#[]⟩, .int .i64 0, .slice (some ⟨w.heap.size + 1 + 1, 0, none⟩) 1 1, .slice (some ⟨w.heap.size + 1 + 1 + 1 + 1 + 1, 0, none⟩) 1 1] 25))
  have H5 := ((h5.alloc (.cells #[.int .i64 5, .string ⟨#[]⟩, .int .i64 0, .slice none 0 0, .slice (some ⟨w.heap.size + 1 + 1 + 1 + 1, 0, none⟩) 2 2] 25)).alloc (.cells #[.int .i64 4, .string ⟨#[]⟩, .int .i64 0, .slice (some ⟨w.heap.size + 1 + 1, 0, none⟩) 1 1, .slice (some ⟨w.heap.size + 1 + 1 + 1 + 1 + 1, 0, none⟩) 1 1] 25))
  have H6 := h6.alloc (.cells #[.int .i64 4, .string ⟨#[]⟩, .int .i64 0, .slice (some ⟨w.heap.size + 1 + 1, 0, none⟩) 1 1, .slice (some ⟨w.heap.size + 1 + 1 + 1 + 1 + 1, 0, none⟩) 1 1] 25)
  generalize (World.alloc _ (.cells #[.int .i64 4, .string ⟨#[]⟩, .int .i64 0, .slice (some ⟨w.heap.size + 1 + 1, 0, none⟩) 1 1, .slice (some ⟨w.heap.size + 1 + 1 + 1 + 1 + 1, 0, none⟩) 1 1] 25)) = W at *
  have hA : TrIn (fun b => w.heap.size ≤ b ∧ b < w.heap.size + 7) W tA [.int .i64 5, .string ⟨#[]⟩, .int .i64 0, .slice none 0 0, .slice (some ⟨w.heap.size + 1 + 1 + 1, 0, none⟩) 2 2] := in_app (cx := cF) (cy := cX) ⟨by omega, by omega⟩ H4 rfl in_F in_X rfl rfl
  have hB : TrIn (fun b => w.heap.size ≤ b ∧ b < w.heap.size + 7) W tB [.int .i64 5, .string ⟨#[]⟩, .int .i64 0, .slice none 0 0, .slice (some ⟨w.heap.size + 1 + 1 + 1 + 1, 0, none⟩) 2 2] := in_app (cx := cF) ⟨by omega, by omega⟩ H5 rfl in_F hA rfl rfl
  exact (TrIn_iff _ _ _ _).2 ⟨some ⟨w.heap.size + 1 + 1, 0, none⟩, 1, some ⟨w.heap.size + 1 + 1 + 1 + 1 + 1, 0, none⟩, 1, rfl, by simp [tE], by simp [tE], slok (fun h => by cases h) (by simp [tE]), slok (fun h => by cases h) (by simp [tE]), sm_one (by constructor <;> omega) (by simp) H3, rm_hold (n := 5) (R := TrIn _ W) [[.int .i64 5, .string ⟨#[]⟩, .int .i64 0, .slice none 0 0, .slice (some ⟨w.heap.size + 1 + 1 + 1 + 1, 0, none⟩) 2 2]] ⟨by omega, by omega⟩ H6 rfl (by simp) rfl (all1 hB)⟩
/-- The program, once it is laid. -/
def aw2 (w : World) : World :=
  ((((((w.alloc (.cells #[.string ⟨#[97]⟩] 9)).alloc (.cells #[.string ⟨#[97]⟩, .slice none 0 0] 46)).alloc (.cells #[.string ⟨#[84]⟩, .slice (some ⟨w.heap.size + 1, 0, none⟩) 1 1] 46)).alloc
    (.cells #[.string ⟨#[65]⟩, .slice (some ⟨w.heap.size + 1 + 1, 0, none⟩) 1 1, .string ⟨#[66]⟩, .slice none 0 0] 47)).alloc
    (.cells #[.string ⟨#[84]⟩, .slice (some ⟨w.heap.size, 0, none⟩) 1 1, .slice (some ⟨w.heap.size + 1 + 1 + 1, 0, none⟩) 2 2] 50)).alloc
    (.cells #[.string ⟨#[102]⟩, .int .i64 2, .string ⟨#[120]⟩, .int .i64 0, .slice none 0 0, .slice none 0 0] 33))
theorem sgIn_leaf {P : Nat → Prop} {w : World} (s : List UInt8) (hs : s.length ≤ 1000) : SgIn P w ⟨s, []⟩ [.string (S s), .slice none 0 0] :=
  (SgIn_iff _ _ _ _).2 ⟨none, 0, rfl, by show s.length ≤ _; omega, slok (fun _ => rfl) (by simp), .inl rfl⟩
theorem aw2_all (w : World) : Below w.heap.size w (aw2 w) ∧ (aw2 w).heap.size = w.heap.size + 1 + 1 + 1 + 1 + 1 + 1 ∧ PL (fun b => w.heap.size ≤ b ∧ b < w.heap.size + 6) (aw2 w) ∧
    PgIn (fun b => w.heap.size ≤ b ∧ b < w.heap.size + 6) (aw2 w) pA [.slice (some ⟨w.heap.size + 1 + 1 + 1 + 1, 0, none⟩) 1 1, .slice (some ⟨w.heap.size + 1 + 1 + 1 + 1 + 1, 0, none⟩) 1 1] := by
  unfold aw2
  obtain ⟨h1, s1⟩ := alloc_step (W := w) rfl #[.string ⟨#[97]⟩] 9
  obtain ⟨h2, s2⟩ := alloc_step s1 #[.string ⟨#[97]⟩, .slice none 0 0] 46
  obtain ⟨h3, s3⟩ := alloc_step s2 #[.string ⟨#[84]⟩, .slice (some ⟨w.heap.size + 1, 0, none⟩) 1 1] 46
  obtain ⟨h4, s4⟩ := alloc_step s3 #[.string ⟨#[65]⟩, .slice (some ⟨w.heap.size + 1 + 1, 0, none⟩) 1 1, .string ⟨#[66]⟩, .slice none 0 0] 47
  obtain ⟨h5, s5⟩ := alloc_step s4 #[.string ⟨#[84]⟩, .slice (some ⟨w.heap.size, 0, none⟩) 1 1, .slice (some ⟨w.heap.size + 1 + 1 + 1, 0, none⟩) 2 2] 50
  obtain ⟨h6, s6⟩ := alloc_step s5 #[.string ⟨#[102]⟩, .int .i64 2, .string ⟨#[120]⟩, .int .i64 0, .slice none 0 0, .slice none 0 0] 33
  have hB : Below w.heap.size w (aw2 w) := (((((((Below.refl _ w).alloc (by omega) _).alloc (by omega) _).alloc (by omega) _).alloc (by omega) _).alloc (by omega) _).alloc (by omega) _)
  unfold aw2 at hB
  have h1 := ((((h1.alloc (.cells #[.string ⟨#[97]⟩, .slice none 0 0] 46)).alloc (.cells #[.string ⟨#[84]⟩, .slice (some ⟨w.heap.size + 1, 0, none⟩) 1 1] 46)).alloc (.cells #[.string ⟨#[65]⟩, .slice (some ⟨w.heap.size + 1 + 1, 0, none⟩) 1 1, .string ⟨#[66]⟩, .slice none 0 0] 47)).alloc (.cells #[.string ⟨#[84]⟩, .slice (some ⟨w.heap.size, 0, none⟩) 1 1, .slice (some ⟨w.heap.size + 1 + 1 + 1, 0, none⟩) 2 2] 50)).alloc (.cells #[.string ⟨#[102]⟩, .int .i64 2, .string ⟨#[120]⟩, .int .i64 0, .slice none 0 0, .slice none 0 0] 33)
  have h2 := (((h2.alloc (.cells #[.string ⟨#[84]⟩, .slice (some ⟨w.heap.size + 1, 0, none⟩) 1 1] 46)).alloc (.cells #[.string ⟨#[65]⟩, .slice (some ⟨w.heap.size + 1 + 1, 0, none⟩) 1 1, .string ⟨#[66]⟩, .slice none 0 0] 47)).alloc (.cells #[.string ⟨#[84]⟩, .slice (some ⟨w.heap.size, 0, none⟩) 1 1, .slice (some ⟨w.heap.size + 1 + 1 + 1, 0, none⟩) 2 2] 50)).alloc (.cells #[.string ⟨#[102]⟩, .int .i64 2, .string ⟨#[120]⟩, .int .i64 0, .slice none 0 0, .slice none 0 0] 33)
  have h3 := ((h3.alloc (.cells #[.string ⟨#[65]⟩, .slice (some ⟨w.heap.size + 1 + 1, 0, none⟩) 1 1, .string ⟨#[66]⟩, .slice none 0 0] 47)).alloc (.cells #[.string ⟨#[84]⟩, .slice (some ⟨w.heap.size, 0, none⟩) 1 1, .slice (some ⟨w.heap.size + 1 + 1 + 1, 0, none⟩) 2 2] 50)).alloc (.cells #[.string ⟨#[102]⟩, .int .i64 2, .string ⟨#[120]⟩, .int .i64 0, .slice none 0 0, .slice none 0 0] 33)
  have h4 := (h4.alloc (.cells #[.string ⟨#[84]⟩, .slice (some ⟨w.heap.size, 0, none⟩) 1 1, .slice (some ⟨w.heap.size + 1 + 1 + 1, 0, none⟩) 2 2] 50)).alloc (.cells #[.string ⟨#[102]⟩, .int .i64 2, .string ⟨#[120]⟩, .int .i64 0, .slice none 0 0, .slice none 0 0] 33)
  have h5 := h5.alloc (.cells #[.string ⟨#[102]⟩, .int .i64 2, .string ⟨#[120]⟩, .int .i64 0, .slice none 0 0, .slice none 0 0] 33)
  generalize (World.alloc _ (.cells #[.string ⟨#[102]⟩, .int .i64 2, .string ⟨#[120]⟩, .int .i64 0, .slice none 0 0, .slice none 0 0] 33)) = W at *
  refine ⟨hB, s6, ?_, ?_⟩
  · rintro b ⟨hb1, hb2⟩
    refine ⟨by omega, ?_⟩
    have hc : b = w.heap.size ∨ b = w.heap.size + 1 ∨ b = w.heap.size + 1 + 1 ∨ b = w.heap.size + 1 + 1 + 1 ∨ b = w.heap.size + 1 + 1 + 1 + 1 ∨ b = w.heap.size + 1 + 1 + 1 + 1 + 1 := by omega
    rcases hc with rfl | rfl | rfl | rfl | rfl | rfl
    · exact ⟨_, _, h1⟩
    · exact ⟨_, _, h2⟩
    · exact ⟨_, _, h3⟩
    · exact ⟨_, _, h4⟩
    · exact ⟨_, _, h5⟩
    · exact ⟨_, _, h6⟩
  · have hT : SgIn (fun b => w.heap.size ≤ b ∧ b < w.heap.size + 6) W sT [.string ⟨#[84]⟩, .slice (some ⟨w.heap.size + 1, 0, none⟩) 1 1] :=
      (SgIn_iff _ _ _ _).2 ⟨some ⟨w.heap.size + 1, 0, none⟩, 1, rfl, by simp [sT], slok (fun h => by cases h) (by simp [sT]), rm_hold (n := 2) (R := SgIn _ W) [[.string ⟨#[97]⟩, .slice none 0 0]] ⟨by omega, by omega⟩ h2 rfl (by simp) rfl (all1 (sgIn_leaf [97] (by simp)))⟩
    have hfA : FmIn (fun b => w.heap.size ≤ b ∧ b < w.heap.size + 6) W fA [.string ⟨#[65]⟩, .slice (some ⟨w.heap.size + 1 + 1, 0, none⟩) 1 1] :=
      ⟨some ⟨w.heap.size + 1 + 1, 0, none⟩, 1, rfl, by simp [fA], slok (fun h => by cases h) (by simp [fA]), rm_hold (n := 2) (R := SgIn _ W) [[.string ⟨#[84]⟩, .slice (some ⟨w.heap.size + 1, 0, none⟩) 1 1]] ⟨by omega, by omega⟩ h3 rfl (by simp) rfl (all1 hT)⟩
    have hfB : FmIn (fun b => w.heap.size ≤ b ∧ b < w.heap.size + 6) W fB [.string ⟨#[66]⟩, .slice none 0 0] := ⟨none, 0, rfl, by simp [fB], slok (fun h => rfl) (by simp [fB]), .inl rfl⟩
    have hdT : DtIn (fun b => w.heap.size ≤ b ∧ b < w.heap.size + 6) W dT [.string ⟨#[84]⟩, .slice (some ⟨w.heap.size, 0, none⟩) 1 1, .slice (some ⟨w.heap.size + 1 + 1 + 1, 0, none⟩) 2 2] :=
      ⟨some ⟨w.heap.size, 0, none⟩, 1, some ⟨w.heap.size + 1 + 1 + 1, 0, none⟩, 2, rfl, by simp [dT], slok (fun h => by cases h) (by simp [dT]), slok (fun h => by cases h) (by simp [dT]), sm_one (by constructor <;> omega) (by simp) h1, rm_hold (n := 2) [[.string ⟨#[65]⟩, .slice (some ⟨w.heap.size + 1 + 1, 0, none⟩) 1 1], [.string ⟨#[66]⟩, .slice none 0 0]] ⟨by omega, by omega⟩ h4 rfl (by simp) rfl (all2 hfA hfB)⟩
    exact ⟨some ⟨w.heap.size + 1 + 1 + 1 + 1, 0, none⟩, 1, some ⟨w.heap.size + 1 + 1 + 1 + 1 + 1, 0, none⟩, 1, rfl, slok (fun h => by cases h) (by simp [pA]), slok (fun h => by cases h) (by simp [pA]), rm_hold (n := 3) [_] ⟨by omega, by omega⟩ h5 rfl (by simp) rfl (all1 hdT), rm_hold (n := 6) [.string ⟨#[102]⟩ :: cX] ⟨by omega, by omega⟩ h6 rfl (by simp) rfl (all1 ⟨cX, rfl, by simp, in_X⟩)⟩
theorem aw3_all (w : World) : PL (fun b => b = w.heap.size) (w.alloc (.cells #[.string ⟨#[]⟩, .int .i64 0, .string ⟨#[]⟩, .int .i64 0, .slice none 0 0, .slice none 0 0] 33)) ∧
    PgIn (fun b => b = w.heap.size) (w.alloc (.cells #[.string ⟨#[]⟩, .int .i64 0, .string ⟨#[]⟩, .int .i64 0, .slice none 0 0, .slice none 0 0] 33)) pB [.slice none 0 0, .slice (some ⟨w.heap.size, 0, none⟩) 1 1] := by
  obtain ⟨h1, s1⟩ := alloc_step (W := w) rfl #[.string ⟨#[]⟩, .int .i64 0, .string ⟨#[]⟩, .int .i64 0, .slice none 0 0, .slice none 0 0] 33
  refine ⟨fun b hb => ⟨by omega, by subst hb; exact ⟨_, _, h1⟩⟩, none, 0, some ⟨w.heap.size, 0, none⟩, 1, rfl, slok (fun h => rfl) (by simp [pB]), slok (fun h => by cases h) (by simp [pB]), .inl rfl, rm_hold (n := 6) [[.string ⟨#[]⟩, .int .i64 0, .string ⟨#[]⟩, .int .i64 0, .slice none 0 0, .slice none 0 0]] rfl h1 rfl (by simp) rfl (all1 ⟨_, rfl, by simp, trIn_leaf 0 [] (by simp)⟩)⟩
theorem aw4_all (w : World) : SgIn (fun b => b < w.heap.size + 1) (w.alloc (.cells #[.string ⟨#[97]⟩, .slice none 0 0, .string ⟨#[98]⟩, .slice none 0 0] 46)) sAr [.string ⟨#[45, 62]⟩, .slice (some ⟨w.heap.size, 0, none⟩) 2 2] := by
  obtain ⟨h1, s1⟩ := alloc_step (W := w) rfl #[.string ⟨#[97]⟩, .slice none 0 0, .string ⟨#[98]⟩, .slice none 0 0] 46
  exact (SgIn_iff _ _ _ _).2 ⟨some ⟨w.heap.size, 0, none⟩, 2, rfl, by simp [sAr], slok (fun h => by cases h) (by simp [sAr]), rm_hold (n := 2) (R := SgIn _ _) [[.string ⟨#[97]⟩, .slice none 0 0], [.string ⟨#[98]⟩, .slice none 0 0]] (by omega) h1 rfl (by simp) rfl (all2 (sgIn_leaf [97] (by simp)) (sgIn_leaf [98] (by simp)))⟩
/-- The calls. -/
theorem gp_below {w W : World} (hG : GP (fun b => b < w.heap.size) w) (hb : Below w.heap.size w W) : GP (fun b => b < W.heap.size) W := hG.keep (KP.of_below hb fun b hb => hb) (fun b hb' => Nat.lt_of_lt_of_le hb' hb.size)
theorem call1 (w : World) (hG : GP (fun b => b < w.heap.size) w) : Calls Tryd.prog 8 #[.agg (cE w.heap.size).toArray] (aw1 w) fun r w' => r = .returned (.tuple #[.string ⟨#[92, 120, 32, 45, 62, 32, 102, 32, 40, 102, 32, 120, 41]⟩, .int .i64 0]) ∧ Below (aw1 w).heap.size (aw1 w) w' := by
  obtain ⟨hb, _, _, hs, hT⟩ := aw1_all w
  rw [← av1]
  exact expr_any (e := tE) (gp_below hG hb) (TrIn.keep (KP.refl _ _) (fun b hb => by rw [hs]; omega) _ _ hT) (by rw [po_E]; simp [tE, tB, tA, tF, tX]) (by rw [po_E]; simp [tE, tB, tA, tF, tX])
theorem call2 (w : World) (hG : GP (fun b => b < w.heap.size) w) : Calls Tryd.prog 8 #[.agg #[.int .i64 0, .string ⟨#[]⟩, .int .i64 0, .slice none 0 0, .slice none 0 0]] w fun r w' => r = .returned (.tuple #[.string ⟨#[]⟩, .int .i64 40]) ∧ Below w.heap.size w w' := by
  rw [← av2]
  exact expr_any (e := t0) hG (trIn_leaf 0 [] (by simp)) (by rw [po_0]; simp [t0]) (by rw [po_0]; simp [t0])
theorem call3 (w : World) (hG : GP (fun b => b < w.heap.size) w) : Calls Tryd.prog 9 #[.agg #[.slice (some ⟨w.heap.size + 1 + 1 + 1 + 1, 0, none⟩) 1 1, .slice (some ⟨w.heap.size + 1 + 1 + 1 + 1 + 1, 0, none⟩) 1 1]] (aw2 w) fun r w' => r = .returned (.tuple #[.string ⟨#[123, 32, 100, 97, 116, 97, 32, 84, 32, 97, 32, 61, 32, 65, 32, 40, 84, 32, 97, 41, 32, 124, 32, 66, 32, 59, 32, 102, 32, 61, 32, 120, 32, 125]⟩, .int .i64 0]) ∧ Below (aw2 w).heap.size (aw2 w) w' := by
  obtain ⟨hb, hs, hP, hT⟩ := aw2_all w
  rw [← av3]
  exact prog_any (p := pA) (gp_below hG hb) hP hT (by simp [pA, po_X]; simp [tX]) (by simp [pA, po_X]; simp [tX]) (by simp [pA, dT])
theorem call4 (w : World) (hG : GP (fun b => b < w.heap.size) w) : Calls Tryd.prog 9 #[.agg #[.slice none 0 0, .slice (some ⟨w.heap.size, 0, none⟩) 1 1]] (w.alloc (.cells #[.string ⟨#[]⟩, .int .i64 0, .string ⟨#[]⟩, .int .i64 0, .slice none 0 0, .slice none 0 0] 33)) fun r w' => r = .returned (.tuple #[.string ⟨#[]⟩, .int .i64 40]) ∧ Below (w.alloc (.cells #[.string ⟨#[]⟩, .int .i64 0, .string ⟨#[]⟩, .int .i64 0, .slice none 0 0, .slice none 0 0] 33)).heap.size (w.alloc (.cells #[.string ⟨#[]⟩, .int .i64 0, .string ⟨#[]⟩, .int .i64 0, .slice none 0 0, .slice none 0 0] 33)) w' := by
  obtain ⟨hP, hT⟩ := aw3_all w
  rw [← av4]
  exact prog_any (p := pB) (gp_below hG ((Below.refl _ w).alloc (Nat.le_refl _) _)) hP hT (by simp [pB, po_0]; simp [t0]) (by simp [pB, po_0]; simp [t0]) (by simp [pB])
theorem call5 (w : World) (hG : GP (fun b => b < w.heap.size) w) : Calls Tryd.prog 14 #[.agg #[.string ⟨#[45, 62]⟩, .slice (some ⟨w.heap.size, 0, none⟩) 2 2]] (w.alloc (.cells #[.string ⟨#[97]⟩, .slice none 0 0, .string ⟨#[98]⟩, .slice none 0 0] 46)) fun r w' => r = .returned (.string ⟨#[97, 32, 45, 62, 32, 98]⟩) ∧ Below (w.alloc (.cells #[.string ⟨#[97]⟩, .slice none 0 0, .string ⟨#[98]⟩, .slice none 0 0] 46)).heap.size (w.alloc (.cells #[.string ⟨#[97]⟩, .slice none 0 0, .string ⟨#[98]⟩, .slice none 0 0] 46)) w' := by
  have hT := aw4_all w
  have h := sig_any (s := sAr) (pk := some ⟨w.heap.size, 0, none⟩) (ck := 2) (gp_below hG ((Below.refl _ w).alloc (Nat.le_refl _) _)) (SgIn.keep (KP.refl _ _) (fun b hb => by simpa using hb) _ _ hT) (by rw [pt_Ar]; simp)
  rw [pt_Ar] at h
  exact h
end Go.Proofs.YtebcdjlhmoffjaaDoor
namespace Go.Proofs.YtebcdjlhmoffjaaDoor
open Go.RowKit
set_option linter.unusedVariables false
set_option linter.unusedSimpArgs false
set_option maxHeartbeats 4000000 in
set_option maxRecDepth 100000 in
theorem awake_any (w : World) (hG : GP (fun b => b < w.heap.size) w) : Calls Tryd.prog 6 #[] w fun r w' => r = .returned (.bool true) ∧ Below w.heap.size w w' := by
  have HG := hide hG
  have HC1 := hide (call1 w hG)
  clear hG
  obtain ⟨hB1, hX1, hE1, hS1, hT1⟩ := aw1_all w
  have HB1 := hide hB1
  have HX1 := hide hX1
  have HE1 := hide hE1
  have HS1 := hide hS1
  have HT1 := hide hT1
  clear hB1 hX1 hE1 hS1 hT1
  go_enter Tryd.func6, Tryd.ntmps6
  go_wp2_with fail
  refine HC1.out.mono ?_
  rintro r w1 ⟨rfl, hb1⟩
  have HB2 := hide (HB1.out.trans (hb1.mono HB1.out.size))
  have HX2 := hide (HX1.out.below hb1 HX1.out.lt)
  have HE2 := hide (HE1.out.below hb1 HE1.out.lt)
  have HT2 := hide (TrIn.keep (KP.of_below hb1 (P := fun b => w.heap.size ≤ b ∧ b < w.heap.size + 7) (fun b hb => by rw [HS1.out]; omega)) (fun b hb => hb) _ _ HT1.out)
  have HL2 := hide (show w.heap.size + 7 ≤ w1.heap.size from by have := hb1.size; rw [HS1.out] at this; omega)
  clear hb1 HC1 HB1 HX1 HE1 HT1 HS1
  go_wp2_with fail
  refine (call2 w1 (gp_below HG.out HB2.out)).mono ?_
  rintro r w2 ⟨rfl, hb1⟩
  have HB3 := hide (HB2.out.trans (hb1.mono HB2.out.size))
  have hX := HX2.out.below hb1 HX2.out.lt
  have HX3 := hide hX
  have HE3 := hide (HE2.out.below hb1 HE2.out.lt)
  have HT3 := hide (TrIn.keep (KP.of_below hb1 (P := fun b => w.heap.size ≤ b ∧ b < w.heap.size + 7) (fun b hb => by have := HL2.out; omega)) (fun b hb => hb) _ _ HT2.out)
  have HL3 := hide (show w.heap.size + 7 ≤ w2.heap.size from Nat.le_trans HL2.out hb1.size)
  have hA : Hold w.heap.size cX.toArray 25 (((((w2.alloc (.cells #[.string ⟨#[97]⟩] 9)).alloc (.cells #[.string ⟨#[97]⟩, .slice none 0 0] 46)).alloc (.cells #[.string ⟨#[84]⟩, .slice (some ⟨w2.heap.size + 1, 0, none⟩) 1 1] 46)).alloc
    (.cells #[.string ⟨#[65]⟩, .slice (some ⟨w2.heap.size + 1 + 1, 0, none⟩) 1 1, .string ⟨#[66]⟩, .slice none 0 0] 47)).alloc
    (.cells #[.string ⟨#[84]⟩, .slice (some ⟨w2.heap.size, 0, none⟩) 1 1, .slice (some ⟨w2.heap.size + 1 + 1 + 1, 0, none⟩) 2 2] 50)) := ((((hX.alloc _).alloc _).alloc _).alloc _).alloc _
  have c0 := hA.cell 0
  have c1 := hA.cell 1
  have c2 := hA.cell 2
  have c3 := hA.cell 3
  have c4 := hA.cell 4
  simp only [List.getElem?_toArray, List.getElem?_cons_succ, List.getElem?_cons_zero] at c0 c1 c2 c3 c4
  clear hb1 HB2 HX2 HE2 HT2 HL2 hX hA
  go_wp2_with fail
  clear c0 c1 c2 c3 c4
  obtain ⟨hA1, hA2, _, _⟩ := aw2_all w2
  have HA1 := hide hA1
  have HA2 := hide hA2
  clear hA1 hA2
  refine (call3 w2 (gp_below HG.out HB3.out)).mono ?_
  rintro r w3 ⟨rfl, hb1⟩
  have hbb := HA1.out.trans (hb1.mono HA1.out.size)
  have HB4 := hide (HB3.out.trans (hbb.mono HB3.out.size))
  have HE4 := hide (HE3.out.below hbb HE3.out.lt)
  have HT4 := hide (TrIn.keep (KP.of_below hbb (P := fun b => w.heap.size ≤ b ∧ b < w.heap.size + 7) (fun b hb => by have := HL3.out; omega)) (fun b hb => hb) _ _ HT3.out)
  have HL4 := hide (show w.heap.size + 7 ≤ w3.heap.size from Nat.le_trans HL3.out hbb.size)
  clear hb1 hbb HB3 HX3 HE3 HT3 HL3 HA1 HA2
  go_wp2_with fail
  refine (call4 w3 (gp_below HG.out HB4.out)).mono ?_
  rintro r w4 ⟨rfl, hb1⟩
  have hA1 : Below w3.heap.size w3 (w3.alloc (.cells #[.string ⟨#[]⟩, .int .i64 0, .string ⟨#[]⟩, .int .i64 0, .slice none 0 0, .slice none 0 0] 33)) := (Below.refl _ w3).alloc (Nat.le_refl _) _
  have hbb := hA1.trans (hb1.mono hA1.size)
  have HB5 := hide (HB4.out.trans (hbb.mono HB4.out.size))
  have HE5 := hide (HE4.out.below hbb HE4.out.lt)
  have HT5 := hide (TrIn.keep (KP.of_below hbb (P := fun b => w.heap.size ≤ b ∧ b < w.heap.size + 7) (fun b hb => by have := HL4.out; omega)) (fun b hb => hb) _ _ HT4.out)
  have HL5 := hide (show w.heap.size + 7 ≤ w4.heap.size from Nat.le_trans HL4.out hbb.size)
  clear hb1 hbb HB4 HE4 HT4 HL4 hA1
  go_wp2_with fail
  refine (call5 w4 (gp_below HG.out HB5.out)).mono ?_
  rintro r w5 ⟨rfl, hb1⟩
  have hA1 : Below w4.heap.size w4 (w4.alloc (.cells #[.string ⟨#[97]⟩, .slice none 0 0, .string ⟨#[98]⟩, .slice none 0 0] 46)) := (Below.refl _ w4).alloc (Nat.le_refl _) _
  have hbb := hA1.trans (hb1.mono hA1.size)
  have HB6 := hide (HB5.out.trans (hbb.mono HB5.out.size))
  have hE6 := (HE5.out.below hbb HE5.out.lt)
  have HT6 := hide (TrIn.keep (KP.of_below hbb (P := fun b => w.heap.size ≤ b ∧ b < w.heap.size + 7) (fun b hb => by have := HL5.out; omega)) (fun b hb => hb) _ _ HT5.out)
  have HL6 := hide (show w.heap.size + 7 ≤ w5.heap.size from Nat.le_trans HL5.out hbb.size)
  have c0 := hE6.cell 0
  have c1 := hE6.cell 1
  have c2 := hE6.cell 2
  have c3 := hE6.cell 3
  have c4 := hE6.cell 4
  simp only [List.getElem?_toArray, List.getElem?_cons_succ, List.getElem?_cons_zero] at c0 c1 c2 c3 c4
  clear hb1 hbb HB5 HE5 HT5 HL5 hA1 hE6
  have HCK := hide (rcheck_any tE (P := fun b => w.heap.size ≤ b ∧ b < w.heap.size + 7) (w := w5) (fun b hb => by have := HL6.out; omega) HT6.out)
  rw [av6] at HCK
  go_wp2_with fail
  refine HCK.out.mono ?_
  rintro r w6 ⟨rfl, hb1⟩
  have HB7 := hide (HB6.out.trans (hb1.mono HB6.out.size))
  clear hb1
  go_wp2_with fail
  go_ret
  exact ⟨by rfl, HB7.out⟩
end Go.Proofs.YtebcdjlhmoffjaaDoor
