/-
  THE TREES AND PROGRAMS at the head of the statements of layer 5, and what is told of them. No walk in it.
-/
import Derived.Test.YtebcdjlhmoffjaaDoorProgP
import Derived.Test.YtebcdjlhmoffjaaDoorSigP
import Derived.Test.YtebcdjlhmoffjaaDoorRefChk
namespace Go.Proofs.YtebcdjlhmoffjaaDoor
open Go.RowKit
set_option linter.unusedVariables false
set_option linter.unusedSimpArgs false
def tX : Tr := ⟨2, [120], 0, [], []⟩
def tF : Tr := ⟨2, [102], 0, [], []⟩
def tA : Tr := ⟨5, [], 0, [], [tF, tX]⟩
def tB : Tr := ⟨5, [], 0, [], [tF, tA]⟩
def tE : Tr := ⟨4, [], 0, [[120]], [tB]⟩
def sA0 : Sg := ⟨[97], []⟩
def sB0 : Sg := ⟨[98], []⟩
def sT : Sg := ⟨[84], [sA0]⟩
def sAr : Sg := ⟨[45, 62], [sA0, sB0]⟩
def fA : Fm := ⟨[65], [sT]⟩
def fB : Fm := ⟨[66], []⟩
def dT : Dt := ⟨[84], [[97]], [fA, fB]⟩
def pA : Pg := ⟨[dT], [⟨[102], tX⟩]⟩
def pB : Pg := ⟨[], [⟨[], t0⟩]⟩
theorem po_X (n : Nat) : po tX n = [(n, tX)] := by rw [po_eq]; rfl
theorem po_F (n : Nat) : po tF n = [(n, tF)] := by rw [po_eq]; rfl
theorem po_0 (n : Nat) : po t0 n = [(n, t0)] := by rw [po_eq]; rfl
theorem po_A (n : Nat) : po tA n = [(n, tA), (n + 1, tF), (n + 1, tX)] := by rw [po_eq]; simp [tA, po_X, po_F]
theorem po_B (n : Nat) : po tB n = [(n, tB), (n + 1, tF), (n + 1, tA), (n + 2, tF), (n + 2, tX)] := by rw [po_eq]; simp [tB, po_A, po_F]
theorem po_E (n : Nat) : po tE n = [(n, tE), (n + 1, tB), (n + 2, tF), (n + 2, tA), (n + 3, tF), (n + 3, tX)] := by rw [po_eq]; simp [tE, po_B]
theorem s_X : soundM tX = true := by decide
theorem s_F : soundM tF = true := by decide
theorem s_A : soundM tA = true := by decide
theorem s_B : soundM tB = true := by decide
theorem s_E : soundM tE = true := by decide
theorem s_0 : soundM t0 = false := by decide
theorem ck_E : checkM tE = true := by
  unfold checkM
  rw [po_E]
  simp only [goC, s_X, s_F, s_A, s_B, s_E]
  decide
theorem ck_X : checkM tX = true := by
  unfold checkM
  rw [po_X]
  simp only [goC, s_X]
  decide
theorem ck_0 : checkM t0 = false := by
  unfold checkM
  rw [po_0]
  simp only [goC, s_0]
  decide
theorem ws_X : ws tX = [pw [120]] := by rw [ws_eq]; rfl
theorem ws_F : ws tF = [pw [102]] := by rw [ws_eq]; rfl
theorem ws_A : ws tA = [pw [102], pw [120]] := by
  rw [ws_eq]
  show wsF tA [(tF, ws tF), (tX, ws tX)] = _
  rw [ws_X, ws_F]
  rfl
theorem ws_B : ws tB = [pw [102], (1, [40]), pw [102], pw [120], (2, [41])] := by
  rw [ws_eq]
  show wsF tB [(tF, ws tF), (tA, ws tA)] = _
  rw [ws_A, ws_F]
  rfl
theorem ws_E : ws tE = [(1, [92]), pw [120], pw [45, 62], pw [102], (1, [40]), pw [102], pw [120], (2, [41])] := by
  rw [ws_eq]
  show wsF tE [(tB, ws tB)] = _
  rw [ws_B]
  rfl
theorem av1 : exprV tE = .tuple #[.string ⟨#[92, 120, 32, 45, 62, 32, 102, 32, 40, 102, 32, 120, 41]⟩, .int .i64 0] := by
  unfold exprV
  rw [ck_E]
  show wholeV (runA (ws tE) _) = _
  rw [ws_E]
  rfl
theorem av2 : exprV t0 = .tuple #[.string ⟨#[]⟩, .int .i64 40] := by
  unfold exprV
  rw [ck_0]
  rfl
theorem sg_a : sgW sA0 = [pw [97]] := by rw [sgW_eq]; rfl
theorem sg_b : sgW sB0 = [pw [98]] := by rw [sgW_eq]; rfl
theorem sg_T : sgW sT = [pw [84], pw [97]] := by
  rw [sgW_eq]
  show sgF sT [(sA0, sgW sA0)] = _
  rw [sg_a]
  rfl
theorem sg_Ar : sgW sAr = [pw [97], pw [45, 62], pw [98]] := by
  rw [sgW_eq]
  show sgF sAr [(sA0, sgW sA0), (sB0, sgW sB0)] = _
  rw [sg_a, sg_b]
  rfl
theorem ok_a (n : Nat) (h : n + 1 ≤ 30) : sgOK sA0 n = true := by rw [sgOK_eq]; simp [sA0]; omega
theorem ok_b (n : Nat) (h : n + 1 ≤ 30) : sgOK sB0 n = true := by rw [sgOK_eq]; simp [sB0]; omega
theorem ok_T (n : Nat) (h : n + 2 ≤ 30) : sgOK sT n = true := by rw [sgOK_eq]; simp [sT, ok_a _ (show n + 1 + 1 ≤ 30 by omega)]; omega
theorem ok_Ar : sgOK sAr 0 = true := by rw [sgOK_eq]; simp [sAr, ok_a, ok_b]
theorem pt_Ar : ptA 0 (pSig sAr) (some ([], true)) = some ([97, 32, 45, 62, 32, 98], false) := by
  unfold ptA
  rw [show ptOK 0 (pSig sAr) = sgOK sAr 0 from rfl, ok_Ar, show ptW (pSig sAr) = sgW sAr from rfl, sg_Ar]
  rfl
theorem fm_A : fmW fA = [pw [65], (1, [40]), pw [84], pw [97], (2, [41])] := by
  show pw [65] :: [(sT, sgW sT)].flatMap sgAt = _
  rw [sg_T]
  rfl
theorem dt_T : dtW dT = [pw [100, 97, 116, 97], pw [84], pw [97], pw [61], pw [65], (1, [40]), pw [84], pw [97], (2, [41]), pw [124], pw [66]] := by
  show pw [100, 97, 116, 97] :: pw [84] :: ([pw [97]] ++ (pw [61] :: sepW [124] [fmW fA, fmW fB])) = _
  rw [fm_A]
  rfl
theorem pg_A : pgW pA = [pw [123], pw [100, 97, 116, 97], pw [84], pw [97], pw [61], pw [65], (1, [40]), pw [84], pw [97], (2, [41]), pw [124], pw [66], pw [59], pw [102], pw [61], pw [120], pw [125]] := by
  show pw [123] :: (sepW [59] ([dtW dT] ++ [pw [102] :: pw [61] :: ws tX]) ++ [pw [125]]) = _
  rw [dt_T, ws_X]
  rfl
theorem sgM_a (n : Nat) : sgM sA0 n = true := by rw [sgM_eq]; simp [wrM, sA0]; decide
theorem sgM_T (n : Nat) (h : n ≠ 0) : sgM sT n = true := by
  rw [sgM_eq]
  simp only [wrM, sT, List.all_cons, List.all_nil, sgM_a]
  simp [h]
  decide
theorem pm_A : progM pA = true := by
  unfold progM
  simp only [pA, List.all_cons, List.all_nil, Bool.and_true]
  have h1 : dataM dT = true := by
    unfold dataM
    simp only [dT, List.all_cons, List.all_nil]
    have h2 : formM fA = true := by
      unfold formM
      simp only [fA, wrM, List.all_cons, List.all_nil]
      rw [sgM_T _ (by decide)]
      decide
    have h3 : formM fB = true := by decide
    rw [h2, h3]
    decide
  have h2 : defM ⟨[102], tX⟩ = true := by
    unfold defM
    simp only [ck_X]
    decide
  rw [h1, h2]
  decide
theorem av3 : progV pA = .tuple #[.string ⟨#[123, 32, 100, 97, 116, 97, 32, 84, 32, 97, 32, 61, 32, 65, 32, 40, 84, 32, 97, 41, 32, 124, 32, 66, 32, 59, 32, 102, 32, 61, 32, 120, 32, 125]⟩, .int .i64 0] := by
  unfold progV
  rw [pm_A]
  unfold ptA
  rw [show ptOK 0 (pProg pA) = true from by
    show [dT].all (fun d => dtOK d 0) = true
    simp [dtOK, dT, fA, fB, ok_T], show ptW (pProg pA) = pgW pA from rfl, pg_A]
  rfl
theorem av4 : progV pB = .tuple #[.string ⟨#[]⟩, .int .i64 40] := by
  unfold progV
  rw [show progM pB = false from by
    unfold progM
    simp only [pB, List.all_cons, List.all_nil, Bool.and_true]
    rw [show defM ⟨[], t0⟩ = false from by unfold defM; simp only [ck_0]; decide]
    decide]
  rfl
theorem rs_X : rsoundM tX = true := by rw [rsoundM_eq]; decide
theorem rs_F : rsoundM tF = true := by rw [rsoundM_eq]; decide
theorem rs_A : rsoundM tA = true := by
  rw [rsoundM_eq]
  simp only [rbindM, rkidsM, tA, List.all_cons, List.all_nil, rs_X, rs_F]
  decide
theorem rs_B : rsoundM tB = true := by
  rw [rsoundM_eq]
  simp only [rbindM, rkidsM, tB, List.all_cons, List.all_nil, rs_A, rs_F]
  decide
theorem rs_E : rsoundM tE = true := by
  rw [rsoundM_eq]
  simp only [rbindM, rkidsM, tE, List.all_cons, List.all_nil, rs_B]
  decide
theorem av6 : rcheckM tE = true := by
  unfold rcheckM
  rw [rs_E]
  have h1 : tsz tE = 6 := by simp [tsz_eq, tE, tB, tA, tF, tX]
  have d1 : tdp tX = 1 := by rw [tdp_eq]; rfl
  have d2 : tdp tF = 1 := by rw [tdp_eq]; rfl
  have d3 : tdp tA = 2 := by rw [tdp_eq]; simp only [tA, List.foldl, d1, d2]; decide
  have d4 : tdp tB = 3 := by rw [tdp_eq]; simp only [tB, List.foldl, d3, d2]; decide
  have h2 : tdp tE = 4 := by rw [tdp_eq]; simp only [tE, List.foldl, d4]; decide
  rw [h1, h2]
  decide
end Go.Proofs.YtebcdjlhmoffjaaDoor
