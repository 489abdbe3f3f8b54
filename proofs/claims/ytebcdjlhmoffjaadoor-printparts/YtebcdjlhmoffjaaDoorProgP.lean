/-
  THE WALK OF print.Prog: a program's text.
-/
import Derived.Test.YtebcdjlhmoffjaaDoorTProg
import Derived.Test.YtebcdjlhmoffjaaDoorExprP
namespace Go.Proofs.YtebcdjlhmoffjaaDoor
open Go.RowKit Go.Shelf
set_option linter.unusedVariables false
set_option linter.unusedSimpArgs false
theorem ptext_ne (p : Pg) (tg : Bool) : ptA 0 (pProg p) (some ([], true)) ≠ some ([], tg) := by
  intro hx
  unfold ptA at hx
  split at hx
  · have h1 := runA_some (ptW (pProg p)) (some ([], true)) ⟨pw [123], by show _ ∈ pgW p; simp [pgW], by simp [pw]⟩
    rw [hx] at h1
    simp [outN] at h1
  · cases hx
/-- What print.Prog answers. -/
def progV (p : Pg) : Value := if progM p then wholeV (ptA 0 (pProg p) (some ([], true))) else wholeV none
set_option maxRecDepth 100000 in
set_option maxHeartbeats 1000000 in
theorem prog_any2 {Q P : Nat → Prop} {w : World} {p : Pg} {pd : Option Addr} {cd : Nat} {pf : Option Addr} {cf : Nat} (hG : GP (fun b => b < w.heap.size) w) (hQ : PL Q w) (hP : ∀ b, P b → b < w.heap.size) (hE : PgIn2 Q P w p [.slice pd p.ds.length cd, .slice pf p.fs.length cf]) (hD : ∀ d ∈ p.fs, ∀ x ∈ po d.bd 1, x.1 ≤ 1000000 ∧ x.2.ks.length ≤ 1000000) (hN : ∀ d ∈ p.fs, ∀ x ∈ po d.bd 1, x.2.ns.length ≤ 1000000) (hS : ∀ d ∈ p.ds, d.ps.length ≤ 1000000) :
    Calls Tryd.prog 9 #[.agg #[.slice pd p.ds.length cd, .slice pf p.fs.length cf]] w fun r w' => r = .returned (progV p) ∧ Below w.heap.size w w' := by
  obtain ⟨W, hW⟩ : ∃ W, W = w.alloc (.cells #[.slice pd p.ds.length cd, .slice pf p.fs.length cf] 37) := ⟨_, rfl⟩
  have hB : Below w.heap.size w W := by rw [hW]; exact (Below.refl _ w).alloc (Nat.le_refl _) _
  have hBd : Below w.heap.size w W.drew := ⟨hB.os, hB.tape, hB.output, hB.size, hB.block⟩
  have hH : Hold w.heap.size #[.slice pd p.ds.length cd, .slice pf p.fs.length cf] 37 W := by rw [hW]; exact Hold.new w _ 37
  have hWs : W.heap.size = w.heap.size + 1 := by rw [hW]; simp
  have hE1 := PgIn2.keep (KP.of_below hBd hQ.lt) (KP.of_below hBd hP) p _ hE
  have HC := hide (tprog_any2 (hQ.below (Nat.le_refl _) hBd) (fun b hb => Nat.lt_of_lt_of_le (hP b hb) hBd.size) hE1 hD)
  have HWH := hide fun (W2 : World) (hb : Below w.heap.size w W2) (hc : progM p = true) => wholeT (w := W2) (x := pProg p) (ty := 37) (y := .agg #[.slice pd p.ds.length cd, .slice pf p.fs.length cf]) (hG.keep (KP.of_below hb fun b hb => hb) (fun b hb' => Nat.lt_of_lt_of_le hb' hb.size))
    (by
      unfold progM at hc
      simp only [Bool.and_eq_true, decide_eq_true_eq, List.all_eq_true] at hc
      obtain ⟨⟨⟨h1, h2⟩, h3⟩, h4⟩ := hc
      refine ⟨_, rfl, PgIn2.join (KP.of_below hb hQ.lt) (KP.of_below hb hP) (fun b hb' => Nat.lt_of_lt_of_le (hQ.lt b hb') hb.size) (fun b hb' => Nat.lt_of_lt_of_le (hP b hb') hb.size) p _ hE, by omega, by omega, fun d hd => ⟨hS d hd, ?_⟩, fun d hd => ?_⟩
      · have := h3 d hd
        unfold dataM at this
        simp only [Bool.and_eq_true, decide_eq_true_eq] at this
        have := this.1.2
        omega
      · have := h4 d hd
        unfold defM at this
        rw [Bool.and_eq_true] at this
        exact shp_of d.bd 1 fun x hx => ⟨(hD d hd x hx).2, hN d hd x hx, (check_mem this.2 x hx).2.2⟩) (ptext_ne p)
  have HS : Hid (∀ W2, Below W.drew.heap.size W.drew W2 → (W2.cell? ⟨w.heap.size, 0, none⟩ = some (.slice pd p.ds.length cd) ∧ W2.cell? ⟨w.heap.size, 1, none⟩ = some (.slice pf p.fs.length cf))) := fun W2 hb => by
    have hl : w.heap.size < W.drew.heap.size := by show w.heap.size < W.heap.size; omega
    have h : Hold w.heap.size #[.slice pd p.ds.length cd, .slice pf p.fs.length cf] 37 W2 := Hold.below (W := W.drew) (show Hold w.heap.size _ 37 W.drew from hH) hb hl
    exact ⟨h.cell 0, h.cell 1⟩
  have h00 := HS.out W.drew (Below.refl _ _)
  obtain ⟨c0, c1⟩ := h00
  have HBd := hide hBd
  clear hE hE1 hG hD hN hB hBd hH hP hQ hS
  cases hck : progM p
  · have HV : Hid (progV p = wholeV none) := by show progV p = _; unfold progV; rw [hck]; rfl
    rw [hck] at HC
    clear hck
    go_enter Tryd.func9, Tryd.ntmps9
    go_wp2_with fail
    rw [← hW]
    clear hW
    go_region_held3 (fun w' => w'.cell? ⟨w.heap.size, 0, none⟩ = some (.slice pd p.ds.length cd) ∧ w'.cell? ⟨w.heap.size, 1, none⟩ = some (.slice pf p.fs.length cf)) (first | go_keep | (exact HS.out _ HB2.out) | (exact HS.out _ HB1.out)) (first | (go_at_call 21; refine HC.out.mono ?_; rintro r w1 ⟨rfl, hb1⟩; have HB1 := hide hb1; clear hb1) | (go_at_call 19; refine whole_no.mono ?_; rintro r w2 ⟨rfl, rfl⟩; have HB2 := hide HB1.out; unfold wholeV))
    go_wp2_with fail
    go_ret2
    exact ⟨by rw [HV.out]; rfl, HBd.out.trans (HB1.out.mono HBd.out.size)⟩
  · have HV : Hid (progV p = wholeV (ptA 0 (pProg p) (some ([], true)))) := by show progV p = _; unfold progV; rw [hck]; rfl
    rw [hck] at HC
    have HWW := hide fun W2 hb => HWH.out W2 hb hck
    clear hck HWH
    generalize ptA 0 (pProg p) (some ([], true)) = st at *
    obtain ⟨sv, nv, hsv⟩ : ∃ sv nv, wholeV st = .tuple #[.string sv, .int .i64 nv] := by
      rcases st with _ | ⟨o, t⟩
      · exact ⟨_, _, rfl⟩
      · exact ⟨_, _, rfl⟩
    rw [hsv] at HWW HV
    clear hsv
    go_enter Tryd.func9, Tryd.ntmps9
    go_wp2_with fail
    rw [← hW]
    clear hW
    go_region_held3 (fun w' => w'.cell? ⟨w.heap.size, 0, none⟩ = some (.slice pd p.ds.length cd) ∧ w'.cell? ⟨w.heap.size, 1, none⟩ = some (.slice pf p.fs.length cf)) (first | go_keep | (exact HS.out _ HB2.out) | (exact HS.out _ HB1.out)) (first | (go_at_call 21; refine HC.out.mono ?_; rintro r w1 ⟨rfl, hb1⟩; have HB1 := hide hb1; have HW2 := hide (HWW.out w1 (HBd.out.trans (hb1.mono HBd.out.size))); clear hb1) | (go_at_call 19; refine HW2.out.mono ?_; rintro r w2 ⟨rfl, hb2⟩; have HB2 := hide (HB1.out.trans (hb2.mono HB1.out.size)); clear hb2))
    go_wp2_with fail
    go_ret2
    exact ⟨by rw [HV.out]; rfl, HBd.out.trans (HB2.out.mono HBd.out.size)⟩
theorem prog_any {P : Nat → Prop} {w : World} {p : Pg} {pd : Option Addr} {cd : Nat} {pf : Option Addr} {cf : Nat} (hG : GP (fun b => b < w.heap.size) w) (hP : PL P w) (hE : PgIn P w p [.slice pd p.ds.length cd, .slice pf p.fs.length cf]) (hD : ∀ d ∈ p.fs, ∀ x ∈ po d.bd 1, x.1 ≤ 1000000 ∧ x.2.ks.length ≤ 1000000) (hN : ∀ d ∈ p.fs, ∀ x ∈ po d.bd 1, x.2.ns.length ≤ 1000000) (hS : ∀ d ∈ p.ds, d.ps.length ≤ 1000000) :
    Calls Tryd.prog 9 #[.agg #[.slice pd p.ds.length cd, .slice pf p.fs.length cf]] w fun r w' => r = .returned (progV p) ∧ Below w.heap.size w w' :=
  prog_any2 hG hP hP.lt hE hD hN hS
end Go.Proofs.YtebcdjlhmoffjaaDoor
