/-
  THE WALK OF (*blocks).end, FOR BOTH OF ITS CLOSURES.
-/
import Derived.Test.YtnifnbndkbmdcaaDoorBegin
import Derived.Deep.LoopGhost
import Derived.WalkMore
namespace Go.Proofs.YtnifnbndkbmdcaaDoor
open Go.RowKit
set_option linter.unusedVariables false
/-- Blocks of a column are closed at t, as long as they may be. -/
def endM (may : Int → Bool) (t : Tok) : List Blk → List Tok → List Blk × List Tok
  | [], o => ([], o)
  | b :: r, o => if b.sg == [] && may b.cl then endM may t r (o ++ [⟨4, [125], 0, t.ln, t.co⟩]) else (b :: r, o)
theorem endM_len (may : Int → Bool) (t : Tok) (st : List Blk) : ∀ o, (endM may t st o).1.length ≤ st.length ∧ (endM may t st o).2.length ≤ o.length + st.length := by
  induction st with
  | nil => intro o; simp [endM]
  | cons b r ih =>
    intro o
    unfold endM
    split
    · have := ih (o ++ [⟨4, [125], 0, t.ln, t.co⟩])
      simp at this ⊢; omega
    · simp
set_option maxRecDepth 100000 in
set_option maxHeartbeats 3200000 in
theorem leftOf_any (q : Nat) (t : Tok) (c : Int) (w : World) (h : TB q t w) :
    Calls Tryd.prog 39 #[.int .i64 c, .pointer (some ⟨q, 0, none⟩)] w fun e w' => e = .returned (.bool (decide (t.co < c))) ∧ w' = w := by
  obtain ⟨c0, c1, c2, c3, c4⟩ := h.cells
  go_enter Tryd.func39, Tryd.ntmps39
  go_wp2_with fail
  go_ret
  exact ⟨rfl, rfl⟩
theorem always_any (c : Int) (w : World) :
    Calls Tryd.prog 45 #[.int .i64 c] w fun e w' => e = .returned (.bool true) ∧ w' = w := by
  go_enter Tryd.func45, Tryd.ntmps45
  go_wp2_with fail
  go_ret
  exact ⟨rfl, rfl⟩
def deepAt (B : Nat) (w : World) : Nat := match w.cell? ⟨B, 1, none⟩ with | some (.slice _ n _) => n | _ => 0
theorem L.deep {P : Nat → Prop} {B : Nat} {o : List Tok} {st : List Blk} {f : Bool} {w : World} (h : L P B o st f w) : deepAt B w = st.length := by
  obtain ⟨pa, ca, po, co, hS⟩ := h
  have : w.cell? ⟨B, 1, none⟩ = some (.slice po st.length co) := hS.hold.cell 1
  unfold deepAt; rw [this]
theorem Hold.kp {P : Nat → Prop} {b : Nat} {C : Array Value} {t : TypeId} {W W' : World} (h : Hold b C t W) (k : KP P W W') (hb : P b) : Hold b C t W' := (k.block b hb).trans h
theorem L.lt {P : Nat → Prop} {B : Nat} {o : List Tok} {st : List Blk} {f : Bool} {w : World} (h : L P B o st f w) (b : Nat) (hb : P b) : b < w.heap.size := by obtain ⟨_, _, _, _, h⟩ := h; exact (h.apart b hb).1
theorem endM_stop {may : Int → Bool} {t : Tok} {b : Blk} {r : List Blk} {o : List Tok} (h : (b.sg == [] && may b.cl) = false) : endM may t (b :: r) o = (b :: r, o) := by unfold endM; rw [h]; rfl
theorem endM_go {may : Int → Bool} {t : Tok} {b : Blk} {r : List Blk} {o : List Tok} (h : (b.sg == [] && may b.cl) = true) : endM may t (b :: r) o = endM may t r (o ++ [⟨4, [125], 0, t.ln, t.co⟩]) := by rw [endM, h]; rfl
set_option maxRecDepth 100000 in
set_option maxHeartbeats 3200000 in
theorem end_line (P : Nat → Prop) (B : Nat) (t : Tok) (q : Nat) (o : List Tok) (st : List Blk) (f : Bool) (w : World) (hL : L P B o st f w) (hn : o.length + st.length ≤ 1000000) (hq : TB q t w) (hPq : P q) (may : Int → Bool) (hM : ∀ c w, TB q t w → Calls Tryd.prog 39 #[.int .i64 c, .pointer (some ⟨q, 0, none⟩)] w fun e w' => e = .returned (.bool (may c)) ∧ w' = w) :
    Calls Tryd.prog 38 #[.pointer (some ⟨B, 0, none⟩), tv t, .func (.func 39) #[] #[.pointer (some ⟨q, 0, none⟩)]] w fun e w' => e = .returned (.tuple #[]) ∧ L P B (endM may t st o).2 (endM may t st o).1 f w' ∧ KP P w w' := by
  have hLA : ∀ b, P b → b < w.heap.size := fun b hb => by obtain ⟨_, _, _, _, h⟩ := hL; exact (h.apart b hb).1
  have T0 := TB.new w t
  have K0 := KP.alloc (P := P) w (.cells #[.int .i64 t.kd, .string (S t.tx), .int .i64 t.nu, .int .i64 t.ln, .int .i64 t.co] 32) hLA
  have L0 : L (fun b => P b ∨ b = w.heap.size) B o st f (w.alloc (.cells #[.int .i64 t.kd, .string (S t.tx), .int .i64 t.nu, .int .i64 t.ln, .int .i64 t.co] 32)) := by
    obtain ⟨pa, ca, po, co, hS⟩ := hL
    refine ⟨pa, ca, po, co, hS.hold.alloc _, hS.told.alloc _, hS.opn.alloc _, fun b hb => ?_⟩
    rcases hb with hb | rfl
    · obtain ⟨h1, h2, h3, h4⟩ := hS.apart b hb
      exact ⟨by simp; omega, h2, h3, h4⟩
    · have := hS.hold.lt
      exact ⟨by simp, by omega, row_lt hS.told, row_lt hS.opn⟩
  have TQ : TB q t (w.alloc (.cells #[.int .i64 t.kd, .string (S t.tx), .int .i64 t.nu, .int .i64 t.ln, .int .i64 t.co] 32)) := Hold.kp hq K0 hPq
  unfold tv
  go_enter Tryd.func38, Tryd.ntmps38
  go_wp2_with fail
  go_step3
  go_wp2_with fail
  go_step3
  go_wp2_with fail
  generalize w.alloc (.cells #[.int .i64 t.kd, .string (S t.tx), .int .i64 t.nu, .int .i64 t.ln, .int .i64 t.co] 32) = w0 at *
  generalize w.heap.size = q0 at *
  clear hLA hq
  have HM := hide hM
  clear hM
  go_loopg [] st.length (fun k wr => ∃ o1 st1, st1.length = k ∧ o1.length + st1.length ≤ 1000000 ∧ L (fun b => P b ∨ b = q0) B o1 st1 f wr ∧ KP P w wr ∧ TB q0 t wr ∧ TB q t wr ∧ endM may t st o = endM may t st1 o1)
  case atStart => exact ⟨o, st, rfl, hn, L0, K0, T0, TQ, rfl⟩
  case round =>
    obtain ⟨o1, st1, hk, hn1, L1, K1, T1, Q1, hend⟩ := hrel
    have HE := hide hend
    have HL := hide L1
    clear hend L0 T0 TQ hL K0
    have HN : Hid (∀ o2 st2 (w' : World), L (fun b => P b ∨ b = q0) B o2 st2 f w' → KP P w w' → endM may t st o = (st2, o2) → L P B (endM may t st o).2 (endM may t st o).1 f w' ∧ KP P w w') := by
      intro o2 st2 w' h1 h2 h3
      rw [h3]; exact ⟨h1.weak fun b hb => .inl hb, h2⟩
    obtain ⟨pa, ca, po, co, hS⟩ := L1
    have c1 : wr.cell? ⟨B, 1, none⟩ = some (.slice po st1.length co) := hS.hold.cell 1
    clear hS
    cases st1 with
    | nil =>
      simp only [List.length_nil] at c1
      go_wp2_with fail
      rw [Exit.noGoto_normal]
      go_end0
      exact ⟨rfl, HN.out _ _ _ HL.out K1 HE.out⟩
    | cons b st1 =>
      simp only [List.length_cons] at c1 hn1 hk
      have A := hide (last_any _ B o1 (b :: st1) f wr HL.out (by simp; omega))
      have hs := S_list b.sg
      have HB1 := HL.out
      unfold top bv at A
      generalize S b.sg = s at *
      by_cases hb : b.sg = []
      · rw [hb] at hs
        have hs2 : s.toList.isEmpty = true := by rw [hs]; rfl
        cases hm : may b.cl
        · have HE2 := hide (HE.out.trans (endM_stop (by rw [hb, hm]; rfl)))
          have HC := hide (fun w h => HM.out b.cl w h)
          rw [hm] at HC
          clear hm HE HM
          generalize b.cl = cc at *
          go_wp2_with fail
          refine A.out.mono ?_
          rintro e w1 ⟨rfl, b1⟩
          have Q2 := TB.below Q1 b1 (Hold.lt Q1)
          have L2 := HB1.below b1
          have B2 := b1.alloc b1.size (.cells #[.string s, .int .i64 cc] 78)
          have Q3 : TB q t (w1.alloc (.cells #[.string s, .int .i64 cc] 78)) := Hold.alloc Q2 _
          have K3 := K1.trans (KP.of_below B2 (fun b hb => ((HB1.lt b (.inl hb)))))
          have L3 := HB1.below B2
          go_wp2_with fail
          refine (HC.out _ Q3).mono ?_
          rintro e w2 ⟨rfl, rfl⟩
          go_wp2_with fail
          rw [Exit.noGoto_normal]
          go_end0
          exact ⟨rfl, HN.out _ _ _ L3 K3 HE2.out⟩
        · have HE2 := hide (HE.out.trans (endM_go (by rw [hb, hm]; rfl)))
          have HC := hide (fun w h => HM.out b.cl w h)
          rw [hm] at HC
          have HP := hide (fun w h => put_any (fun b => P b ∨ b = q0) B [125] t o1 (b :: st1) f w h (by omega))
          unfold tv at HP
          clear hm HE HM
          generalize hcc : b.cl = cc at *
          go_wp2_with fail
          refine A.out.mono ?_
          rintro e w1 ⟨rfl, b1⟩
          have Q2 := TB.below Q1 b1 (Hold.lt Q1)
          have T2 := TB.below T1 b1 (Hold.lt T1)
          have B2 := b1.alloc b1.size (.cells #[.string s, .int .i64 cc] 78)
          have Q3 : TB q t (w1.alloc (.cells #[.string s, .int .i64 cc] 78)) := Hold.alloc Q2 _
          have T3 : TB q0 t (w1.alloc (.cells #[.string s, .int .i64 cc] 78)) := Hold.alloc T2 _
          have K3 := K1.trans (KP.of_below B2 (fun b hb => ((HB1.lt b (.inl hb)))))
          have L3 := HB1.below B2
          obtain ⟨c30, c31, c32, c33, c34⟩ := T3.cells
          go_wp2_with fail
          refine (HC.out _ Q3).mono ?_
          rintro e w2 ⟨rfl, rfl⟩
          go_wp2_with fail
          refine (HP.out _ L3).mono ?_
          rintro e w3 ⟨rfl, L4, K4⟩
          have K5 := K3.trans (K4.mono fun b hb => .inl hb)
          have T4 : TB q0 t w3 := Hold.kp T3 K4 (.inr rfl)
          have Q4 : TB q t w3 := Hold.kp Q3 K4 (.inl hPq)
          have HO := hide (pop_any _ B _ b st1 f w3 L4 (by omega))
          clear c30 c31 c32 c33 c34 T3 Q3 L3 K3 K4 L4
          go_wp2_with fail
          refine HO.out.mono ?_
          rintro e w4 ⟨rfl, L6, K6⟩
          go_wp2_with fail
          go_roundg st1.length
          case rel => exact ⟨_, st1, rfl, by simp; omega, L6, K5.trans (K6.mono fun b hb => .inl hb), Hold.kp T4 K6 (.inr rfl), Hold.kp Q4 K6 (.inl hPq), HE2.out⟩
          case measure => omega
      · have hs2 : s.toList.isEmpty = false := by rw [hs]; cases h : b.sg with | nil => exact absurd h hb | cons => rfl
        have hs3 : ¬ s.toList = [] := by rw [hs]; exact hb
        have HE2 := hide (HE.out.trans (endM_stop (by rw [← hs]; simp [hs3])))
        clear HE HM
        generalize hcc : b.cl = cc at *
        go_wp2_with fail
        refine A.out.mono ?_
        rintro e w1 ⟨rfl, b1⟩
        have B2 := b1.alloc b1.size (.cells #[.string s, .int .i64 cc] 78)
        have K3 := K1.trans (KP.of_below B2 (fun b hb => ((HB1.lt b (.inl hb)))))
        have L3 := HB1.below B2
        go_wp2_with fail
        rw [Exit.noGoto_normal]
        go_end0
        exact ⟨rfl, HN.out _ _ _ L3 K3 HE2.out⟩
set_option maxRecDepth 100000 in
set_option maxHeartbeats 3200000 in
theorem end_all (P : Nat → Prop) (B : Nat) (t : Tok) (o : List Tok) (st : List Blk) (f : Bool) (w : World) (hL : L P B o st f w) (hn : o.length + st.length ≤ 1000000) (may : Int → Bool) (hM : ∀ c w, Calls Tryd.prog 45 #[.int .i64 c] w fun e w' => e = .returned (.bool (may c)) ∧ w' = w) :
    Calls Tryd.prog 38 #[.pointer (some ⟨B, 0, none⟩), tv t, .func (.func 45) #[] #[]] w fun e w' => e = .returned (.tuple #[]) ∧ L P B (endM may t st o).2 (endM may t st o).1 f w' ∧ KP P w w' := by
  have hLA : ∀ b, P b → b < w.heap.size := fun b hb => by obtain ⟨_, _, _, _, h⟩ := hL; exact (h.apart b hb).1
  have T0 := TB.new w t
  have K0 := KP.alloc (P := P) w (.cells #[.int .i64 t.kd, .string (S t.tx), .int .i64 t.nu, .int .i64 t.ln, .int .i64 t.co] 32) hLA
  have L0 : L (fun b => P b ∨ b = w.heap.size) B o st f (w.alloc (.cells #[.int .i64 t.kd, .string (S t.tx), .int .i64 t.nu, .int .i64 t.ln, .int .i64 t.co] 32)) := by
    obtain ⟨pa, ca, po, co, hS⟩ := hL
    refine ⟨pa, ca, po, co, hS.hold.alloc _, hS.told.alloc _, hS.opn.alloc _, fun b hb => ?_⟩
    rcases hb with hb | rfl
    · obtain ⟨h1, h2, h3, h4⟩ := hS.apart b hb
      exact ⟨by simp; omega, h2, h3, h4⟩
    · have := hS.hold.lt
      exact ⟨by simp, by omega, row_lt hS.told, row_lt hS.opn⟩
  unfold tv
  go_enter Tryd.func38, Tryd.ntmps38
  go_wp2_with fail
  go_step3
  go_wp2_with fail
  go_step3
  go_wp2_with fail
  generalize w.alloc (.cells #[.int .i64 t.kd, .string (S t.tx), .int .i64 t.nu, .int .i64 t.ln, .int .i64 t.co] 32) = w0 at *
  generalize w.heap.size = q0 at *
  clear hLA
  have HM := hide hM
  clear hM
  go_loopg [] st.length (fun k wr => ∃ o1 st1, st1.length = k ∧ o1.length + st1.length ≤ 1000000 ∧ L (fun b => P b ∨ b = q0) B o1 st1 f wr ∧ KP P w wr ∧ TB q0 t wr ∧ endM may t st o = endM may t st1 o1)
  case atStart => exact ⟨o, st, rfl, hn, L0, K0, T0, rfl⟩
  case round =>
    obtain ⟨o1, st1, hk, hn1, L1, K1, T1, hend⟩ := hrel
    have HE := hide hend
    have HL := hide L1
    clear hend L0 T0 hL K0
    have HN : Hid (∀ o2 st2 (w' : World), L (fun b => P b ∨ b = q0) B o2 st2 f w' → KP P w w' → endM may t st o = (st2, o2) → L P B (endM may t st o).2 (endM may t st o).1 f w' ∧ KP P w w') := by
      intro o2 st2 w' h1 h2 h3
      rw [h3]; exact ⟨h1.weak fun b hb => .inl hb, h2⟩
    obtain ⟨pa, ca, po, co, hS⟩ := L1
    have c1 : wr.cell? ⟨B, 1, none⟩ = some (.slice po st1.length co) := hS.hold.cell 1
    clear hS
    cases st1 with
    | nil =>
      simp only [List.length_nil] at c1
      go_wp2_with fail
      rw [Exit.noGoto_normal]
      go_end0
      exact ⟨rfl, HN.out _ _ _ HL.out K1 HE.out⟩
    | cons b st1 =>
      simp only [List.length_cons] at c1 hn1 hk
      have A := hide (last_any _ B o1 (b :: st1) f wr HL.out (by simp; omega))
      have hs := S_list b.sg
      have HB1 := HL.out
      unfold top bv at A
      generalize S b.sg = s at *
      by_cases hb : b.sg = []
      · rw [hb] at hs
        have hs2 : s.toList.isEmpty = true := by rw [hs]; rfl
        cases hm : may b.cl
        · have HE2 := hide (HE.out.trans (endM_stop (by rw [hb, hm]; rfl)))
          have HC := hide (fun w => HM.out b.cl w)
          rw [hm] at HC
          clear hm HE HM
          generalize b.cl = cc at *
          go_wp2_with fail
          refine A.out.mono ?_
          rintro e w1 ⟨rfl, b1⟩
          have L2 := HB1.below b1
          have B2 := b1.alloc b1.size (.cells #[.string s, .int .i64 cc] 78)
          have K3 := K1.trans (KP.of_below B2 (fun b hb => ((HB1.lt b (.inl hb)))))
          have L3 := HB1.below B2
          go_wp2_with fail
          refine (HC.out _).mono ?_
          rintro e w2 ⟨rfl, rfl⟩
          go_wp2_with fail
          rw [Exit.noGoto_normal]
          go_end0
          exact ⟨rfl, HN.out _ _ _ L3 K3 HE2.out⟩
        · have HE2 := hide (HE.out.trans (endM_go (by rw [hb, hm]; rfl)))
          have HC := hide (fun w => HM.out b.cl w)
          rw [hm] at HC
          have HP := hide (fun w h => put_any (fun b => P b ∨ b = q0) B [125] t o1 (b :: st1) f w h (by omega))
          unfold tv at HP
          clear hm HE HM
          generalize hcc : b.cl = cc at *
          go_wp2_with fail
          refine A.out.mono ?_
          rintro e w1 ⟨rfl, b1⟩
          have T2 := TB.below T1 b1 (Hold.lt T1)
          have B2 := b1.alloc b1.size (.cells #[.string s, .int .i64 cc] 78)
          have T3 : TB q0 t (w1.alloc (.cells #[.string s, .int .i64 cc] 78)) := Hold.alloc T2 _
          have K3 := K1.trans (KP.of_below B2 (fun b hb => ((HB1.lt b (.inl hb)))))
          have L3 := HB1.below B2
          obtain ⟨c30, c31, c32, c33, c34⟩ := T3.cells
          go_wp2_with fail
          refine (HC.out _).mono ?_
          rintro e w2 ⟨rfl, rfl⟩
          go_wp2_with fail
          refine (HP.out _ L3).mono ?_
          rintro e w3 ⟨rfl, L4, K4⟩
          have K5 := K3.trans (K4.mono fun b hb => .inl hb)
          have T4 : TB q0 t w3 := Hold.kp T3 K4 (.inr rfl)
          have HO := hide (pop_any _ B _ b st1 f w3 L4 (by omega))
          clear c30 c31 c32 c33 c34 T3 L3 K3 K4 L4
          go_wp2_with fail
          refine HO.out.mono ?_
          rintro e w4 ⟨rfl, L6, K6⟩
          go_wp2_with fail
          go_roundg st1.length
          case rel => exact ⟨_, st1, rfl, by simp; omega, L6, K5.trans (K6.mono fun b hb => .inl hb), Hold.kp T4 K6 (.inr rfl), HE2.out⟩
          case measure => omega
      · have hs2 : s.toList.isEmpty = false := by rw [hs]; cases h : b.sg with | nil => exact absurd h hb | cons => rfl
        have hs3 : ¬ s.toList = [] := by rw [hs]; exact hb
        have HE2 := hide (HE.out.trans (endM_stop (by rw [← hs]; simp [hs3])))
        clear HE HM
        generalize hcc : b.cl = cc at *
        go_wp2_with fail
        refine A.out.mono ?_
        rintro e w1 ⟨rfl, b1⟩
        have B2 := b1.alloc b1.size (.cells #[.string s, .int .i64 cc] 78)
        have K3 := K1.trans (KP.of_below B2 (fun b hb => ((HB1.lt b (.inl hb)))))
        have L3 := HB1.below B2
        go_wp2_with fail
        rw [Exit.noGoto_normal]
        go_end0
        exact ⟨rfl, HN.out _ _ _ L3 K3 HE2.out⟩
end Go.Proofs.YtnifnbndkbmdcaaDoor
