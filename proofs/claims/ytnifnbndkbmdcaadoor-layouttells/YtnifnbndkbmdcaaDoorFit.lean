/-
  THE WALK OF (*blocks).fit.
-/
import Derived.Test.YtnifnbndkbmdcaaDoorLineW
namespace Go.Proofs.YtnifnbndkbmdcaaDoor
open Go.RowKit
set_option linter.unusedVariables false
/-- A closing bracket's block is closed, if it is there. -/
def popM (s : List UInt8) (st : List Blk) (o : List Tok) : Option (List Blk × List Tok) := if (top st).sg == s then some (st.tail, o) else none
def fitM (t : Tok) (st : List Blk) (o : List Tok) : Option (List Blk × List Tok) :=
  if isK t [41] then popM [40] (endM every t st o).1 (endM every t st o).2 else popM [123] st o
theorem fld0 (s : ByteArray) (c : Int) (w : World) : (Instr.field 78 (.agg #[.string s, .int .i64 c]) 0).run Tryd.prog w = .ok (.string s) w := by kernel_rfl
theorem fld1 (s : ByteArray) (c : Int) (w : World) : (Instr.field 78 (.agg #[.string s, .int .i64 c]) 1).run Tryd.prog w = .ok (.int .i64 c) w := by kernel_rfl
set_option maxRecDepth 100000 in
set_option maxHeartbeats 3200000 in
theorem fit_any (P : Nat → Prop) (B : Nat) (t : Tok) (o : List Tok) (st : List Blk) (f : Bool) (w : World) (hL : L P B o st f w) (hn : o.length + st.length ≤ 1000000) :
    Calls Tryd.prog 18 #[.pointer (some ⟨B, 0, none⟩), tv t] w fun e w' => (∃ r, fitM t st o = some r ∧ e = .returned (.bool true) ∧ L P B r.2 r.1 f w' ∧ KP P w w') ∨ (fitM t st o = none ∧ e = .returned (.bool false) ∧ KP P w w') := by
  have hA := hL.lt
  have T0 := TB.new w t
  have K0 := KP.alloc (P := P) w (.cells #[.int .i64 t.kd, .string (S t.tx), .int .i64 t.nu, .int .i64 t.ln, .int .i64 t.co] 32) hA
  have L0 := hL.new (.cells #[.int .i64 t.kd, .string (S t.tx), .int .i64 t.nu, .int .i64 t.ln, .int .i64 t.co] 32)
  have A := hide (fun w => is_any t [41] w)
  have E := hide (fun w' h => endAll_any (fun b => P b ∨ b = w.heap.size) B t o st f w' h hn)
  have hlen := endM_sum every t st o
  have HF : Hid (fitM t st o = if isK t [41] then popM [40] (endM every t st o).1 (endM every t st o).2 else popM [123] st o) := rfl
  generalize fitM t st o = F at *
  unfold tv at A E ⊢
  generalize endM every t st o = r at *
  obtain ⟨st1, o1⟩ := r
  simp only at E hlen HF
  clear hL hA
  cases h41 : isK t [41]
  · rw [h41] at A HF
    rw [if_neg (by decide)] at HF
    go_enter Tryd.func18, Tryd.ntmps18
    go_wp2_with fail
    refine (A.out _).mono ?_
    rintro e w1 ⟨rfl, b1⟩
    have L1 := L0.below b1
    have K1 := K0.trans (KP.of_below b1 fun b hb => L0.lt b (.inl hb))
    clear T0 K0 L0 A E b1
    generalize w.heap.size = q at *
    have G := hide (last_any _ B o st f w1 L1 (by omega))
    have HPOP := hide (fun b r (h : st = b :: r) w (hL : L (fun b => P b ∨ b = q) B o st f w) => pop_any _ B o b r f w (by rw [h] at hL; exact hL) (by have := congrArg List.length h; simp at this; omega))
    unfold bv at G
    have hs := S_list (top st).sg
    have hfd := fun c w => fld0 (S (top st).sg) c w
    generalize S (top st).sg = s at *
    by_cases hb : (top st).sg = [123]
    · have HF2 : Hid (F = some (st.tail, o)) := by show F = _; rw [HF.out]; unfold popM; rw [if_pos (by rw [hb]; rfl)]
      rw [hb] at hs
      obtain ⟨b, r, hst⟩ : ∃ b r, st = b :: r := by cases hx : st with | nil => rw [hx] at hb; cases hb | cons b r => exact ⟨b, r, rfl⟩
      have htl : st.tail = r := by rw [hst]; rfl
      have HQ := hide (HPOP.out b r hst)
      have HST := hide hst
      clear HPOP HF hst hb
      generalize (top st).cl = cc at *
      go_wp2_with fail
      refine G.out.mono ?_
      rintro e w2 ⟨rfl, b2⟩
      have L2 := L1.below b2
      have K2 := K1.trans (KP.of_below b2 fun b hb => L1.lt b (.inl hb))
      go_wp2_with fail
      refine (HQ.out _ L2).mono ?_
      rintro e w3 ⟨rfl, L3, K3⟩
      go_wp2_with fail
      go_ret
      exact .inl ⟨_, HF2.out, rfl, by rw [htl]; exact L3.weak fun b hb => .inl hb, K2.trans (K3.mono fun b hb => .inl hb)⟩
    · have HF2 : Hid (F = none) := by show F = _; rw [HF.out]; unfold popM; rw [if_neg (by simpa using hb)]
      have hs2 : ¬ s.toList = [123] := by rw [hs]; exact hb
      have hs3 : (s.toList == [123]) = false := by simpa using hs2
      clear HPOP HF hb hs
      generalize (top st).cl = cc at *
      go_wp2_with fail
      refine G.out.mono ?_
      rintro e w2 ⟨rfl, b2⟩
      have K2 := K1.trans (KP.of_below b2 fun b hb => L1.lt b (.inl hb))
      go_wp2_with fail
      go_ret
      exact .inr ⟨HF2.out, rfl, K2⟩
  · rw [h41] at A HF
    rw [if_pos rfl] at HF
    go_enter Tryd.func18, Tryd.ntmps18
    go_wp2_with fail
    refine (A.out _).mono ?_
    rintro e w1 ⟨rfl, b1⟩
    have L1 := L0.below b1
    have K1 := K0.trans (KP.of_below b1 fun b hb => L0.lt b (.inl hb))
    obtain ⟨c0, c1, c2, c3, c4⟩ := (TB.below T0 b1 (by simp)).cells
    clear T0 K0 L0 A b1
    go_wp2_with fail
    refine (E.out _ L1).mono ?_
    rintro e w5 ⟨rfl, L5, K5⟩
    have K6 := K1.trans (K5.mono fun b hb => .inl hb)
    clear c0 c1 c2 c3 c4 L1 K1 K5 E
    generalize w.heap.size = q at *
    have G := hide (last_any _ B o1 st1 f w5 L5 (by omega))
    have HPOP := hide (fun b r (h : st1 = b :: r) w (hL : L (fun b => P b ∨ b = q) B o1 st1 f w) => pop_any _ B o1 b r f w (by rw [h] at hL; exact hL) (by have := congrArg List.length h; simp at this; omega))
    unfold bv at G
    have hs := S_list (top st1).sg
    have hfd := fun c w => fld0 (S (top st1).sg) c w
    generalize S (top st1).sg = s at *
    by_cases hb : (top st1).sg = [40]
    · have HF2 : Hid (F = some (st1.tail, o1)) := by show F = _; rw [HF.out]; unfold popM; rw [if_pos (by rw [hb]; rfl)]
      rw [hb] at hs
      obtain ⟨b, r, hst⟩ : ∃ b r, st1 = b :: r := by cases hx : st1 with | nil => rw [hx] at hb; cases hb | cons b r => exact ⟨b, r, rfl⟩
      have htl : st1.tail = r := by rw [hst]; rfl
      have HQ := hide (HPOP.out b r hst)
      have HST := hide hst
      clear HPOP HF hst hb
      generalize (top st1).cl = cc at *
      go_wp2_with fail
      refine G.out.mono ?_
      rintro e w2 ⟨rfl, b2⟩
      have L2 := L5.below b2
      have K2 := K6.trans (KP.of_below b2 fun b hb => L5.lt b (.inl hb))
      go_wp2_with fail
      refine (HQ.out _ L2).mono ?_
      rintro e w3 ⟨rfl, L3, K3⟩
      go_wp2_with fail
      go_ret
      exact .inl ⟨_, HF2.out, rfl, by rw [htl]; exact L3.weak fun b hb => .inl hb, K2.trans (K3.mono fun b hb => .inl hb)⟩
    · have HF2 : Hid (F = none) := by show F = _; rw [HF.out]; unfold popM; rw [if_neg (by simpa using hb)]
      have hs2 : ¬ s.toList = [40] := by rw [hs]; exact hb
      have hs3 : (s.toList == [40]) = false := by simpa using hs2
      clear HPOP HF hb hs
      generalize (top st1).cl = cc at *
      go_wp2_with fail
      refine G.out.mono ?_
      rintro e w2 ⟨rfl, b2⟩
      have K2 := K6.trans (KP.of_below b2 fun b hb => L5.lt b (.inl hb))
      go_wp2_with fail
      go_ret
      exact .inr ⟨HF2.out, rfl, K2⟩
end Go.Proofs.YtnifnbndkbmdcaaDoor
