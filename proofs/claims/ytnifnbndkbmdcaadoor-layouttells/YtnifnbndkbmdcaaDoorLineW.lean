/-
  THE WALKS OF (*blocks).endAll AND line.
-/
import Derived.Test.YtnifnbndkbmdcaaDoorEnds
namespace Go.Proofs.YtnifnbndkbmdcaaDoor
open Go.RowKit
set_option linter.unusedVariables false
theorem endM_sum (may : Int → Bool) (t : Tok) (st : List Blk) : ∀ o, (endM may t st o).2.length + (endM may t st o).1.length = o.length + st.length := by
  induction st with
  | nil => intro o; simp [endM]
  | cons b r ih =>
    intro o
    unfold endM
    split
    · rw [ih]; simp; omega
    · simp
def every : Int → Bool := fun _ => true
def pt1 (c : UInt8) (t : Tok) : Tok := ⟨4, [c], 0, t.ln, t.co⟩
theorem endAll_any (P : Nat → Prop) (B : Nat) (t : Tok) (o : List Tok) (st : List Blk) (f : Bool) (w : World) (hL : L P B o st f w) (hn : o.length + st.length ≤ 1000000) :
    Calls Tryd.prog 21 #[.pointer (some ⟨B, 0, none⟩), tv t] w fun e w' => e = .returned (.tuple #[]) ∧ L P B (endM every t st o).2 (endM every t st o).1 f w' ∧ KP P w w' := by
  have A := hide (fun w hL => end_all P B t o st f w hL hn every (fun c w => always_any c w))
  have hA := hL.lt
  unfold tv at A ⊢
  go_enter Tryd.func21, Tryd.ntmps21
  go_wp2_with fail
  refine (A.out _ (hL.below ((Below.refl _ w).alloc (Nat.le_refl _) _))).mono ?_
  rintro e w1 ⟨rfl, L1, k1⟩
  go_wp2_with fail
  go_end0
  exact ⟨rfl, L1, (KP.alloc w _ hA).trans k1⟩
def lineM (t : Tok) (st : List Blk) (o : List Tok) : List Blk × List Tok :=
  let r := endM (fun c => decide (t.co < c)) t st o
  (r.1, if (top r.1).sg == [] && decide (0 < (top r.1).cl) && (top r.1).cl == t.co then r.2 ++ [pt1 59 t] else r.2)
theorem L.new {P : Nat → Prop} {B : Nat} {o : List Tok} {st : List Blk} {f : Bool} {w : World} (h : L P B o st f w) (x : Obj) : L (fun b => P b ∨ b = w.heap.size) B o st f (w.alloc x) := by
  obtain ⟨pa, ca, po, co, hS⟩ := h
  refine ⟨pa, ca, po, co, hS.hold.alloc _, hS.told.alloc _, hS.opn.alloc _, fun b hb => ?_⟩
  rcases hb with hb | rfl
  · obtain ⟨h1, h2, h3, h4⟩ := hS.apart b hb
    exact ⟨by simp; omega, h2, h3, h4⟩
  · have := hS.hold.lt
    exact ⟨by simp, by omega, row_lt hS.told, row_lt hS.opn⟩
set_option maxRecDepth 100000 in
set_option maxHeartbeats 3200000 in
theorem line_any (P : Nat → Prop) (B : Nat) (t : Tok) (o : List Tok) (st : List Blk) (f : Bool) (w : World) (hL : L P B o st f w) (hn : o.length + st.length ≤ 1000000) :
    Calls Tryd.prog 16 #[.pointer (some ⟨B, 0, none⟩), tv t] w fun e w' => e = .returned (.tuple #[]) ∧ L P B (lineM t st o).2 (lineM t st o).1 f w' ∧ KP P w w' := by
  have hA := hL.lt
  have T0 := TB.new w t
  have K0 := KP.alloc (P := P) w (.cells #[.int .i64 t.kd, .string (S t.tx), .int .i64 t.nu, .int .i64 t.ln, .int .i64 t.co] 32) hA
  have L0 := hL.new (.cells #[.int .i64 t.kd, .string (S t.tx), .int .i64 t.nu, .int .i64 t.ln, .int .i64 t.co] 32)
  have hlen := endM_sum (fun c => decide (t.co < c)) t st o
  have hlM : lineM t st o = ((endM (fun c => decide (t.co < c)) t st o).1, if (top (endM (fun c => decide (t.co < c)) t st o).1).sg == [] && decide (0 < (top (endM (fun c => decide (t.co < c)) t st o).1).cl) && (top (endM (fun c => decide (t.co < c)) t st o).1).cl == t.co then (endM (fun c => decide (t.co < c)) t st o).2 ++ [pt1 59 t] else (endM (fun c => decide (t.co < c)) t st o).2) := rfl
  have A := hide (end_line (fun b => P b ∨ b = w.heap.size) B t w.heap.size o st f _ L0 hn T0 (.inr rfl) (fun c => decide (t.co < c)) (fun c w' h => leftOf_any w.heap.size t c w' h))
  rw [hlM]
  clear hlM L0
  generalize endM (fun c => decide (t.co < c)) t st o = r at *
  obtain ⟨st1, o1⟩ := r
  simp only at A hlen ⊢
  generalize hR : (if ((top st1).sg == [] && decide (0 < (top st1).cl) && (top st1).cl == t.co) = true then o1 ++ [pt1 59 t] else o1) = R
  have hR := hide hR
  unfold tv at A ⊢
  have HK := hide (fun b (h : P b) => hA b h)
  clear hA hL
  go_enter Tryd.func16, Tryd.ntmps16
  go_wp2_with fail
  refine A.out.mono ?_
  rintro e w1 ⟨rfl, L1, k1⟩
  have K1 := K0.trans (k1.mono fun b hb => .inl hb)
  have T1 : TB w.heap.size t w1 := Hold.kp T0 k1 (.inr rfl)
  clear k1 K0 T0 A
  generalize w.heap.size = q at *
  have A := hide (last_any _ B o1 st1 f w1 L1 (by omega))
  have HP := hide (fun w h => put_any (fun b => P b ∨ b = q) B [59] t o1 st1 f w h (by omega))
  have hs := S_list (top st1).sg
  unfold bv at A
  unfold tv at HP
  generalize S (top st1).sg = s at *
  generalize (top st1).cl = cc at *
  generalize (top st1).sg = sg at *
  subst hs
  go_wp2_with fail
  refine A.out.mono ?_
  rintro e w2 ⟨rfl, b2⟩
  have B2 := b2.alloc b2.size (.cells #[.string s, .int .i64 cc] 78)
  have T3 : TB q t (w2.alloc (.cells #[.string s, .int .i64 cc] 78)) := Hold.alloc (TB.below T1 b2 (Hold.lt T1)) _
  have K3 := K1.trans (KP.of_below B2 (fun b hb => ((L1.lt b (.inl hb)))))
  have L3 := L1.below B2
  obtain ⟨c30, c31, c32, c33, c34⟩ := T3.cells
  have HL3 := hide (L3.weak (Q := P) fun b hb => .inl hb)
  clear b2 B2 T1 K1 L1 A
  by_cases hb : s.toList = []
  · have hs2 : s.toList.isEmpty = true := by rw [hb]; rfl
    by_cases h0 : 0 < cc
    · by_cases he : cc = t.co
      · have he2 : (cc == t.co) = true := by simpa using he
        have e1 : (s.toList == [] && decide (0 < cc) && cc == t.co) = true := by rw [hb]; simp [h0, he2]
        clear he
        have hR2 : Hid (o1 ++ [pt1 59 t] = R) := by show _ = R; rw [← hR.out, e1]; rfl
        clear hR e1
        go_wp2_with fail
        refine (HP.out _ L3).mono ?_
        rintro e w4 ⟨rfl, L4, K4⟩
        go_wp2_with fail
        go_end0
        exact ⟨rfl, by rw [← hR2.out]; exact L4.weak (Q := P) fun b hb => .inl hb, K3.trans (K4.mono fun b hb => .inl hb)⟩
      · have he2 : (cc == t.co) = false := by simpa using he
        have e1 : (s.toList == [] && decide (0 < cc) && cc == t.co) = false := by rw [he2]; simp
        have hR2 : Hid (o1 = R) := by show _ = R; rw [← hR.out, e1]; rfl
        clear hR e1
        go_wp2_with fail
        go_end0
        exact ⟨rfl, by rw [← hR2.out]; exact HL3.out, K3⟩
    · have e1 : (s.toList == [] && decide (0 < cc) && cc == t.co) = false := by simp [h0]
      have hR2 : Hid (o1 = R) := by show _ = R; rw [← hR.out, e1]; rfl
      clear hR e1
      go_wp2_with fail
      go_end0
      exact ⟨rfl, by rw [← hR2.out]; exact HL3.out, K3⟩
  · have hs2 : s.toList.isEmpty = false := by cases h : s.toList with | nil => exact absurd h hb | cons => rfl
    have e1 : (s.toList == [] && decide (0 < cc) && cc == t.co) = false := by
      have : (s.toList == []) = false := by simpa using hb
      rw [this]; rfl
    have hR2 : Hid (o1 = R) := by show _ = R; rw [← hR.out, e1]; rfl
    clear hR e1
    go_wp2_with fail
    go_end0
    exact ⟨rfl, by rw [← hR2.out]; exact HL3.out, K3⟩
end Go.Proofs.YtnifnbndkbmdcaaDoor
