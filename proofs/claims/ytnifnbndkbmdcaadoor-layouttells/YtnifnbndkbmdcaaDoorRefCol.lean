/-
  THE WALK OF dawdlerref03.column.
-/
import Derived.Test.YtnifnbndkbmdcaaDoorRefC
import Derived.Test.YtnifnbndkbmdcaaDoorRefMath
import Derived.Deep.LoopGhost
namespace Go.Proofs.YtnifnbndkbmdcaaDoor
open Go.RowKit
set_option linter.unusedVariables false
theorem ints_mid (pre : List Blk) (b : Blk) (r : List Blk) : (ints (pre ++ b :: r))[r.length]? = some (code b) := by
  have e : ints (pre ++ b :: r) = (ints r ++ [code b]) ++ ints pre := by simp [ints]
  rw [e, List.getElem?_append_left (by simp [ints_len]), List.getElem?_append_right (by rw [ints_len]; exact Nat.le_refl _), ints_len]; simp
set_option maxRecDepth 20000 in
theorem column_ref (o : List Tok) (st : List Blk) (po : Option Addr) (co : Nat) (pi : Option Addr) (ci : Nat) (w : World) (hR : RS w po co pi ci o st) (hn : st.length ≤ 1000000) :
    Calls Tryd.prog 46 #[.agg #[.slice po o.length co, .slice pi st.length ci]] w fun e w' => e = .returned (.int .i64 (colR st)) ∧ Below w.heap.size w w' := by
  have B1 := (Below.refl _ w).alloc (Nat.le_refl _) (.cells #[.slice po o.length co, .slice pi st.length ci] 50)
  have H0 := Hold.new w #[.slice po o.length co, .slice pi st.length ci] 50
  have R1 := hR.below B1
  have c1 : (w.alloc (.cells #[.slice po o.length co, .slice pi st.length ci] 50)).cell? ⟨w.heap.size, 1, none⟩ = some (.slice pi st.length ci) := H0.cell 1
  clear hR H0
  go_enter Tryd.func46, Tryd.ntmps46
  go_wp2_with fail
  generalize w.alloc (.cells #[.slice po o.length co, .slice pi st.length ci] 50) = W1 at *
  go_loopg [3] (st.length + 1) (fun gk i wr => ∃ (pre suf : List Blk), st = pre ++ suf ∧ gk = suf.length + 1 ∧ i = .int .i64 ((suf.length : Int) - 1) ∧ W1 = wr ∧ colR st = colR suf)
  case atStart => exact ⟨[], st, rfl, rfl, by go_num, rfl, rfl⟩
  case round =>
    obtain ⟨pre, suf, hst, hgk, rfl, rfl, hc⟩ := hrel
    cases suf with
    | nil =>
      have HC := hide hc
      clear hc
      simp only [List.length_nil]
      go_wp2_with fail
      go_ret
      exact ⟨by rw [HC.out]; rfl, B1⟩
    | cons b r =>
      have hm := ints_mid pre b r
      rw [← hst] at hm
      have hlr : r.length < st.length := by rw [hst]; simp; omega
      rcases R1.opn with he | ⟨g, og, rfl, hg, hmm⟩
      · rw [he] at hm; simp at hm
      have d0 := hmm r.length (code b) hm
      have HC : Hid (colR st = if 0 < code b then code b else colR r) := hc
      have HS := hide hst
      clear hc hst hm hmm R1
      simp only [List.length_cons] at hgk ⊢
      generalize code b = cb at *
      generalize hrn : r.length = rn at *
      generalize hsn : st.length = sn at *
      by_cases hcb : 0 < cb
      · go_wp2_with fail
        go_ret
        exact ⟨by rw [HC.out, if_pos hcb]; rfl, B1⟩
      · go_wp2_with fail
        go_roundg (rn + 1)
        case measure => omega
        case rel => exact ⟨pre ++ [b], r, by rw [HS.out]; simp, by rw [hrn], by rw [hrn], by first | rfl | trivial, by rw [HC.out, if_neg (by omega)]⟩
end Go.Proofs.YtnifnbndkbmdcaaDoor
