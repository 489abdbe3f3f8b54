/-
  THE WALK OF (*blocks).begin.
-/
import Derived.Test.YtnifnbndkbmdcaaDoorLast
namespace Go.Proofs.YtnifnbndkbmdcaaDoor
open Go.RowKit
set_option linter.unusedVariables false
set_option maxRecDepth 100000 in
set_option maxHeartbeats 3200000 in
theorem begin_any (P : Nat → Prop) (B : Nat) (t : Tok) (c : Int) (o : List Tok) (st : List Blk) (f : Bool) (w : World) (hL : L P B o st f w) (hn : o.length ≤ 1000000) (hn2 : st.length ≤ 1000000) :
    Calls Tryd.prog 15 #[.pointer (some ⟨B, 0, none⟩), tv t, .int .i64 c] w fun e w' => e = .returned (.tuple #[]) ∧ L P B (o ++ [⟨4, [123], 0, t.ln, t.co⟩]) (⟨[], c⟩ :: st) true w' ∧ KP P w w' := by
  have hLA : ∀ b, P b → b < w.heap.size := fun b hb => by obtain ⟨_, _, _, _, h⟩ := hL; exact (h.apart b hb).1
  have A := hide (fun w hL => put_any P B [123] t o st f w hL hn)
  unfold tv at A ⊢
  obtain ⟨i0, hi, hz0, hz1, hz2⟩ := info_parts info78
  go_enter Tryd.func15, Tryd.ntmps15
  go_wp2_with fail
  refine (A.out _ (hL.below ((Below.refl _ w).alloc (Nat.le_refl _) _))).mono ?_
  rintro e w1 ⟨rfl, L1, k1⟩
  have K0 : KP P w w1 := (KP.alloc w _ fun b hb => (hLA b hb)).trans k1
  clear k1
  generalize hoe : o ++ [(⟨4, [123], 0, t.ln, t.co⟩ : Tok)] = o1 at *
  obtain ⟨pa, ca, po, co, hS⟩ := L1
  have hH1 := hS.hold
  have hO1 := hS.opn
  have b0 : w1.cell? ⟨B, 1, none⟩ = some (.slice po st.length co) := hH1.cell 1
  have f0 := hH1.frozen 1
  have hlt := hH1.lt
  have nB : (Value.slice po st.length co).ownBlock ≠ some B := Ne.symm (row_ne hH1 hO1 (by decide))
  have HS := hide hS
  clear hS hL
  have HX := fun ops rest o' a Q hgd s x ho hs hx => @wpList_append_lies Tryd.prog (w1.alloc (.cells #[.string ⟨#[]⟩, .int .i64 c] 78)) ops rest o' a Q hgd s x 39 ho 0 78 i0 _ 2 24 Tryd.underlying39 hi hz0 hz1 hz2 rfl (by omega) (.slice po st.length co) st.length (bcs st.reverse) hs (hO1.alloc _) ⟨w1.heap.size, 0, none⟩ 1 1 [.string ⟨#[]⟩, .int .i64 c] hx rfl (cell_two_new w1 (.string ⟨#[]⟩) (.int .i64 c) 78) (by simp [Value.oneCell']) (by omega) (by unfold maxLen; omega) (by omega) (by simp) (w1.heap.size + 1) (by simp)
  have HX := hide HX
  have HBF : Hid (∀ w2 : World, (w1.alloc (.cells #[.string ⟨#[]⟩, .int .i64 c] 78)).grownBy w2 (Value.slice po st.length co).ownBlock → Hold B #[.slice pa o1.length ca, .slice po st.length co, .bool f] 41 w2) := fun w2 hgrow => (hgrow.block B (Hold.lt (hH1.alloc _)) (Ne.symm nB)).trans (hH1.alloc _)
  go_wp2_with (at_builtin; have HY := HX.out; refine HY _ _ _ _ _ rfl _ _ rfl rfl rfl ?_; clear HY; intro gg cap w2 hown1 hgrow hat hlt2; have HB2 := HBF.out _ hgrow; have d0 : w2.cell? ⟨B, 1, none⟩ = some (.slice po st.length co) := HB2.cell 1; have d1 := HB2.frozen 1; have d2 : w2.cell? ⟨B, 2, none⟩ = some (.bool f) := HB2.cell 2; have d3 := HB2.frozen 2; clear HB2)
  go_end0
  have k := HS.out.push ((Below.refl _ w1).alloc (Nat.le_refl _) _) ⟨[], c⟩ hown1 hgrow hat (by omega)
  obtain ⟨pa2, ca2, po2, co2, h2⟩ := k.1
  exact ⟨rfl, by rw [hoe]; exact (h2.fresh true).1, (K0.trans k.2).trans (h2.fresh true).2⟩
end Go.Proofs.YtnifnbndkbmdcaaDoor
