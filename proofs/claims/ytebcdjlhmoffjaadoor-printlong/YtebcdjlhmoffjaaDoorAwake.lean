/-
  THE WALK OF the calls at the head of the statements of layer 5.
-/
import Derived.Test.YtebcdjlhmoffjaaDoorAwakeW
namespace Go.Proofs.YtebcdjlhmoffjaaDoor
open Go.RowKit
set_option linter.unusedVariables false
set_option linter.unusedSimpArgs false
set_option maxHeartbeats 4000000 in
set_option maxRecDepth 100000 in
theorem awake_any (w : World) (hG : GP (fun b => b < w.heap.size) w) : Calls Tryd.prog 6 #[] w fun r w' => r = .returned (.bool true) ∧ Below w.heap.size w w' := by
  have HG := hide hG
  have HC1 := hide (call1 w hG)
  clear hG
  obtain ⟨hB1, hX1, hE1, hS1, hT1⟩ := aw1_all w
  have HB1 := hide hB1
  have HX1 := hide hX1
  have HE1 := hide hE1
  have HS1 := hide hS1
  have HT1 := hide hT1
  clear hB1 hX1 hE1 hS1 hT1
  go_enter Tryd.func6, Tryd.ntmps6
  go_wp2_with fail
  refine HC1.out.mono ?_
  rintro r w1 ⟨rfl, hb1⟩
  have HB2 := hide (HB1.out.trans (hb1.mono HB1.out.size))
  have HX2 := hide (HX1.out.below hb1 HX1.out.lt)
  have HE2 := hide (HE1.out.below hb1 HE1.out.lt)
  have HT2 := hide (TrIn.keep (KP.of_below hb1 (P := fun b => w.heap.size ≤ b ∧ b < w.heap.size + 7) (fun b hb => by rw [HS1.out]; omega)) (fun b hb => hb) _ _ HT1.out)
  have HL2 := hide (show w.heap.size + 7 ≤ w1.heap.size from by have := hb1.size; rw [HS1.out] at this; omega)
  clear hb1 HC1 HB1 HX1 HE1 HT1 HS1
  go_wp2_with fail
  refine (call2 w1 (gp_below HG.out HB2.out)).mono ?_
  rintro r w2 ⟨rfl, hb1⟩
  have HB3 := hide (HB2.out.trans (hb1.mono HB2.out.size))
  have hX := HX2.out.below hb1 HX2.out.lt
  have HX3 := hide hX
  have HE3 := hide (HE2.out.below hb1 HE2.out.lt)
  have HT3 := hide (TrIn.keep (KP.of_below hb1 (P := fun b => w.heap.size ≤ b ∧ b < w.heap.size + 7) (fun b hb => by have := HL2.out; omega)) (fun b hb => hb) _ _ HT2.out)
  have HL3 := hide (show w.heap.size + 7 ≤ w2.heap.size from Nat.le_trans HL2.out hb1.size)
  have hA : Hold w.heap.size cX.toArray 25 (((((w2.alloc (.cells #[.string ⟨#[97]⟩] 9)).alloc (.cells #[.string ⟨#[97]⟩, .slice none 0 0] 46)).alloc (.cells #[.string ⟨#[84]⟩, .slice (some ⟨w2.heap.size + 1, 0, none⟩) 1 1] 46)).alloc
    (.cells #[.string ⟨#[65]⟩, .slice (some ⟨w2.heap.size + 1 + 1, 0, none⟩) 1 1, .string ⟨#[66]⟩, .slice none 0 0] 47)).alloc
    (.cells #[.string ⟨#[84]⟩, .slice (some ⟨w2.heap.size, 0, none⟩) 1 1, .slice (some ⟨w2.heap.size + 1 + 1 + 1, 0, none⟩) 2 2] 50)) := ((((hX.alloc _).alloc _).alloc _).alloc _).alloc _
  have c0 := hA.cell 0
  have c1 := hA.cell 1
  have c2 := hA.cell 2
  have c3 := hA.cell 3
  have c4 := hA.cell 4
  simp only [List.getElem?_toArray, List.getElem?_cons_succ, List.getElem?_cons_zero] at c0 c1 c2 c3 c4
  clear hb1 HB2 HX2 HE2 HT2 HL2 hX hA
  go_wp2_with fail
  clear c0 c1 c2 c3 c4
  obtain ⟨hA1, hA2, _, _⟩ := aw2_all w2
  have HA1 := hide hA1
  have HA2 := hide hA2
  clear hA1 hA2
  refine (call3 w2 (gp_below HG.out HB3.out)).mono ?_
  rintro r w3 ⟨rfl, hb1⟩
  have hbb := HA1.out.trans (hb1.mono HA1.out.size)
  have HB4 := hide (HB3.out.trans (hbb.mono HB3.out.size))
  have HE4 := hide (HE3.out.below hbb HE3.out.lt)
  have HT4 := hide (TrIn.keep (KP.of_below hbb (P := fun b => w.heap.size ≤ b ∧ b < w.heap.size + 7) (fun b hb => by have := HL3.out; omega)) (fun b hb => hb) _ _ HT3.out)
  have HL4 := hide (show w.heap.size + 7 ≤ w3.heap.size from Nat.le_trans HL3.out hbb.size)
  clear hb1 hbb HB3 HX3 HE3 HT3 HL3 HA1 HA2
  go_wp2_with fail
  refine (call4 w3 (gp_below HG.out HB4.out)).mono ?_
  rintro r w4 ⟨rfl, hb1⟩
  have hA1 : Below w3.heap.size w3 (w3.alloc (.cells #[.string ⟨#[]⟩, .int .i64 0, .string ⟨#[]⟩, .int .i64 0, .slice none 0 0, .slice none 0 0] 33)) := (Below.refl _ w3).alloc (Nat.le_refl _) _
  have hbb := hA1.trans (hb1.mono hA1.size)
  have HB5 := hide (HB4.out.trans (hbb.mono HB4.out.size))
  have HE5 := hide (HE4.out.below hbb HE4.out.lt)
  have HT5 := hide (TrIn.keep (KP.of_below hbb (P := fun b => w.heap.size ≤ b ∧ b < w.heap.size + 7) (fun b hb => by have := HL4.out; omega)) (fun b hb => hb) _ _ HT4.out)
  have HL5 := hide (show w.heap.size + 7 ≤ w4.heap.size from Nat.le_trans HL4.out hbb.size)
  clear hb1 hbb HB4 HE4 HT4 HL4 hA1
  go_wp2_with fail
  refine (call5 w4 (gp_below HG.out HB5.out)).mono ?_
  rintro r w5 ⟨rfl, hb1⟩
  have hA1 : Below w4.heap.size w4 (w4.alloc (.cells #[.string ⟨#[97]⟩, .slice none 0 0, .string ⟨#[98]⟩, .slice none 0 0] 46)) := (Below.refl _ w4).alloc (Nat.le_refl _) _
  have hbb := hA1.trans (hb1.mono hA1.size)
  have HB6 := hide (HB5.out.trans (hbb.mono HB5.out.size))
  have hE6 := (HE5.out.below hbb HE5.out.lt)
  have HT6 := hide (TrIn.keep (KP.of_below hbb (P := fun b => w.heap.size ≤ b ∧ b < w.heap.size + 7) (fun b hb => by have := HL5.out; omega)) (fun b hb => hb) _ _ HT5.out)
  have HL6 := hide (show w.heap.size + 7 ≤ w5.heap.size from Nat.le_trans HL5.out hbb.size)
  have c0 := hE6.cell 0
  have c1 := hE6.cell 1
  have c2 := hE6.cell 2
  have c3 := hE6.cell 3
  have c4 := hE6.cell 4
  simp only [List.getElem?_toArray, List.getElem?_cons_succ, List.getElem?_cons_zero] at c0 c1 c2 c3 c4
  clear hb1 hbb HB5 HE5 HT5 HL5 hA1 hE6
  have HCK := hide (rcheck_any tE (P := fun b => w.heap.size ≤ b ∧ b < w.heap.size + 7) (w := w5) (fun b hb => by have := HL6.out; omega) HT6.out)
  rw [av6] at HCK
  go_wp2_with fail
  refine HCK.out.mono ?_
  rintro r w6 ⟨rfl, hb1⟩
  have HB7 := hide (HB6.out.trans (hb1.mono HB6.out.size))
  clear hb1
  go_wp2_with fail
  go_ret
  exact ⟨by rfl, HB7.out⟩
end Go.Proofs.YtebcdjlhmoffjaaDoor
