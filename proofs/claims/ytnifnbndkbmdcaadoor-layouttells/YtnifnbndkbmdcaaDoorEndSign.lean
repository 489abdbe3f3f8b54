/-
  THE WALK OF lex.end where the token is a sign.
-/
import Derived.Test.YtnifnbndkbmdcaaDoorEnd
namespace Go.Proofs.YtnifnbndkbmdcaaDoor
open Go.RowKit
set_option linter.unusedVariables false

theorem sg_three (x y z : UInt8) (r : List UInt8) : sg (x :: y :: z :: r) = false := by simp [sg]

def sl2 (x : UInt8) : List UInt8 → Nat
  | [] => 1
  | d :: _ => if sg [x, d] then 2 else 1
theorem tl_sign (x : UInt8) (r : List UInt8) (h : dg x = false) (h2 : pt x = false) : tl (x :: r) = sl2 x r := by
  cases r <;> simp [tl, h, h2, sl2]
theorem sl2_no {x y : UInt8} {r : List UInt8} (h : sg [x, y] = false) : sl2 x (y :: r) = 1 := by simp [sl2, h]
theorem sl2_yes {x y : UInt8} {r : List UInt8} (h : sg [x, y] = true) : sl2 x (y :: r) = 2 := by simp [sl2, h]
set_option maxHeartbeats 1000000 in
theorem end_sign (b o c n : Nat) (x : UInt8) (r : List UInt8) (w : World) (h : dg x = false) (h2 : pt x = false) (hrn : r.length + 1 = n) (hn : n ≤ 2147483647) (hb : b < w.heap.size)
    (hm : ∀ i y, (x :: r)[i]? = some y → w.cell? ⟨b, o + i, none⟩ = some (.int .u8 y.toNat)) :
    Calls Tryd.prog 33 #[.slice (some ⟨b, o, none⟩) n c] w fun e w' => e = .returned (.int .i64 (tl (x :: r) : Nat)) ∧ Below w.heap.size w w' := by
  have hx := hm 0 x rfl
  rw [Nat.add_zero] at hx
  have M0 : Mem w (some ⟨b, o, none⟩) (x :: r) := .inr ⟨b, o, rfl, hb, hm⟩
  have HTL := hide (tl_sign x r h h2)
  have HGO := hide (goesOn_sign x h h2 w)
  have B0 : Below w.heap.size w ((w.alloc (.cells #[cl x] 5)).alloc (.cells #[.slice (some ⟨w.heap.size, 0, none⟩) 1 1] 34)) := ((Below.refl _ w).alloc (Nat.le_refl _) _).alloc (by simp) _
  have X0 : Boxed ((w.alloc (.cells #[cl x] 5)).alloc (.cells #[.slice (some ⟨w.heap.size, 0, none⟩) 1 1] 34)) (w.heap.size + 1) 34 (.slice (some ⟨w.heap.size, 0, none⟩) 1 1) := by
    have := Boxed.new (w.alloc (.cells #[cl x] 5)) 34 (.slice (some ⟨w.heap.size, 0, none⟩) 1 1)
    rwa [World.size_alloc] at this
  have R0 : ((w.alloc (.cells #[cl x] 5)).alloc (.cells #[.slice (some ⟨w.heap.size, 0, none⟩) 1 1] 34)).ownsRow w.heap.size 5 1 (.slice (some ⟨w.heap.size, 0, none⟩) 1 1) 1 ([x].map cl) := by
    refine ⟨rfl, .inr ⟨w.heap.size, 1, #[cl x], rfl, Nat.le_refl _, ?_, Nat.le_refl _, by unfold maxLen; omega, rfl, rfl⟩⟩
    exact (Below.heap_alloc _ _ _ (by simp)).trans (World.alloc_heap_new w _)
  have h1n : 1 ≤ n := by omega
  have HRN := hide hrn
  clear hm h h2 hrn
  go_enter Tryd.func33, Tryd.ntmps33
  go_wp2_with fail
  refine HGO.out.mono ?_
  rintro e w' ⟨rfl, rfl⟩
  generalize (w.alloc (.cells #[cl x] 5)).alloc (.cells #[.slice (some ⟨w.heap.size, 0, none⟩) 1 1] 34) = W0 at *
  clear HGO
  go_wp2_with fail
  go_loopw [4] (fun i wr => ∃ (j : Nat) (l1 : List UInt8) (g cap : Nat), i = .int .i64 j ∧ ((j = 1 ∧ l1 = [x]) ∨ (j = 2 ∧ ∃ y r', r = y :: r' ∧ l1 = [x, y] ∧ sg [x, y] = true)) ∧ Boxed wr (w.heap.size + 1) 34 (.slice (some ⟨g, 0, none⟩) j cap) ∧ wr.ownsRow w.heap.size 5 1 (.slice (some ⟨g, 0, none⟩) j cap) j (l1.map cl) ∧ Below w.heap.size w wr) (fun i _ => 2 - (intOf i).toNat)
  case atStart => exact ⟨1, [x], _, _, rfl, .inl ⟨rfl, rfl⟩, X0, R0, B0⟩
  case round =>
    obtain ⟨j, l1, g, cap, rfl, hj, hbx, hrw, hbl⟩ := hrel
    clear X0 R0 B0 hx
    rename_i wr _
    have hMr := M0.below (Nat.le_refl _) hbl
    have HN : w.heap.size ≤ wr.heap.size := hbl.size
    rcases hj with ⟨rfl, rfl⟩ | ⟨rfl, y, r', rfl, rfl, hsy⟩
    · cases r with
      | nil =>
        have h1 : ¬ 1 < n := by have := HRN.out; simp at this; omega
        go_wp2
        go_ret
        exact ⟨by rw [HTL.out]; rfl, hbl⟩
      | cons y r' =>
        have h1 : 1 < n := by have := HRN.out; simp at this; omega
        rcases hMr with he | ⟨b', o', he, hb', hm'⟩
        · cases he
        · cases he
          have hcell := hm' 1 y rfl
          have HGR := hide (grow_any (w.heap.size + 1) w.heap.size g cap [x] y wr (by simp) (by simp) hbx hrw HN (by omega))
          clear hm'
          cases hsy : sg [x, y]
          · have HL := hide (HTL.out.trans (sl2_no hsy))
            have HS := hide hsy
            clear hsy
            go_wp2_with fail
            refine HGR.out.mono ?_
            rintro e w' ⟨g', cap', rfl, hbx', hrw', hbl'⟩
            rw [show [x] ++ [y] = [x, y] from rfl] at *
            rw [HS.out]
            go_wp2_with fail
            go_ret
            exact ⟨by rw [HL.out]; rfl, hbl.trans hbl'⟩
          · have HS := hide hsy
            clear hsy
            go_wp2_with fail
            refine HGR.out.mono ?_
            rintro e w' ⟨g', cap', rfl, hbx', hrw', hbl'⟩
            rw [show [x] ++ [y] = [x, y] from rfl] at *
            rw [HS.out]
            go_wp2_with fail
            exact ⟨⟨2, [x, y], g', cap', rfl, .inr ⟨rfl, y, r', rfl, rfl, HS.out⟩, hbx', hrw', hbl.trans hbl'⟩, by simp [intOf]⟩
    · have HL := hide (HTL.out.trans (sl2_yes hsy))
      have HS := hide hsy
      clear hsy
      cases r' with
      | nil =>
        have h1 : ¬ 2 < n := by have := HRN.out; simp at this; omega
        go_wp2
        go_ret
        exact ⟨by rw [HL.out]; rfl, hbl⟩
      | cons z r' =>
        have h1 : 2 < n := by have := HRN.out; simp at this; omega
        rcases hMr with he | ⟨b', o', he, hb', hm'⟩
        · cases he
        · cases he
          have hcell := hm' 2 z rfl
          have HGR := hide (grow_any (w.heap.size + 1) w.heap.size g cap [x, y] z wr (by simp) (by simp) hbx hrw HN (by omega))
          clear hm'
          go_wp2_with fail
          refine HGR.out.mono ?_
          rintro e w' ⟨g', cap', rfl, hbx', hrw', hbl'⟩
          rw [show [x, y] ++ [z] = [x, y, z] from rfl, sg_three]
          go_wp2_with fail
          go_ret
          exact ⟨by rw [HL.out]; rfl, hbl.trans hbl'⟩
/-- lex.end: how many bytes the first token has. -/
theorem end_any (b o c n : Nat) (l : List UInt8) (w : World) (h0 : l ≠ []) (hl : l.length = n) (hn : n ≤ 2147483647) (hb : b < w.heap.size)
    (hm : ∀ i y, l[i]? = some y → w.cell? ⟨b, o + i, none⟩ = some (.int .u8 y.toNat)) :
    Calls Tryd.prog 33 #[.slice (some ⟨b, o, none⟩) n c] w fun e w' => e = .returned (.int .i64 (tl l : Nat)) ∧ Below w.heap.size w w' := by
  cases l with
  | nil => exact absurd rfl h0
  | cons x r =>
    rw [List.length_cons] at hl
    cases h1 : dg x with
    | true =>
      have h := end_run x 50 dg (.inl rfl) digit_any (goesOn_dig x h1) b o c r w (by omega) hm
      rw [hl] at h
      refine h.mono ?_
      rintro e w' ⟨rfl, rfl⟩
      exact ⟨by simp only [tl, h1]; rfl, Below.refl _ _⟩
    | false =>
      cases h2 : pt x with
      | true =>
        have h := end_run x 66 pt (.inr rfl) inWord_any (goesOn_word x h1 h2) b o c r w (by omega) hm
        rw [hl] at h
        refine h.mono ?_
        rintro e w' ⟨rfl, rfl⟩
        exact ⟨by simp only [tl, h1, h2]; rfl, Below.refl _ _⟩
      | false => exact end_sign b o c n x r w h1 h2 hl hn hb hm
end Go.Proofs.YtnifnbndkbmdcaaDoor
