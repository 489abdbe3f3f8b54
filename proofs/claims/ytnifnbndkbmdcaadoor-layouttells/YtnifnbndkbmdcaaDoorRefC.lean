/-
  THE WALK OF dawdlerref03.open.
-/
import Derived.Test.YtnifnbndkbmdcaaDoorRefB
namespace Go.Proofs.YtnifnbndkbmdcaaDoor
open Go.RowKit
set_option linter.unusedVariables false
set_option maxRecDepth 20000 in
set_option maxHeartbeats 2000000 in
theorem open_ref (o : List Tok) (b : Blk) (n : Int) (hn : n = code b) (st : List Blk) (po : Option Addr) (co : Nat) (pi : Option Addr) (ci : Nat) (w : World) (hR : RS w po co pi ci o st) (hl : st.length ≤ 1000000) :
    Calls Tryd.prog 23 #[.agg #[.slice po o.length co, .slice pi st.length ci], .int .i64 n] w fun e w' => ∃ pi' ci', e = .returned (.agg #[.slice po o.length co, .slice pi' (st.length + 1) ci']) ∧ RS w' po co pi' ci' o (b :: st) ∧ Below w.heap.size w w' ∧ Fr w pi' := by
  have hil := ints_len st
  have HN := hide hn
  have HRR := hide hR
  clear hn
  obtain ⟨i0, hi, hz0, hz1, hz2⟩ := info_parts info3
  obtain ⟨A0, hA0⟩ : ∃ x : Obj, x = .cells #[.slice po o.length co, .slice pi st.length ci] 50 := ⟨_, rfl⟩
  have h0a := Hold.new w #[.slice po o.length co, .slice pi st.length ci] 50
  have h1a := Hold.new (w.alloc (.cells #[.slice po o.length co, .slice pi st.length ci] 50)) #[.slice none 0 0, .slice none 0 0] 50
  have h2a := Hold.new ((w.alloc (.cells #[.slice po o.length co, .slice pi st.length ci] 50)).alloc (.cells #[.slice none 0 0, .slice none 0 0] 50)) #[] 3
  have H0 := (h0a.alloc (.cells #[.slice none 0 0, .slice none 0 0] 50)).alloc (.cells #[] 3)
  have H1 := h1a.alloc (.cells #[] 3)
  have B1 : Below w.heap.size w (((w.alloc (.cells #[.slice po o.length co, .slice pi st.length ci] 50)).alloc (.cells #[.slice none 0 0, .slice none 0 0] 50)).alloc (.cells #[] 3)) := (((Below.refl _ w).alloc (Nat.le_refl _) _).alloc (by simp) _).alloc (by simp; omega) _
  simp only [World.size_alloc] at H1 h2a
  have hZ : (((w.alloc (.cells #[.slice po o.length co, .slice pi st.length ci] 50)).alloc (.cells #[.slice none 0 0, .slice none 0 0] 50)).alloc (.cells #[] 3)).heap.size = w.heap.size + 1 + 1 + 1 := by simp
  have R1 := hR.below B1
  have c01 : (((w.alloc (.cells #[.slice po o.length co, .slice pi st.length ci] 50)).alloc (.cells #[.slice none 0 0, .slice none 0 0] 50)).alloc (.cells #[] 3)).cell? ⟨w.heap.size, 1, none⟩ = some (.slice pi st.length ci) := H0.cell 1
  clear hR h0a h1a hA0 A0
  have row0 : (((w.alloc (.cells #[.slice po o.length co, .slice pi st.length ci] 50)).alloc (.cells #[.slice none 0 0, .slice none 0 0] 50)).alloc (.cells #[] 3)).ownsRow w.heap.size 3 1 (.slice (some ⟨w.heap.size + 1 + 1, 0, none⟩) 0 0) 0 [] := ⟨rfl, .inr ⟨w.heap.size + 1 + 1, 0, #[], rfl, by omega, h2a, Nat.le_refl _, Nat.zero_le _, rfl, rfl⟩⟩
  have HXA := hide (fun ops rest o' a Q hgd s x ho hs hx => @wpList_spread (((w.alloc (.cells #[.slice po o.length co, .slice pi st.length ci] 50)).alloc (.cells #[.slice none 0 0, .slice none 0 0] 50)).alloc (.cells #[] 3)) ops rest o' a Q hgd s x 48 3 i0 _ 1 8 Tryd.underlying48 hi hz0 hz1 hz2 rfl (by omega) (none48 _) ho w.heap.size (some ⟨w.heap.size + 1 + 1, 0, none⟩) 0 0 [] hs row0 pi st.length ci ((ints st).map (Value.int .i64)) hx (by simp [hil]) (imem_src R1.opn hil R1.ni) (by intro u hu; obtain ⟨y, _, rfl⟩ := List.mem_map.1 hu; rfl) (by omega) (by omega) (by rw [hZ]; omega))
  have HZ := hide hZ
  have HROW := hide row0
  have HH0 := hide H0
  have HH1 := hide H1
  have HB1 := hide B1
  have HR1 := hide R1
  clear H0 H1 B1 R1 row0 hZ h2a
  have HFA : Hid (∀ W2 : World, (((w.alloc (.cells #[.slice po o.length co, .slice pi st.length ci] 50)).alloc (.cells #[.slice none 0 0, .slice none 0 0] 50)).alloc (.cells #[] 3)).grownBy W2 (Value.slice (some ⟨w.heap.size + 1 + 1, 0, none⟩) 0 0).ownBlock → Hold w.heap.size #[.slice po o.length co, .slice pi st.length ci] 50 W2 ∧ Hold (w.heap.size + 1) #[.slice none 0 0, .slice none 0 0] 50 W2 ∧ Below w.heap.size w W2) := by
    intro W2 hg
    refine ⟨(hg.block _ HH0.out.lt (by simp [Value.ownBlock]; omega)).trans HH0.out, (hg.block _ HH1.out.lt (by simp [Value.ownBlock])).trans HH1.out, HB1.out.trans (below_row HROW.out (by rw [HZ.out]; omega) hg)⟩
  have HXB := hide (fun (W2 : World) (pa : Option Addr) (cp : Nat) (hown : W2.ownsRow w.heap.size 3 1 (.slice pa st.length cp) st.length ((ints st).map (Value.int .i64))) (hB : Below w.heap.size w W2) ops rest o' a Q hgd s x ho hs hx => @wpList_spread (W2.alloc (.cells #[.int .i64 n] 3)) ops rest o' a Q hgd s x 48 3 i0 _ 1 8 Tryd.underlying48 hi hz0 hz1 hz2 rfl (by omega) (none48 _) ho w.heap.size pa st.length cp ((ints st).map (Value.int .i64)) hs (hown.alloc _) (some ⟨W2.heap.size, 0, none⟩) 1 1 [.int .i64 n] hx rfl (.inr ⟨_, rfl, World.news_of_block (cs := #[.int .i64 n]) (t := 3) (fr := (0, 0)) (heap_alloc_new W2 _)⟩) (by simp [Value.oneCell']) (by omega) (by omega) (by have := hB.size; simp; omega))
  have HFB : Hid (∀ (W2 W3 : World) (pa pa' : Option Addr) (cp cp' : Nat), W2.ownsRow w.heap.size 3 1 (.slice pa st.length cp) st.length ((ints st).map (Value.int .i64)) → Hold w.heap.size #[.slice po o.length co, .slice pi st.length ci] 50 W2 → Hold (w.heap.size + 1) #[.slice none 0 0, .slice none 0 0] 50 W2 → Below w.heap.size w W2 → (W2.alloc (.cells #[.int .i64 n] 3)).grownBy W3 (Value.slice pa st.length cp).ownBlock → Hold w.heap.size #[.slice po o.length co, .slice pi st.length ci] 50 W3 ∧ Hold (w.heap.size + 1) #[.slice none 0 0, .slice none 0 0] 50 W3 ∧ Below w.heap.size w W3) := by
    intro W2 W3 pa pa' cp cp' hrow hh0 hh1 hB hg
    have hrow' := hrow.alloc (.cells #[.int .i64 n] 3)
    refine ⟨(hg.block _ (hh0.alloc _).lt (row_ne (hh0.alloc _) hrow' (by decide))).trans (hh0.alloc _), (hg.block _ (hh1.alloc _).lt (row_ne (hh1.alloc _) hrow' (by decide))).trans (hh1.alloc _), (hB.alloc hB.size _).trans (below_row hrow' (by have := hB.size; simp; omega) hg)⟩
  go_enter Tryd.func23, Tryd.ntmps23
  go_wp2_with (first
    | (at_builtin; have HY := HXA.out; refine HY _ _ _ _ _ rfl _ _ rfl rfl rfl ?_; clear HY HXA; intro pa cp W2 hown hgrow; rw [Nat.zero_add, List.nil_append] at hown; obtain ⟨h02, h12, hB2⟩ := HFA.out W2 hgrow; clear hgrow HFA)
    | (at_builtin; have HY := HXB.out W2 pa cp hown hB2; refine HY _ _ _ _ _ rfl _ _ rfl rfl rfl ?_; clear HY HXB; intro pa3 cp3 W3 hown3 hgrow3; obtain ⟨h03, h13, hB3⟩ := HFB.out W2 W3 pa pa3 cp cp3 hown h02 h12 hB2 hgrow3; clear hgrow3 HFB; have d00 : W3.cell? ⟨w.heap.size, 0, none⟩ = some (.slice po o.length co) := h03.cell 0; have d01 : W3.cell? ⟨w.heap.size, 1, none⟩ = some (.slice pi st.length ci) := h03.cell 1; have d10 : W3.cell? ⟨w.heap.size + 1, 0, none⟩ = some (.slice none 0 0) := h13.cell 0; have d11 : W3.cell? ⟨w.heap.size + 1, 1, none⟩ = some (.slice none 0 0) := h13.cell 1; have f00 := h03.frozen 0; have f01 := h03.frozen 1; have f10 := h13.frozen 0; have f11 := h13.frozen 1))
  have r1 := row_other hown3 h03 (by decide) 1 (.slice pa3 (st.length + 1) cp3)
  have k1 : Hold (w.heap.size + 1) #[.slice none 0 0, .slice none 0 0] 50 (W3.setCell ⟨w.heap.size, 1, none⟩ (.slice pa3 (st.length + 1) cp3)) := h13.other (by omega) 1 _
  have r2 := row_other r1 k1 (by decide) 0 (.slice po o.length co)
  have r3 := row_other r2 (k1.set 0 (.slice po o.length co)) (by decide) 1 (.slice pa3 (st.length + 1) cp3)
  have hBf := ((hB3.setCell (p := ⟨w.heap.size, 1, none⟩) (Nat.le_refl _) (.slice pa3 (st.length + 1) cp3)).setCell (p := ⟨w.heap.size + 1, 0, none⟩) (by simp) (.slice po o.length co)).setCell (p := ⟨w.heap.size + 1, 1, none⟩) (by simp) (.slice pa3 (st.length + 1) cp3)
  have e1 : (ints st).map (Value.int .i64) ++ [.int .i64 n] = (ints (b :: st)).map (Value.int .i64) := by rw [ints_cons, HN.out]; simp
  rw [e1] at r3
  have hcp : st.length + 1 ≤ cp3 ∧ Fr w pa3 := by
    rcases hown3.2 with ⟨hv, h0⟩ | ⟨g', cap, cur, hv, hb, _, h1, _⟩
    · cases hv
    · cases hv; exact ⟨h1, g', rfl, hb⟩
  exact bodyPost_ret (v := .agg #[.slice po o.length co, .slice pa3 (st.length + 1) cp3]) (by simp only [results, Tryd.results23]; go_simp) rfl ⟨pa3, cp3, rfl, ⟨HRR.out.out.below (Nat.le_refl _) hBf, row_imem r3, by simp; exact hcp.1, HRR.out.no, fun h => absurd h hcp.2.ne⟩, hBf, hcp.2⟩
end Go.Proofs.YtnifnbndkbmdcaaDoor
