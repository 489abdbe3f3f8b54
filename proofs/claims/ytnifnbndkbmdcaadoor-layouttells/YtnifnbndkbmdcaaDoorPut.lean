/-
  THE WALK OF (*blocks).put.
-/
import Derived.Test.YtnifnbndkbmdcaaDoorIs
import Derived.Deep.RegionHeld3
import Derived.Deep.RegionLaw
import Derived.Deep.AppendLies
import Derived.OwnWalk
namespace Go.Proofs.YtnifnbndkbmdcaaDoor
open Go.RowKit
set_option linter.unusedVariables false
/-- What a store and an append into the blocks' own rows make of what they hold. -/
theorem LS.put {P : Nat → Prop} {B : Nat} {o : List Tok} {st : List Blk} {f : Bool} {pa : Option Addr} {ca : Nat} {po : Option Addr} {co : Nat} {w W W1 : World} (h : LS P B o st f pa ca po co w) (hB : Below w.heap.size w W) (t : Tok) {g cap H : Nat}
    (hown : W1.ownsRow 0 32 5 (.slice (some ⟨g, 0, none⟩) (o.length + 1) cap) (o.length + 1) (tcs o ++ tc t)) (hg : W.grownBy W1 (Value.slice pa o.length ca).ownBlock) (hat : (Value.slice pa o.length ca).ownBlock = some g ∨ g = H) (hH : w.heap.size ≤ H) :
    L P B (o ++ [t]) st f (W1.setCell ⟨B, 0, none⟩ (.slice (some ⟨g, 0, none⟩) (o.length + 1) cap)) ∧ KP P w (W1.setCell ⟨B, 0, none⟩ (.slice (some ⟨g, 0, none⟩) (o.length + 1) cap)) := by
  obtain ⟨hH1, hT, hO, hA⟩ := h
  have nB : some B ≠ (Value.slice pa o.length ca).ownBlock := row_ne hH1 hT (by decide)
  have hlt := hH1.lt
  have HB : Hold B #[.slice pa o.length ca, .slice po st.length co, .bool f] 41 W1 := (hg.block B (Nat.lt_of_lt_of_le hlt hB.size) nB).trans (hH1.below hB hlt)
  have hk : ∀ b, b < w.heap.size → some b ≠ (Value.slice pa o.length ca).ownBlock → W1.heap[b]? = w.heap[b]? := fun b hb hne => (hg.block b (Nat.lt_of_lt_of_le hb hB.size) hne).trans (hB.block b hb)
  have hO1 : W1.ownsRow 0 78 2 (.slice po st.length co) st.length (bcs st.reverse) := row_keep hO fun x hx hl => hk x hl (rows_ne hO hT (by decide) x hx)
  refine ⟨⟨some ⟨g, 0, none⟩, cap, po, co, ?_, ?_, ?_, ?_⟩, ?_⟩
  · have := HB.set 0 (.slice (some ⟨g, 0, none⟩) (o.length + 1) cap)
    rw [List.length_append, List.length_singleton]; exact this
  · rw [List.length_append, List.length_singleton, tcs_snoc]
    exact row_other hown HB (by decide) 0 _
  · exact row_other hO1 HB (by decide) 0 _
  · intro b hb
    obtain ⟨a1, a2, a3, a4⟩ := hA b hb
    refine ⟨?_, a2, ?_, a4⟩
    · have := hg.size; have := hB.size; simp; omega
    · intro e
      have e2 : b = g := by simpa [Value.ownBlock] using e
      subst e2
      rcases hat with h1 | h1
      · exact a3 h1.symm
      · omega
  · refine KP.trans (KP.trans (KP.of_below hB fun b hb => (hA b hb).1) (KP.of_grown hg fun b hb => ⟨Nat.lt_of_lt_of_le (hA b hb).1 hB.size, (hA b hb).2.2.1⟩)) (KP.setCell _ _ _ _ fun hb => (hA B hb).2.1 rfl)
theorem frozen_ad (w : World) (o : Obj) (a : Addr) (h : a.block < w.heap.size) : ((w.alloc o).drew).frozen? a = w.frozen? a := by
  have e : ((w.alloc o).drew).heap[a.block]? = w.heap[a.block]? := Below.heap_alloc w o _ h
  unfold World.frozen?; rw [e]
set_option maxRecDepth 100000 in
set_option maxHeartbeats 3200000 in
theorem put_any (P : Nat → Prop) (B : Nat) (c : List UInt8) (t : Tok) (o : List Tok) (st : List Blk) (f : Bool) (w : World) (hL : L P B o st f w) (hn : o.length ≤ 1000000) :
    Calls Tryd.prog 37 #[.pointer (some ⟨B, 0, none⟩), .string (S c), tv t] w fun e w' => e = .returned (.tuple #[]) ∧ L P B (o ++ [⟨4, c, 0, t.ln, t.co⟩]) st f w' ∧ KP P w w' := by
  obtain ⟨pa, ca, po, co, hS⟩ := hL
  have T0 := TB.new w t
  obtain ⟨c0, c1, c2, c3, c4⟩ := T0.cells
  have B0 := (Below.refl _ w).alloc (Nat.le_refl _) (.cells #[.int .i64 t.kd, .string (S t.tx), .int .i64 t.nu, .int .i64 t.ln, .int .i64 t.co] 32)
  have hH1 := hS.hold.alloc (.cells #[.int .i64 t.kd, .string (S t.tx), .int .i64 t.nu, .int .i64 t.ln, .int .i64 t.co] 32)
  have hT1 := hS.told.alloc (.cells #[.int .i64 t.kd, .string (S t.tx), .int .i64 t.nu, .int .i64 t.ln, .int .i64 t.co] 32)
  have hq : w.heap.size < (w.alloc (.cells #[.int .i64 t.kd, .string (S t.tx), .int .i64 t.nu, .int .i64 t.ln, .int .i64 t.co] 32)).heap.size := by simp
  have b0 : (w.alloc (.cells #[.int .i64 t.kd, .string (S t.tx), .int .i64 t.nu, .int .i64 t.ln, .int .i64 t.co] 32)).cell? ⟨B, 0, none⟩ = some (.slice pa o.length ca) := hH1.cell 0
  have f0 := hH1.frozen 0
  have hlt := hH1.lt
  have nB : (Value.slice pa o.length ca).ownBlock ≠ some B := Ne.symm (row_ne hH1 hT1 (by decide))
  have nq : (Value.slice pa o.length ca).ownBlock ≠ some w.heap.size := Ne.symm (row_lt hS.told)
  obtain ⟨i0, hi, hz0, hz1, hz2⟩ := info_parts info32
  have HS := hide hS
  have HB0 := hide B0
  clear hS B0 T0 c0 c1 c2
  unfold tv
  go_enter Tryd.func37, Tryd.ntmps37
  go_wp2_with fail
  generalize (w.alloc (.cells #[.int .i64 t.kd, .string (S t.tx), .int .i64 t.nu, .int .i64 t.ln, .int .i64 t.co] 32)) = w1 at *
  generalize hqq : w.heap.size = q at *
  have hfz : ∀ x : Obj, ((w1.alloc x).drew).frozen? ⟨B, 0, none⟩ = false := fun x => (frozen_ad w1 x ⟨B, 0, none⟩ hlt).trans f0
  go_region_law
    ((refine step_append_lies _ (by rfl) _ _ _ (by rfl) 0 32 i0 _ 5 48 Tryd.underlying22 hi hz0 hz1 hz2 rfl (by omega) (.slice pa o.length ca) o.length (tcs o) (by rfl) ((hT1.alloc _).drew)
        ⟨w1.heap.size, 0, none⟩ 1 1 [.int .i64 4, .string (S c), .int .i64 0, .int .i64 t.ln, .int .i64 t.co] (by rfl) (by rfl) (World.news_of_block (cs := #[.int .i64 4, .string (S c), .int .i64 0, .int .i64 t.ln, .int .i64 t.co]) (t := 32) (fr := (0, 0)) (heap_alloc_new w1 _)) (by simp [Value.oneCell'])
        (by omega) (by unfold maxLen; omega) (by omega) (by simp) (w1.heap.size + 1) (by simp) ?_; intro gg cap w2 hown1 hgrow hat hlt2; have HB2 : Hold B #[.slice pa o.length ca, .slice po st.length co, .bool f] 41 w2 := (hgrow.block B (Hold.lt (hH1.alloc _)) (Ne.symm nB)).trans (hH1.alloc _); have d0 : w2.cell? ⟨B, 0, none⟩ = some (.slice pa o.length ca) := HB2.cell 0; have d1 := HB2.frozen 0; clear HB2))
  all_goals go_wp2_with fail
  all_goals go_end0
  all_goals
    have hB2 : Below w.heap.size w ((w1.alloc (.cells #[.int .i64 4, .string (S c), .int .i64 0, .int .i64 t.ln, .int .i64 t.co] 32)).drew) := by
      rw [hqq]; exact (HB0.out.alloc (Nat.le_of_lt hq) _).trans ⟨rfl, rfl, rfl, Nat.le_refl _, fun _ _ => rfl⟩
    exact ⟨rfl, HS.out.put hB2 ⟨4, c, 0, t.ln, t.co⟩ hown1 hgrow hat (by omega)⟩
end Go.Proofs.YtnifnbndkbmdcaaDoor
