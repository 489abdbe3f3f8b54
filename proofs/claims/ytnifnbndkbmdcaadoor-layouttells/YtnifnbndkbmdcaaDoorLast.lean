/-
  WHAT A POP, A PUSH, A STORE MAKE OF layout s BLOCKS; THE WALKS OF (*blocks).last AND pop.
-/
import Derived.Test.YtnifnbndkbmdcaaDoorPut
namespace Go.Proofs.YtnifnbndkbmdcaaDoor
open Go.RowKit
set_option linter.unusedVariables false
theorem L.below {P : Nat → Prop} {B : Nat} {o : List Tok} {st : List Blk} {f : Bool} {w w' : World} (h : L P B o st f w) (hb : Below w.heap.size w w') : L P B o st f w' := by
  obtain ⟨pa, ca, po, co, hH, hT, hO, hA⟩ := h
  refine ⟨pa, ca, po, co, hH.below hb hH.lt, row_keep hT fun g _ hg => hb.block g hg, row_keep hO fun g _ hg => hb.block g hg, fun b hP => ?_⟩
  obtain ⟨h1, h2, h3, h4⟩ := hA b hP
  exact ⟨Nat.lt_of_lt_of_le h1 hb.size, h2, h3, h4⟩
theorem L.weak {P Q : Nat → Prop} {B : Nat} {o : List Tok} {st : List Blk} {f : Bool} {w : World} (h : L P B o st f w) (hq : ∀ b, Q b → P b) : L Q B o st f w := by
  obtain ⟨pa, ca, po, co, hH, hT, hO, hA⟩ := h
  exact ⟨pa, ca, po, co, hH, hT, hO, fun b hb => hA b (hq b hb)⟩
theorem L.drew {P : Nat → Prop} {B : Nat} {o : List Tok} {st : List Blk} {f : Bool} {w : World} (h : L P B o st f w) : L P B o st f w.drew := by
  obtain ⟨pa, ca, po, co, hH, hT, hO, hA⟩ := h
  exact ⟨pa, ca, po, co, hH, hT, hO, hA⟩
theorem KP.drew {P : Nat → Prop} {w w' : World} (h : KP P w w') : KP P w w'.drew := ⟨h.os, h.tape, h.output, h.size, h.block⟩
theorem LS.pop {P : Nat → Prop} {B : Nat} {o : List Tok} {b : Blk} {st : List Blk} {f : Bool} {pa : Option Addr} {ca : Nat} {po : Option Addr} {co : Nat} {w : World} (h : LS P B o (b :: st) f pa ca po co w) :
    L P B o st f (w.setCell ⟨B, 1, none⟩ (.slice po st.length co)) ∧ KP P w (w.setCell ⟨B, 1, none⟩ (.slice po st.length co)) := by
  obtain ⟨hH, hT, hO, hA⟩ := h
  refine ⟨⟨pa, ca, po, co, hH.set 1 _, row_other hT hH (by decide) 1 _, ?_, fun x hx => ?_⟩, KP.setCell _ _ _ _ fun hb => (hA B hb).2.1 rfl⟩
  · refine row_other ?_ hH (by decide) 1 _
    have := row_cut hO (j := st.length) (by simp)
    have e : (bcs (b :: st).reverse).take (st.length * 2) = bcs st.reverse := by
      rw [List.reverse_cons, bcs_snoc, List.take_append_of_le_length (by rw [bcs_len]; simp), List.take_of_length_le (by rw [bcs_len]; simp)]
    rw [e] at this; exact this
  · obtain ⟨h1, h2, h3, h4⟩ := hA x hx
    refine ⟨by simpa using h1, h2, h3, ?_⟩
    cases po with
    | none => simp [Value.ownBlock]
    | some a => simpa [Value.ownBlock] using h4
theorem LS.fresh {P : Nat → Prop} {B : Nat} {o : List Tok} {st : List Blk} {f : Bool} {pa : Option Addr} {ca : Nat} {po : Option Addr} {co : Nat} {w : World} (h : LS P B o st f pa ca po co w) (f' : Bool) :
    L P B o st f' (w.setCell ⟨B, 2, none⟩ (.bool f')) ∧ KP P w (w.setCell ⟨B, 2, none⟩ (.bool f')) := by
  obtain ⟨hH, hT, hO, hA⟩ := h
  refine ⟨⟨pa, ca, po, co, hH.set 2 _, row_other hT hH (by decide) 2 _, row_other hO hH (by decide) 2 _, fun x hx => ?_⟩, KP.setCell _ _ _ _ fun hb => (hA B hb).2.1 rfl⟩
  obtain ⟨h1, h2, h3, h4⟩ := hA x hx
  exact ⟨by simpa using h1, h2, h3, h4⟩
theorem LS.push {P : Nat → Prop} {B : Nat} {o : List Tok} {st : List Blk} {f : Bool} {pa : Option Addr} {ca : Nat} {po : Option Addr} {co : Nat} {w W W1 : World} (h : LS P B o st f pa ca po co w) (hB : Below w.heap.size w W) (b : Blk) {g cap H : Nat}
    (hown : W1.ownsRow 0 78 2 (.slice (some ⟨g, 0, none⟩) (st.length + 1) cap) (st.length + 1) (bcs st.reverse ++ bc b)) (hg : W.grownBy W1 (Value.slice po st.length co).ownBlock) (hat : (Value.slice po st.length co).ownBlock = some g ∨ g = H) (hH : w.heap.size ≤ H) :
    L P B o (b :: st) f (W1.setCell ⟨B, 1, none⟩ (.slice (some ⟨g, 0, none⟩) (st.length + 1) cap)) ∧ KP P w (W1.setCell ⟨B, 1, none⟩ (.slice (some ⟨g, 0, none⟩) (st.length + 1) cap)) := by
  obtain ⟨hH1, hT, hO, hA⟩ := h
  have nB : some B ≠ (Value.slice po st.length co).ownBlock := row_ne hH1 hO (by decide)
  have hlt := hH1.lt
  have HB : Hold B #[.slice pa o.length ca, .slice po st.length co, .bool f] 41 W1 := (hg.block B (Nat.lt_of_lt_of_le hlt hB.size) nB).trans (hH1.below hB hlt)
  have hk : ∀ b, b < w.heap.size → some b ≠ (Value.slice po st.length co).ownBlock → W1.heap[b]? = w.heap[b]? := fun b hb hne => (hg.block b (Nat.lt_of_lt_of_le hb hB.size) hne).trans (hB.block b hb)
  have hT1 : W1.ownsRow 0 32 5 (.slice pa o.length ca) o.length (tcs o) := row_keep hT fun x hx hl => hk x hl (rows_ne hT hO (by decide) x hx)
  refine ⟨⟨pa, ca, some ⟨g, 0, none⟩, cap, ?_, ?_, ?_, ?_⟩, ?_⟩
  · exact HB.set 1 (.slice (some ⟨g, 0, none⟩) (st.length + 1) cap)
  · exact row_other hT1 HB (by decide) 1 _
  · rw [List.reverse_cons, bcs_snoc]
    exact row_other hown HB (by decide) 1 _
  · intro b hb
    obtain ⟨a1, a2, a3, a4⟩ := hA b hb
    refine ⟨?_, a2, a3, ?_⟩
    · have := hg.size; have := hB.size; simp; omega
    · intro e
      have e2 : b = g := by simpa [Value.ownBlock] using e
      subst e2
      rcases hat with h1 | h1
      · exact a4 h1.symm
      · omega
  · refine KP.trans (KP.trans (KP.of_below hB fun b hb => (hA b hb).1) (KP.of_grown hg fun b hb => ⟨Nat.lt_of_lt_of_le (hA b hb).1 hB.size, (hA b hb).2.2.2⟩)) (KP.setCell _ _ _ _ fun hb => (hA B hb).2.1 rfl)
/-- The last block that is open. -/
def top : List Blk → Blk
  | [] => ⟨[], 0⟩
  | b :: _ => b
theorem top_cells {P : Nat → Prop} {B : Nat} {o : List Tok} {b : Blk} {st : List Blk} {f : Bool} {pa : Option Addr} {ca : Nat} {po : Option Addr} {co : Nat} {W : World} (h : LS P B o (b :: st) f pa ca po co W) :
    ∃ g, po = some ⟨g, 0, none⟩ ∧ W.cell? ⟨g, st.length * 2, none⟩ = some (.string (S b.sg)) ∧ W.cell? ⟨g, st.length * 2 + 1, none⟩ = some (.int .i64 b.cl) := by
  obtain ⟨g, cap, he, _, _⟩ := h.opn.form (by simp)
  cases he
  refine ⟨g, rfl, ?_, ?_⟩
  · refine row_cell h.opn ?_
    have := bcs_at (b :: st).reverse st.length b 0 (by simp) (by omega)
    rw [Nat.add_zero] at this; rw [this]; rfl
  · refine row_cell h.opn ?_
    have := bcs_at (b :: st).reverse st.length b 1 (by simp) (by omega)
    rw [this]; rfl
set_option maxRecDepth 100000 in
set_option maxHeartbeats 3200000 in
theorem last_any (P : Nat → Prop) (B : Nat) (o : List Tok) (st : List Blk) (f : Bool) (w : World) (hL : L P B o st f w) (hn : st.length ≤ 1000000) :
    Calls Tryd.prog 40 #[.pointer (some ⟨B, 0, none⟩)] w fun e w' => e = .returned (bv (top st)) ∧ Below w.heap.size w w' := by
  obtain ⟨pa, ca, po, co, hS⟩ := hL
  have c1 : w.cell? ⟨B, 1, none⟩ = some (.slice po st.length co) := hS.hold.cell 1
  have e1 : (w.alloc (.cells #[.string ⟨#[]⟩, .int .i64 0] 78)).cell? ⟨B, 1, none⟩ = some (.slice po st.length co) := (hS.hold.alloc _).cell 1
  cases st with
  | nil =>
    simp only [List.length_nil] at c1 e1
    go_enter Tryd.func40, Tryd.ntmps40
    go_wp2_with fail
    exact bodyPost_ret (v := bv ⟨[], 0⟩) (by simp only [results, Tryd.results40]; go_simp; rfl) rfl ⟨rfl, (Below.refl _ _).alloc (Nat.le_refl _) _⟩
  | cons b st =>
    obtain ⟨g, rfl, d0, d1⟩ := top_cells hS
    have hg := World.block_lt_of_cell? w _ d0
    have e2 : (w.alloc (.cells #[.string ⟨#[]⟩, .int .i64 0] 78)).cell? ⟨g, st.length * 2, none⟩ = some (.string (S b.sg)) := (World.cell?_of_block (Below.heap_alloc w _ g hg)).trans d0
    have e3 : (w.alloc (.cells #[.string ⟨#[]⟩, .int .i64 0] 78)).cell? ⟨g, st.length * 2 + 1, none⟩ = some (.int .i64 b.cl) := (World.cell?_of_block (Below.heap_alloc w _ g hg)).trans d1
    simp only [List.length_cons] at c1 e1 hn
    clear hS
    generalize st.length = n at *
    go_enter Tryd.func40, Tryd.ntmps40
    go_wp2_with fail
    go_region
    all_goals go_wp2_with fail
    all_goals exact bodyPost_ret (v := bv b) (by simp only [results, Tryd.results40]; go_simp; try rfl) rfl ⟨rfl, ((Below.refl _ _).alloc (Nat.le_refl _) _).trans ⟨rfl, rfl, rfl, Nat.le_refl _, fun _ _ => rfl⟩⟩
set_option maxRecDepth 100000 in
set_option maxHeartbeats 3200000 in
theorem pop_any (P : Nat → Prop) (B : Nat) (o : List Tok) (b : Blk) (st : List Blk) (f : Bool) (w : World) (hL : L P B o (b :: st) f w) (hn : st.length ≤ 1000000) :
    Calls Tryd.prog 41 #[.pointer (some ⟨B, 0, none⟩)] w fun e w' => e = .returned (.tuple #[]) ∧ L P B o st f w' ∧ KP P w w' := by
  obtain ⟨pa, ca, po, co, hS⟩ := hL
  have c1 : w.cell? ⟨B, 1, none⟩ = some (.slice po (st.length + 1) co) := hS.hold.cell 1
  have f1 := hS.hold.frozen 1
  obtain ⟨g, rfl, d0, d1⟩ := top_cells hS
  have hcap : st.length + 1 ≤ co := by
    rcases hS.opn.2 with ⟨hv, _⟩ | ⟨g', cap, cur, hv, _, _, h1, _⟩
    · cases hv
    · cases hv; exact h1
  have HS := hide hS
  clear hS d0 d1
  generalize hk : st.length = n at *
  go_enter Tryd.func41, Tryd.ntmps41
  go_wp2_with fail
  go_region
  all_goals go_wp2_with fail
  all_goals
    go_end0
    have k := HS.out.pop
    rw [hk] at k
    exact ⟨rfl, k.1.drew, k.2.drew⟩
end Go.Proofs.YtnifnbndkbmdcaaDoor
