/-
  THE WALK OF ty.Holes.
-/
import Derived.Test.YteoflpalmckikaaDoorDown
namespace Go.Proofs.YteoflpalmckikaaDoor
open Go.RowKit Go.Shelf
set_option linter.unusedVariables false
set_option linter.unusedSimpArgs false
attribute [local go_sem] Oper.semAt_some
theorem info3 : (Tryd.prog.info? 3).map (fun i => (i.zero, i.size, i.bytes)) = some (some (.int .i64 0), 1, 8) := by kernel_rfl
/-- A list of numbers that a call has made. -/
def intV (l : List Int) : List Value := l.map fun m => .int .i64 m
theorem intV_len (l : List Int) : (intV l).length = l.length := by simp [intV]
/-- What a body keeps, that writes block X and rows of type E from block B on. -/
structure KpS (B X : Nat) (E : TypeId) (W W' : World) : Prop where
  size : W.heap.size ≤ W'.heap.size
  old : ∀ b, b < B → b < W.heap.size → W'.heap[b]? = W.heap[b]?
  cell : ∀ b C t f, b ≠ X → t ≠ E → W.heap[b]? = some (.cells C t f) → W'.heap[b]? = some (.cells C t f)
  map : ∀ b es c, b ≠ X → W.heap[b]? = some (.map es c) → W'.heap[b]? = some (.map es c)
theorem KpS.refl (B X : Nat) (E : TypeId) (W : World) : KpS B X E W W := ⟨Nat.le_refl _, fun _ _ _ => rfl, fun _ _ _ _ _ _ h => h, fun _ _ _ _ h => h⟩
theorem KpS.trans {B X : Nat} {E : TypeId} {U V W : World} (h : KpS B X E U V) (k : KpS B X E V W) : KpS B X E U W :=
  ⟨Nat.le_trans h.size k.size, fun b hb hw => (k.old b hb (Nat.lt_of_lt_of_le hw h.size)).trans (h.old b hb hw), fun b C t f hx ht hb => k.cell b C t f hx ht (h.cell b C t f hx ht hb), fun b es c hx hb => k.map b es c hx (h.map b es c hx hb)⟩
theorem KpS.put {B X : Nat} {E : TypeId} (W : World) (l : Nat) (o o' : Loop) (hl : B ≤ l) (h : W.heap[l]? = some (.loop o)) : KpS B X E W (W.putObj l (.loop o')) := by
  refine ⟨by simp [World.putObj], fun b hb _ => World.putObj_heap_other (by omega), fun b C t f _ _ hb => ?_, fun b es c _ hb => ?_⟩
  · exact (World.putObj_heap_other (fun e => by subst e; rw [h] at hb; cases hb)).trans hb
  · exact (World.putObj_heap_other (fun e => by subst e; rw [h] at hb; cases hb)).trans hb
theorem KpS.ok {B X B' : Nat} {E : TypeId} {P : Nat → Prop} (hP : ∀ b, P b → b < B) (hX : X < B') (hE : E ≠ 56 ∧ E ≠ 65 ∧ E ≠ 26) : KpOK (KpS B X E) P B' := by
  refine ⟨fun h => h.size, fun h hb hw => h.old _ (hP _ hb) hw, fun h hb ht hh => h.cell _ _ _ _ (by omega) ?_ hh, fun h hb hm => ?_⟩
  · rintro rfl
    rcases ht with ht | ht | ht
    · exact hE.1 ht
    · exact hE.2.1 ht
    · exact hE.2.2 ht
  · obtain ⟨es, c, h1, r⟩ := hm
    exact ⟨es, c, h.map _ _ _ (by omega) h1, r⟩
/-- What grew by a row of type E. -/
theorem KpS.grown {B X : Nat} {E : TypeId} {W W' : World} {r : Option Nat} (hg : W.grownBy W' r) (hr : ∀ b, r = some b → B ≤ b ∧ ∃ C f, W.heap[b]? = some (.cells C E f)) : KpS B X E W W' := by
  refine ⟨hg.size, fun b hb hw => hg.block b hw (fun e => by have := (hr b e.symm).1; omega), fun b C t f _ ht hb => ?_, fun b es c _ hb => ?_⟩
  · refine (hg.block b (Array.getElem?_eq_some_iff.1 hb).1 (fun e => ?_)).trans hb
    obtain ⟨_, C', f', h⟩ := hr b e.symm
    rw [hb] at h
    cases h
    exact ht rfl
  · refine (hg.block b (Array.getElem?_eq_some_iff.1 hb).1 (fun e => ?_)).trans hb
    obtain ⟨_, C', f', h⟩ := hr b e.symm
    rw [hb] at h
    cases h
/-- .. by a cell of block X. -/
theorem KpS.set {B X i : Nat} {E : TypeId} (W : World) (v : Value) (hX : B ≤ X) : KpS B X E W (W.setCell ⟨X, i, none⟩ v) := by
  refine ⟨by simp, fun b hb hw => Below.heap_setCell _ _ _ b (by show b ≠ X; omega), fun b C t f hx _ hb => (Below.heap_setCell _ _ _ b hx).trans hb, fun b es c hx hb => (Below.heap_setCell _ _ _ b hx).trans hb⟩
/-- .. by blocks that were made. -/
theorem KpS.below {B X : Nat} {E : TypeId} {W W' : World} (h : Below W.heap.size W W') : KpS B X E W W' :=
  ⟨h.size, fun b _ hw => h.block b hw, fun b C t f _ _ hb => (h.block b (Array.getElem?_eq_some_iff.1 hb).1).trans hb, fun b es c _ hb => (h.block b (Array.getElem?_eq_some_iff.1 hb).1).trans hb⟩
/-- A list that a call made: what it owns. -/
def IL (base : Nat) (v : Value) (l : List Int) (W : World) : Prop := W.ownsRow base 3 1 v l.length (intV l)
/-- Rows and cells that are kept by whoever grows what is not cells. -/
theorem row_ownB {W W' : World} {base n size : Nat} {e : TypeId} {v : Value} {xs : List Value} {row : Option Nat} {B : Nat} (h : W.ownsRow base e size v n xs) (hg : W.grownBy W' row) (hr : ∀ r, row = some r → B ≤ r ∧ ∃ o, W.heap[r]? = some o ∧ o.isCells = false) : W'.ownsRow base e size v n xs := by
  rcases h with ⟨h1, h2 | ⟨g, cap, cur, hv, hb, hgb, r⟩⟩
  · exact ⟨h1, .inl h2⟩
  · refine ⟨h1, .inr ⟨g, cap, cur, hv, hb, (hg.block g (Array.getElem?_eq_some_iff.1 hgb).1 (fun e => ?_)).trans hgb, r⟩⟩
    obtain ⟨_, o, ho, hc⟩ := hr g e.symm
    rw [hgb] at ho
    cases ho
    simp [Obj.isCells] at hc
theorem hold_ownB {W W' : World} {b B : Nat} {C : Array Value} {t : TypeId} {row : Option Nat} (h : Hold b C t W) (hg : W.grownBy W' row) (hr : ∀ r, row = some r → B ≤ r ∧ ∃ o, W.heap[r]? = some o ∧ o.isCells = false) : Hold b C t W' := by
  refine (hg.block b h.lt (fun e => ?_)).trans h
  obtain ⟨_, o, ho, hc⟩ := hr b e.symm
  rw [show W.heap[b]? = _ from h] at ho
  cases ho
  simp [Obj.isCells] at hc
theorem below_ownB {n B : Nat} {w W W' : World} {row : Option Nat} (h : Below n w W) (hn : n ≤ w.heap.size) (hg : W.grownBy W' row) (hB : n ≤ B) (hr : ∀ r, row = some r → B ≤ r ∧ ∃ o, W.heap[r]? = some o ∧ o.isCells = false) : Below n w W' :=
  h.trans ⟨hg.os, hg.tape, hg.output, hg.size, fun b hb => hg.block b (by have := h.size; omega) (fun e => by have := (hr b e.symm).1; omega)⟩
theorem zip_fst (l : List Int) : l.zipIdx.map (·.1) = l := by simp
set_option maxHeartbeats 4000000 in
set_option maxRecDepth 100000 in
theorem tyHoles_any (t : Ty) {P : Nat → Prop} {w : World} {pk : Option Addr} {ck : Nat} (hP : ∀ b, P b → b < w.heap.size) (hE : TyIn P w t [.string (S t.nm), .int .i64 t.n, .slice pk t.ar.length ck]) :
    Calls Tryd.prog 13 #[.agg (cs3 t pk ck)] w fun r w' => ∃ v, r = .returned v ∧ IL w.heap.size v (if chk t then hs t else []) w' ∧ Below w.heap.size w w' := by
  refine (callsIn_wide (n := 3)).1 ?_
  have hB0 : Below w.heap.size w (w.alloc (.cells (cs3 t pk ck) 24)) := (Below.refl _ w).alloc (Nat.le_refl _) _
  have hW0 : Hold w.heap.size (cs3 t pk ck) 24 (w.alloc (.cells (cs3 t pk ck) 24)) := Hold.new w _ 24
  have hc := check_any t (P := P) (w := w.alloc (.cells (cs3 t pk ck) 24)) (pk := pk) (ck := ck) (fun b hb => by have := hP b hb; simp; omega) (TyIn.keep (KP.of_below hB0 hP) (fun b hb => hb) _ _ hE)
  have HC := hide hc
  have HB0 := hide hB0
  have HW0 := hide hW0
  have HE := hide hE
  have hs0 : (w.alloc (.cells (cs3 t pk ck) 24)).heap.size = w.heap.size + 1 := by simp
  have HS0 := hide hs0
  clear hc hB0 hW0 hE hs0
  refine callsIn_of_wp_marks Tryd.func13 rfl trivial ?_ rfl
  simp only [Tryd.ntmps13, List.size_toArray, List.length_cons, List.length_nil, Nat.reduceAdd, Nat.reduceSub, Array.replicate_succ, Array.replicate_zero, List.push_toArray, List.append_toArray, List.nil_append, List.cons_append]
  cases hch : chk t
  · rw [hch] at HC
    unfold cs3 at *
    gi_wp2_with fail
    refine ⟨trivial, (callsIn_wide.2 HC.out).mono ?_⟩
    rintro r w1 ⟨rfl, hb1⟩
    have HB1 := hide (HB0.out.trans (hb1.mono HB0.out.size))
    clear hb1
    gi_wp2_with fail
    refine ⟨.slice none 0 0, ?_, ?_⟩
    · simp [results, Tryd.f13, go_sem]
    · exact ⟨_, rfl, World.ownsRow_nil _ _ _ _, HB1.out⟩
  · rw [hch] at HC
    have hh := fun W => holes_any t W pk ck
    have HH := hide hh
    clear hh
    unfold cs3 at *
    gi_wp2_with fail
    refine ⟨trivial, (callsIn_wide.2 HC.out).mono ?_⟩
    rintro r w1 ⟨rfl, hb1⟩
    have HB1 := hide (HB0.out.trans (hb1.mono HB0.out.size))
    have hW1 := HW0.out.below hb1 HW0.out.lt
    have c0 := hW1.cell 0; have c1 := hW1.cell 1; have c2 := hW1.cell 2
    have hs1 : w.heap.size < w1.heap.size := hW1.lt
    simp only [List.getElem?_toArray, List.getElem?_cons_succ, List.getElem?_cons_zero] at c0 c1 c2
    have HW1 := hide hW1
    clear hb1 hW1
    gi_wp2_with fail
    refine ⟨trivial, (callsIn_wide.2 (HH.out _)).mono ?_⟩
    rintro r w2 ⟨rfl, rfl⟩
    gi_wp2_with fail
    have HV1 := hide ((Hold.new w1 #[.slice none 0 0] 27).alloc (.cells #[.string (S t.nm), .int .i64 t.n, .slice pk t.ar.length ck] 24))
    have hV2 := Hold.new (w1.alloc (.cells #[.slice none 0 0] 27)) #[.string (S t.nm), .int .i64 t.n, .slice pk t.ar.length ck] 24
    rw [World.size_alloc] at hV2
    have HV2 := hide hV2
    have HVB := hide ((HB1.out.alloc HB1.out.size (.cells #[.slice none 0 0] 27)).alloc (by simp; have := HB1.out.size; omega) (.cells #[.string (S t.nm), .int .i64 t.n, .slice pk t.ar.length ck] 24))
    have hVs : ((w1.alloc (.cells #[.slice none 0 0] 27)).alloc (.cells #[.string (S t.nm), .int .i64 t.n, .slice pk t.ar.length ck] 24)).heap.size = w1.heap.size + 1 + 1 := by simp
    have HVS := hide hVs
    clear hV2 hVs
    generalize ((w1.alloc (.cells #[.slice none 0 0] 27)).alloc (.cells #[.string (S t.nm), .int .i64 t.n, .slice pk t.ar.length ck] 24)) = V at *
    have hlen : (hs t).length ≤ 2000 := Nat.le_trans (hs_len t) ((chk_iff t).1 hch).2.2
    obtain ⟨i0, hi, hz0, hz1, hz2⟩ := info_parts info3
    refine range_t (n := 3) (by omega) (gf := 48) (lb := #[.pointer (some ⟨w1.heap.size + 1, 0, none⟩)]) rfl (enters_of Tryd.func48 (by kernel_rfl) rfl)
      (iter_any (n := 3 - 1) (P := P) (we := w) (t := t) (pk := pk) (ck := ck) (Kp := KpS w.heap.size w1.heap.size 3) hP HVB.out HE.out HV2.out (fun B hB => KpS.ok hP (by have := HVS.out; omega) ⟨by decide, by decide, by decide⟩))
      KpS.trans (fun W l o o' hl h => KpS.put W l o o' (by have := HVB.out.size; omega) h) (fun _ => rfl)
      (fun pre W => ∃ v, Hold w1.heap.size #[v] 27 W ∧ W.ownsRow w.heap.size 3 1 v pre.length (pre.map fun x => .int .i64 x.1) ∧ Below w.heap.size w W)
      (fun s A B row hs hg hr => by
        obtain ⟨v, h1, h2, h3⟩ := hs
        exact ⟨v, hold_ownB h1 hg hr, row_ownB h2 hg hr, below_ownB h3 (Nat.le_refl _) hg (by have := HVB.out.size; omega) hr⟩)
      ⟨_, HV1.out, World.ownsRow_nil _ _ _ _, HVB.out⟩
      (fun x W => { tmps := #[.agg #[.string (S t.nm), .int .i64 t.n, .slice pk t.ar.length ck], .pointer (some ⟨w.heap.size, 0, none⟩), .slice none 0 0, .pointer (some ⟨w1.heap.size, 0, none⟩), undef, .int .i64 x.1, .agg #[.string (S t.nm), .int .i64 t.n, .slice pk t.ar.length ck], .bool true, .bool false, .agg #[.string (S t.nm), .int .i64 t.n, .slice pk t.ar.length ck], .func (.func 48) #[] #[.pointer (some ⟨w1.heap.size + 1, 0, none⟩)], .int .i64 x.2, .int .i64 x.1, undef, undef, undef, undef, undef], defers := [] })
      (fun x W => W) (fun x W hWs => ⟨⟨rfl, rfl, rfl, Nat.le_refl _, fun _ _ _ => rfl⟩, KpS.refl _ _ _ _⟩) ?_ ?_ ?_
    · intro ld x W K hK
      unfold encH
      gi_wp2
      exact hK
    · rintro ld pre ⟨m, k⟩ r W X hWs hXs hXb ⟨v, h1, h2, h3⟩ hxs
      have hpl : pre.length + 1 ≤ 2000 := by
        have := congrArg List.length hxs
        simp at this
        omega
      obtain ⟨ao, cap, rfl⟩ := slice_of h2
      have b0 := h1.cell 0
      simp only [List.getElem?_toArray, List.getElem?_cons_succ, List.getElem?_cons_zero] at b0
      have hnX := row_ne h1 h2 (by decide)
      have hK1 : KpS w.heap.size w1.heap.size 3 X (X.alloc (.cells #[.int .i64 m] 3)) := KpS.below ((Below.refl _ X).alloc (Nat.le_refl _) _)
      have hgr0 : ∀ b, (Value.slice ao pre.length cap).ownBlock = some b → w.heap.size ≤ b ∧ ∃ C f, (X.alloc (.cells #[.int .i64 m] 3)).heap[b]? = some (.cells C 3 f) := by
        intro b hb
        rcases h2.2 with ⟨h, _⟩ | ⟨g, cap', cur, h, hbb, hg, _⟩
        · rw [h] at hb; cases hb
        · rw [h] at hb
          have : g = b := by simpa [Value.ownBlock] using hb
          subst this
          exact ⟨hbb, cur, _, (Below.heap_alloc _ _ _ (Array.getElem?_eq_some_iff.1 hg).1).trans hg⟩
      have hro : KeepsOthers X (X.alloc (.cells #[.int .i64 m] 3)) := KeepsOthers.alloc _ _
      have H1 := hide h1
      have H2 := hide h2
      have HNX := hide hnX
      have HK1 := hide hK1
      have HGR0 := hide hgr0
      have HRO := hide hro
      clear hnX hK1 hgr0 hro
      have H3 := hide h3
      have hX : w1.heap.size < X.heap.size := h1.lt
      clear h1 h2 h3 hxs hXs hXb
      dsimp only
      gi_wp2_with (first
        | (gi_at_builtin; refine wpListIn_append_own _ rfl _ _ 27 rfl w.heap.size 3 i0 (.int .i64 0) 1 8 Tryd.underlying27 hi hz0 hz1 hz2 rfl (by decide) (.slice ao pre.length cap) pre.length (pre.map fun x => .int .i64 x.1) rfl (H2.out.alloc _) ⟨X.heap.size, 0, none⟩ 1 1 [.int .i64 m] rfl rfl (cell_one_new _ _ _) (by simp [Value.oneCell']) (by unfold maxLen; omega) (by omega) (by have := H3.out.size; simp; omega) ?_; intro v' w3 hown' hg3 hnil3
           obtain ⟨ao', cap', rfl⟩ := slice_of hown'
           have hk3 : KpS w.heap.size w1.heap.size 3 (X.alloc (.cells #[.int .i64 m] 3)) w3 := KpS.grown hg3 HGR0.out
           have h13 : Hold w1.heap.size #[.slice ao pre.length cap] 27 w3 := (hg3.block w1.heap.size (by simp; omega) HNX.out).trans (H1.out.alloc _)
           have b3 := h13.cell 0
           have f3 := h13.frozen 0
           simp only [List.getElem?_toArray, List.getElem?_cons_succ, List.getElem?_cons_zero] at b3
           go_frame)
        | gi_in)
      have hkx : KpS w.heap.size w1.heap.size 3 X (w3.setCell ⟨w1.heap.size, 0, none⟩ (.slice ao' (pre.length + 1) cap')) := (HK1.out.trans hk3).trans (KpS.set w3 _ (by omega))
      refine ⟨KeepsOthers.from ((HRO.out.trans (KeepsOthers.of_grownBy hg3 fun j o hj ho => ?_)).trans (KeepsOthers.setCell _ _ _)) _, hkx, .slice ao' (pre.length + 1) cap', ?_, ?_, ?_⟩
      · obtain ⟨_, C, f, h⟩ := HGR0.out j hj
        rw [h] at ho
        cases ho
        rfl
      · have := h13.set 0 (.slice ao' (pre.length + 1) cap')
        exact this
      · have h1 : (w3.setCell ⟨w1.heap.size, 0, none⟩ (.slice ao' (pre.length + 1) cap')).ownsRow w.heap.size 3 1 (.slice ao' (pre.length + 1) cap') (pre.length + 1) (pre.map (fun x => .int .i64 x.1) ++ [.int .i64 m]) := row_other hown' h13 (by decide) _ _
        rw [List.length_append, List.map_append]
        exact h1
      · refine (((H3.out.alloc H3.out.size _).trans ⟨hg3.os, hg3.tape, hg3.output, hg3.size, fun b hb => ?_⟩)).setCell (p := ⟨w1.heap.size, 0, none⟩) (by show w.heap.size ≤ w1.heap.size; omega) _
        exact hg3.block b (by simp; omega) (fun e => by have := (HGR0.out b e.symm).1; omega)
    · rintro W ⟨v, h1, h2, h3⟩ hd
      have b0 := h1.cell 0
      simp only [List.getElem?_toArray, List.getElem?_cons_succ, List.getElem?_cons_zero] at b0
      have H2 := hide h2
      have H3 := hide h3
      clear h1 h2 h3
      dsimp only
      gi_wp2_with fail
      refine ⟨by simp, .inl ⟨_, _, rfl, run_takeDeferred hd, ?_⟩⟩
      refine ⟨v, ?_, ?_⟩
      · simp [results, Tryd.f13, go_sem]
      · refine ⟨_, rfl, ?_, ?_⟩
        · have hdk : (Obj.deferred (some [])).isCells = false := rfl
          have hg : W.grownBy (W.putObj V.heap.size (.deferred none)) (some V.heap.size) := grownBy_putObj' _ _ _
          have := row_ownB H2.out hg (B := V.heap.size) (fun r e => by cases e; exact ⟨Nat.le_refl _, _, hd, rfl⟩)
          unfold IL intV
          rw [List.length_zipIdx] at this
          have e : ((hs t).zipIdx.map fun x : Hl => Value.int .i64 x.1) = (hs t).map fun m => .int .i64 m := by
            conv => rhs; rw [← zip_fst (hs t), List.map_map]
            rfl
          rw [← e]
          exact this
        · exact below_ownB H3.out (Nat.le_refl _) (grownBy_putObj' _ _ _) (B := V.heap.size) (by have := HVB.out.size; omega) (fun r e => by cases e; exact ⟨Nat.le_refl _, _, hd, rfl⟩)
end Go.Proofs.YteoflpalmckikaaDoor
