/-
  TOKENS AND BLOCKS IN MEMORY: rows that are owned, cells that are held, what a call keeps. No function's walk in it.
-/
import Derived.Test.YtnifnbndkbmdcaaDoorLeaf
import Derived.Maps.AppendAt
namespace Go.Proofs.YtnifnbndkbmdcaaDoor
open Go.RowKit
set_option linter.unusedVariables false

def t0 : Value := .agg #[.int .i64 0, .string ⟨#[]⟩, .int .i64 0, .int .i64 0, .int .i64 0]
/-- A token's five cells. -/
def tc (t : Tok) : List Value := [.int .i64 t.kd, .string (S t.tx), .int .i64 t.nu, .int .i64 t.ln, .int .i64 t.co]
def tv (t : Tok) : Value := .agg #[.int .i64 t.kd, .string (S t.tx), .int .i64 t.nu, .int .i64 t.ln, .int .i64 t.co]
def tcs (l : List Tok) : List Value := l.flatMap tc
theorem tcs_snoc (l : List Tok) (t : Tok) : tcs (l ++ [t]) = tcs l ++ tc t := by simp [tcs]
theorem info32 : (Tryd.prog.info? 32).map (fun i => (i.zero, i.size, i.bytes)) = some (some t0, 5, 48) := by kernel_rfl
/-- A block that is open: the bracket that opened it (none of a column's), its column. -/
structure Blk where
  sg : List UInt8
  cl : Int
def bc (b : Blk) : List Value := [.string (S b.sg), .int .i64 b.cl]
def bv (b : Blk) : Value := .agg #[.string (S b.sg), .int .i64 b.cl]
def bcs (l : List Blk) : List Value := l.flatMap bc
theorem bcs_snoc (l : List Blk) (t : Blk) : bcs (l ++ [t]) = bcs l ++ bc t := by simp [bcs]
def b0 : Value := .agg #[.string ⟨#[]⟩, .int .i64 0]
theorem info78 : (Tryd.prog.info? 78).map (fun i => (i.zero, i.size, i.bytes)) = some (some b0, 2, 24) := by kernel_rfl
theorem bcs_len (ts : List Blk) : (bcs ts).length = ts.length * 2 := by
  induction ts with
  | nil => rfl
  | cons a r ih =>
    have e : bcs (a :: r) = bc a ++ bcs r := rfl
    have e5 : (bc a).length = 2 := rfl
    rw [e, List.length_append, ih, e5, List.length_cons]; omega
theorem tcs_len (ts : List Tok) : (tcs ts).length = ts.length * 5 := by
  induction ts with
  | nil => rfl
  | cons a r ih =>
    have e : tcs (a :: r) = tc a ++ tcs r := rfl
    have e5 : (tc a).length = 5 := rfl
    rw [e, List.length_append, ih, e5, List.length_cons]; omega

def Hold (b : Nat) (C : Array Value) (t : TypeId) (W : World) : Prop := W.heap[b]? = some (Obj.cells C t (0, 0))
theorem Hold.new (W : World) (C : Array Value) (t : TypeId) : Hold W.heap.size C t (W.alloc (.cells C t)) := by
  show (W.heap.push _)[W.heap.size]? = _
  simp
theorem Hold.alloc {b : Nat} {C : Array Value} {t : TypeId} {W : World} (h : Hold b C t W) (o : Obj) : Hold b C t (W.alloc o) := (Below.heap_alloc W o b (Array.getElem?_eq_some_iff.1 h).1).trans h
theorem Hold.lt {b : Nat} {C : Array Value} {t : TypeId} {W : World} (h : Hold b C t W) : b < W.heap.size := (Array.getElem?_eq_some_iff.1 h).1
theorem Hold.set {b : Nat} {C : Array Value} {t : TypeId} {W : World} (h : Hold b C t W) (i : Nat) (v : Value) : Hold b (C.setIfInBounds i v) t (W.setCell ⟨b, i, none⟩ v) := by
  obtain ⟨hlt, hk⟩ := Array.getElem?_eq_some_iff.1 h
  show (W.heap.modify b _)[b]? = _
  rw [Array.getElem?_eq_getElem (by rw [Array.size_modify]; exact hlt), Array.getElem_modify_self, hk]
  rfl
theorem Hold.other {b b' : Nat} {C : Array Value} {t : TypeId} {W : World} (h : Hold b C t W) (hne : b ≠ b') (i : Nat) (v : Value) : Hold b C t (W.setCell ⟨b', i, none⟩ v) := (Below.heap_setCell _ _ _ b hne).trans h
theorem Hold.cell {b : Nat} {C : Array Value} {t : TypeId} {W : World} (h : Hold b C t W) (i : Nat) : W.cell? ⟨b, i, none⟩ = C[i]? := by unfold World.cell?; rw [show W.heap[b]? = _ from h]; rfl
theorem Hold.frozen {b : Nat} {C : Array Value} {t : TypeId} {W : World} (h : Hold b C t W) (i : Nat) : W.frozen? ⟨b, i, none⟩ = false := by unfold World.frozen?; rw [show W.heap[b]? = _ from h]; simp
theorem Hold.below {b n : Nat} {C : Array Value} {t : TypeId} {W W' : World} (h : Hold b C t W) (hb : Below n W W') (hn : b < n) : Hold b C t W' := (hb.block b hn).trans h
/-- A token in a block of its own. -/
def TB (b : Nat) (t : Tok) (W : World) : Prop := Hold b #[.int .i64 t.kd, .string (S t.tx), .int .i64 t.nu, .int .i64 t.ln, .int .i64 t.co] 32 W
theorem TB.cells {b : Nat} {t : Tok} {W : World} (h : TB b t W) : W.cell? ⟨b, 0, none⟩ = some (.int .i64 t.kd) ∧ W.cell? ⟨b, 1, none⟩ = some (.string (S t.tx)) ∧ W.cell? ⟨b, 2, none⟩ = some (.int .i64 t.nu) ∧ W.cell? ⟨b, 3, none⟩ = some (.int .i64 t.ln) ∧ W.cell? ⟨b, 4, none⟩ = some (.int .i64 t.co) := ⟨Hold.cell h 0, Hold.cell h 1, Hold.cell h 2, Hold.cell h 3, Hold.cell h 4⟩
theorem TB.new (W : World) (t : Tok) : TB W.heap.size t (W.alloc (.cells #[.int .i64 t.kd, .string (S t.tx), .int .i64 t.nu, .int .i64 t.ln, .int .i64 t.co] 32)) := Hold.new W _ 32
theorem TB.below {b n : Nat} {t : Tok} {W W' : World} (h : TB b t W) (hb : Below n W W') (hn : b < n) : TB b t W' := Hold.below h hb hn
/-- Whatever is made above does nothing below. -/
theorem below_next {w w' : World} {o : Obj} (h : Below (w.alloc o).heap.size (w.alloc o) w') : Below w.heap.size w w' := ((Below.refl _ w).alloc (Nat.le_refl _) o).trans (h.mono (by simp))
theorem row_other {b : Nat} {C : Array Value} {t e : TypeId} {W : World} {base size k : Nat} {v : Value} {xs : List Value} (hr : W.ownsRow base e size v k xs) (h : Hold b C t W) (hne : t ≠ e) (i : Nat) (u : Value) : (W.setCell ⟨b, i, none⟩ u).ownsRow base e size v k xs := by
  rcases hr with ⟨h1, h2 | ⟨g, cap, cur, hv, hb, hg, r⟩⟩
  · exact ⟨h1, .inl h2⟩
  · refine ⟨h1, .inr ⟨g, cap, cur, hv, hb, (Below.heap_setCell _ _ _ g (fun e' => ?_)).trans hg, r⟩⟩
    have e'' : g = b := e'
    subst e''
    rw [show W.heap[g]? = _ from h] at hg; cases hg; exact hne rfl
theorem row_ne {W : World} {b base k size : Nat} {C : Array Value} {t e : TypeId} {v : Value} {xs : List Value} (h : Hold b C t W) (hr : W.ownsRow base e size v k xs) (hne : t ≠ e) : some b ≠ v.ownBlock := by
  rcases hr.2 with ⟨rfl, _⟩ | ⟨g, cap, cur, rfl, _, hgb, _⟩
  · simp [Value.ownBlock]
  · intro e'
    have e'' : b = g := by simpa [Value.ownBlock] using e'
    subst e''
    rw [show W.heap[b]? = _ from h] at hgb; cases hgb; exact hne rfl
theorem row_lt {W : World} {base k size : Nat} {e : TypeId} {v : Value} {xs : List Value} (hr : W.ownsRow base e size v k xs) : some W.heap.size ≠ v.ownBlock := by
  rcases hr.2 with ⟨rfl, _⟩ | ⟨g, cap, cur, rfl, _, hgb, _⟩
  · simp [Value.ownBlock]
  · intro e'
    have e'' : W.heap.size = g := by simpa [Value.ownBlock] using e'
    have := (Array.getElem?_eq_some_iff.1 hgb).1
    omega
theorem slice_of {w : World} {base n : Nat} {e : TypeId} {size : Nat} {v : Value} {xs : List Value} (h : w.ownsRow base e size v n xs) : ∃ ao cap, v = .slice ao n cap := by
  rcases h.2 with ⟨rfl, rfl⟩ | ⟨g, cap, cur, rfl, _⟩
  · exact ⟨none, 0, rfl⟩
  · exact ⟨some ⟨g, 0, none⟩, cap, rfl⟩
/-- A row kept by whatever keeps its block. -/
theorem row_keep {W W' : World} {base k size : Nat} {e : TypeId} {v : Value} {xs : List Value} (hr : W.ownsRow base e size v k xs) (h : ∀ g, v.ownBlock = some g → g < W.heap.size → W'.heap[g]? = W.heap[g]?) : W'.ownsRow base e size v k xs := by
  rcases hr with ⟨h1, h2 | ⟨g, cap, cur, hv, hb, hg, r⟩⟩
  · exact ⟨h1, .inl h2⟩
  · refine ⟨h1, .inr ⟨g, cap, cur, hv, hb, (h g (by rw [hv]; rfl) (Array.getElem?_eq_some_iff.1 hg).1).trans hg, r⟩⟩
/-- Two rows of other types lie in other blocks. -/
theorem rows_ne {W : World} {base k size base' k' size' : Nat} {e e' : TypeId} {v v' : Value} {xs xs' : List Value} (hr : W.ownsRow base e size v k xs) (hr' : W.ownsRow base' e' size' v' k' xs') (hne : e ≠ e') : ∀ g, v.ownBlock = some g → some g ≠ v'.ownBlock := by
  intro g hg hg'
  rcases hr.2 with ⟨rfl, _⟩ | ⟨g1, cap, cur, rfl, _, hgb, _⟩
  · cases hg
  · rcases hr'.2 with ⟨rfl, _⟩ | ⟨g2, cap', cur', rfl, _, hgb', _⟩
    · cases hg'
    · cases hg; cases hg'
      rw [hgb] at hgb'; cases hgb'; exact hne rfl
/-- A row without its last ones. -/
theorem row_cut {W : World} {base k size cap j : Nat} {e : TypeId} {p : Option Addr} {xs : List Value} (hr : W.ownsRow base e size (.slice p k cap) k xs) (hj : j ≤ k) : W.ownsRow base e size (.slice p j cap) j (xs.take (j * size)) := by
  have hx := hr.1
  have hjk : j * size ≤ k * size := Nat.mul_le_mul_right _ hj
  rcases hr with ⟨h1, ⟨h2, h3⟩ | ⟨g, cap', cur, hv, hb, hg, r1, r2, r3, r4⟩⟩
  · subst h3
    obtain rfl : j = 0 := by omega
    cases h2
    exact ⟨by simp, .inl ⟨rfl, rfl⟩⟩
  · cases hv
    refine ⟨by rw [List.length_take]; omega, .inr ⟨g, cap, cur, rfl, hb, hg, by omega, r2, r3, ?_⟩⟩
    rw [← r4, List.take_take, Nat.min_eq_left hjk]
theorem below_row {B n : Nat} {e : TypeId} {size : Nat} {w w' : World} {v : Value} {xs : List Value} (hr : w.ownsRow B e size v n xs) (hB : B ≤ w.heap.size) (hg : w.grownBy w' v.ownBlock) : Below B w w' := by
  refine ⟨hg.os, hg.tape, hg.output, hg.size, fun k hk => hg.block k (by omega) (fun e => ?_)⟩
  rcases hr.2 with ⟨rfl, _⟩ | ⟨g, cap, cur, rfl, hb, _⟩
  · simp [Value.ownBlock] at e
  · simp [Value.ownBlock] at e; omega
theorem cell_five_new (w : World) (a b c d e : Value) (t : TypeId) (j : Nat) (u : Value) (h : [a, b, c, d, e][j]? = some u) : (w.alloc (.cells #[a, b, c, d, e] t)).cell? ((⟨w.heap.size, 0, none⟩ : Addr).add j) = some u := by
  have hj : j < 5 := by have := (List.getElem?_eq_some_iff.1 h).1; simpa using this
  have e0 : (⟨w.heap.size, 0, none⟩ : Addr).add j = ⟨w.heap.size, j, none⟩ := by unfold Addr.add; split <;> simp_all
  rw [e0, World.cell?_alloc_mark, ← h]
  simp
theorem cell_two_new (w : World) (a b : Value) (t : TypeId) (j : Nat) (u : Value) (h : [a, b][j]? = some u) : (w.alloc (.cells #[a, b] t)).cell? ((⟨w.heap.size, 0, none⟩ : Addr).add j) = some u := by
  have hj : j < 2 := by have := (List.getElem?_eq_some_iff.1 h).1; simpa using this
  have e0 : (⟨w.heap.size, 0, none⟩ : Addr).add j = ⟨w.heap.size, j, none⟩ := by unfold Addr.add; split <;> simp_all
  rw [e0, World.cell?_alloc_mark, ← h]
  simp
/-- The tokens lie from p on. -/
def TMem (w : World) (p : Option Addr) (ts : List Tok) : Prop := ts = [] ∨ ∃ b o, p = some ⟨b, o, none⟩ ∧ b < w.heap.size ∧ ∀ i t, ts[i]? = some t → w.cell? ⟨b, o + i * 5, none⟩ = some (.int .i64 t.kd) ∧ w.cell? ⟨b, o + i * 5 + 1, none⟩ = some (.string (S t.tx)) ∧ w.cell? ⟨b, o + i * 5 + 2, none⟩ = some (.int .i64 t.nu) ∧ w.cell? ⟨b, o + i * 5 + 3, none⟩ = some (.int .i64 t.ln) ∧ w.cell? ⟨b, o + i * 5 + 4, none⟩ = some (.int .i64 t.co)
theorem TMem.below {w w' : World} {n : Nat} {p : Option Addr} {ts : List Tok} (h : TMem w p ts) (hn : w.heap.size ≤ n) (hb : Below n w w') : TMem w' p ts := by
  rcases h with rfl | ⟨b, o, hp, hbk, hm⟩
  · exact .inl rfl
  · have hk : ∀ x, w'.cell? ⟨b, x, none⟩ = w.cell? ⟨b, x, none⟩ := fun x => hb.cell (p := ⟨b, x, none⟩) (Nat.lt_of_lt_of_le hbk hn)
    exact .inr ⟨b, o, hp, Nat.lt_of_lt_of_le hbk hb.size, fun i t ht => by rw [hk, hk, hk, hk, hk]; exact hm i t ht⟩
theorem TMem.take {w : World} {p : Option Addr} {ts : List Tok} (h : TMem w p ts) (j : Nat) : TMem w p (ts.take j) := by
  rcases h with rfl | ⟨b, o, hp, hb, hm⟩
  · exact .inl (by simp)
  · exact .inr ⟨b, o, hp, hb, fun i t ht => by
      rw [List.getElem?_take] at ht
      split at ht
      · exact hm i t ht
      · cases ht⟩
theorem tcs_at (us : List Tok) : ∀ (i : Nat) (t : Tok) (j : Nat), us[i]? = some t → j < 5 → (tcs us)[i * 5 + j]? = (tc t)[j]? := by
  induction us with
  | nil => intro i t j ht; simp at ht
  | cons a r ih =>
    intro i t j ht hj
    have e : tcs (a :: r) = tc a ++ tcs r := rfl
    have e5 : (tc a).length = 5 := rfl
    cases i with
    | zero =>
      simp at ht; subst ht
      rw [e, Nat.zero_mul, Nat.zero_add, List.getElem?_append_left (by rw [e5]; exact hj)]
    | succ i =>
      rw [e, List.getElem?_append_right (by rw [e5]; omega), e5, show (i + 1) * 5 + j - 5 = i * 5 + j from by omega]
      exact ih i t j (by simpa using ht) hj
theorem bcs_at (us : List Blk) : ∀ (i : Nat) (t : Blk) (j : Nat), us[i]? = some t → j < 2 → (bcs us)[i * 2 + j]? = (bc t)[j]? := by
  induction us with
  | nil => intro i t j ht; simp at ht
  | cons a r ih =>
    intro i t j ht hj
    have e : bcs (a :: r) = bc a ++ bcs r := rfl
    have e5 : (bc a).length = 2 := rfl
    cases i with
    | zero =>
      simp at ht; subst ht
      rw [e, Nat.zero_mul, Nat.zero_add, List.getElem?_append_left (by rw [e5]; exact hj)]
    | succ i =>
      rw [e, List.getElem?_append_right (by rw [e5]; omega), e5, show (i + 1) * 2 + j - 2 = i * 2 + j from by omega]
      exact ih i t j (by simpa using ht) hj
/-- What a row's cells hold. -/
theorem row_cell {W : World} {base n cap size : Nat} {e : TypeId} {g : Nat} {xs : List Value} (h : W.ownsRow base e size (.slice (some ⟨g, 0, none⟩) n cap) n xs) {j : Nat} {v : Value} (hj : xs[j]? = some v) : W.cell? ⟨g, j, none⟩ = some v := by
  have hl := (List.getElem?_eq_some_iff.1 hj).1
  rcases h with ⟨h1, ⟨h2, _⟩ | ⟨g', cap', cur, hv, hb, hg, r1, r2, r3, r4⟩⟩
  · cases h2
  · cases hv
    rw [← r4, List.getElem?_take, if_pos (by omega)] at hj
    simp only [World.cell?, hg]
    rw [← hj]
    simp
theorem row_tmem {W : World} {n₀ n c : Nat} {p : Option Addr} {ts : List Tok} (h : W.ownsRow n₀ 32 5 (.slice p n c) n (tcs ts)) : TMem W p ts ∧ ts.length = n := by
  have hlen := tcs_len ts
  have hn : ts.length = n := by have := h.1; omega
  refine ⟨?_, hn⟩
  rcases h.2 with ⟨hv, h0⟩ | ⟨g, cap, cur, hv, hb, hg, h1, h2, h3, h4⟩
  · left; exact List.length_eq_zero_iff.1 (by omega)
  · cases hv
    refine .inr ⟨g, 0, rfl, (Array.getElem?_eq_some_iff.1 hg).1, fun i t ht => ?_⟩
    have hx : ∀ j, j < 5 → W.cell? ⟨g, 0 + i * 5 + j, none⟩ = (tc t)[j]? := by
      intro j hj
      have k := tcs_at ts i t j ht hj
      have hs : ∃ v, (tc t)[j]? = some v := ⟨_, List.getElem?_eq_getElem (by show j < 5; exact hj)⟩
      obtain ⟨v, hv⟩ := hs
      rw [hv] at k ⊢
      rw [Nat.zero_add]
      exact row_cell h k
    exact ⟨hx 0 (by omega), hx 1 (by omega), hx 2 (by omega), hx 3 (by omega), hx 4 (by omega)⟩

/-- What a call keeps: the blocks that are asked for, and all but memory. -/
structure KP (P : Nat → Prop) (w w' : World) : Prop where
  os : w'.os = w.os
  tape : w'.tape = w.tape
  output : w'.output = w.output
  size : w.heap.size ≤ w'.heap.size
  block : ∀ b, P b → w'.heap[b]? = w.heap[b]?
theorem KP.refl (P : Nat → Prop) (w : World) : KP P w w := ⟨rfl, rfl, rfl, Nat.le_refl _, fun _ _ => rfl⟩
theorem KP.trans {P : Nat → Prop} {a b c : World} (h : KP P a b) (k : KP P b c) : KP P a c := ⟨k.os.trans h.os, k.tape.trans h.tape, k.output.trans h.output, Nat.le_trans h.size k.size, fun x hx => (k.block x hx).trans (h.block x hx)⟩
theorem KP.mono {P Q : Nat → Prop} {a b : World} (h : KP P a b) (hq : ∀ x, Q x → P x) : KP Q a b := ⟨h.os, h.tape, h.output, h.size, fun x hx => h.block x (hq x hx)⟩
theorem KP.below {P : Nat → Prop} {a b : World} {n : Nat} (h : KP P a b) (hq : ∀ x, x < n → P x) : Below n a b := ⟨h.os, h.tape, h.output, h.size, fun x hx => h.block x (hq x hx)⟩
theorem KP.alloc {P : Nat → Prop} (w : World) (o : Obj) (hP : ∀ b, P b → b < w.heap.size) : KP P w (w.alloc o) := ⟨rfl, rfl, rfl, by simp, fun b hb => Below.heap_alloc w o b (hP b hb)⟩
theorem KP.setCell {P : Nat → Prop} (w : World) (b i : Nat) (v : Value) (hP : ¬ P b) : KP P w (w.setCell ⟨b, i, none⟩ v) := ⟨rfl, rfl, rfl, by simp, fun x hx => Below.heap_setCell _ _ _ x (fun e => hP (by subst e; exact hx))⟩
theorem KP.of_grown {P : Nat → Prop} {w w' : World} {r : Option Nat} (h : w.grownBy w' r) (hP : ∀ b, P b → b < w.heap.size ∧ some b ≠ r) : KP P w w' := ⟨h.os, h.tape, h.output, h.size, fun b hb => h.block b (hP b hb).1 (hP b hb).2⟩
theorem KP.of_below {P : Nat → Prop} {w w' : World} {n : Nat} (h : Below n w w') (hP : ∀ b, P b → b < n) : KP P w w' := ⟨h.os, h.tape, h.output, h.size, fun b hb => h.block b (hP b hb)⟩

/-- What layout's blocks hold: what was told, which are open (the last one first), whether one was just opened. P: blocks that are not theirs. -/
structure LS (P : Nat → Prop) (B : Nat) (o : List Tok) (st : List Blk) (f : Bool) (pa : Option Addr) (ca : Nat) (po : Option Addr) (co : Nat) (W : World) : Prop where
  hold : Hold B #[.slice pa o.length ca, .slice po st.length co, .bool f] 41 W
  told : W.ownsRow 0 32 5 (.slice pa o.length ca) o.length (tcs o)
  opn : W.ownsRow 0 78 2 (.slice po st.length co) st.length (bcs st.reverse)
  apart : ∀ b, P b → b < W.heap.size ∧ b ≠ B ∧ some b ≠ (Value.slice pa o.length ca).ownBlock ∧ some b ≠ (Value.slice po st.length co).ownBlock
def L (P : Nat → Prop) (B : Nat) (o : List Tok) (st : List Blk) (f : Bool) (W : World) : Prop := ∃ pa ca po co, LS P B o st f pa ca po co W
end Go.Proofs.YtnifnbndkbmdcaaDoor
