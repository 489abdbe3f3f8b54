/-
  MEMORY: rows that are owned, cells that are held, what a call keeps; types and facts as they lie in it. No function's walk in it.
-/
import Derived.Test.YteoflpalmckikaaDoorRows
import Derived.Test.YteoflpalmckikaaDoorMath
import Derived.WalkKit
import Derived.WalkSpells
import Derived.StillTactics
import Derived.Laws.Pointers
import Derived.Laws.StructEq
import Derived.RowKit3
import Derived.Deep.RegionWith
import Derived.BigQuiet
import Derived.Deep.QuietTactic
import Derived.Deep.LoopGhost
import Derived.Maps.AppendAt
namespace Go.Proofs.YteoflpalmckikaaDoor
open Go.RowKit
set_option linter.unusedVariables false
set_option linter.unusedSimpArgs false
theorem hide {p : Prop} (h : p) : Hid p := h
/-- A text of these bytes. -/
def S (l : List UInt8) : ByteArray := ⟨l.toArray⟩
theorem S_data (l : List UInt8) : (S l).data.toList = l := rfl
theorem S_list (l : List UInt8) : (S l).toList = l := by rw [ByteArray.toList_eq]; rfl
theorem S_size (l : List UInt8) : (S l).size = l.length := by simp [S, ByteArray.size]
theorem S_of (s : ByteArray) : S s.data.toList = s := by cases s; simp [S]
theorem S_get (l : List UInt8) (i : Nat) (h : i < (S l).size) (h' : i < l.length) : (S l)[i] = l[i] := by
  simp [S, ByteArray.getElem_eq_getElem_data]

def Hold (b : Nat) (C : Array Value) (t : TypeId) (W : World) : Prop := W.heap[b]? = some (Obj.cells C t (0, 0))
theorem Hold.new (W : World) (C : Array Value) (t : TypeId) : Hold W.heap.size C t (W.alloc (.cells C t)) := by
  show (W.heap.push _)[W.heap.size]? = _
  simp
theorem Hold.alloc {b : Nat} {C : Array Value} {t : TypeId} {W : World} (h : Hold b C t W) (o : Obj) : Hold b C t (W.alloc o) := (Below.heap_alloc W o b (Array.getElem?_eq_some_iff.1 h).1).trans h
theorem Hold.lt {b : Nat} {C : Array Value} {t : TypeId} {W : World} (h : Hold b C t W) : b < W.heap.size := (Array.getElem?_eq_some_iff.1 h).1
theorem Hold.set {b : Nat} {C : Array Value} {t : TypeId} {W : World} (h : Hold b C t W) (i : Nat) (v : Value) : Hold b (C.setIfInBounds i v) t (W.setCell ⟨b, i, none⟩ v) := by
  obtain ⟨hlt, hk⟩ := Array.getElem?_eq_some_iff.1 h
  show (W.heap.modify b _)[b]? = _
  rw [Array.getElem?_eq_getElem (by rw [Array.size_modify]; exact hlt), Array.getElem_modify_self, hk]
  rfl
theorem Hold.other {b b' : Nat} {C : Array Value} {t : TypeId} {W : World} (h : Hold b C t W) (hne : b ≠ b') (i : Nat) (v : Value) : Hold b C t (W.setCell ⟨b', i, none⟩ v) := (Below.heap_setCell _ _ _ b hne).trans h
theorem Hold.cell {b : Nat} {C : Array Value} {t : TypeId} {W : World} (h : Hold b C t W) (i : Nat) : W.cell? ⟨b, i, none⟩ = C[i]? := by unfold World.cell?; rw [show W.heap[b]? = _ from h]; rfl
theorem Hold.frozen {b : Nat} {C : Array Value} {t : TypeId} {W : World} (h : Hold b C t W) (i : Nat) : W.frozen? ⟨b, i, none⟩ = false := by unfold World.frozen?; rw [show W.heap[b]? = _ from h]; simp
theorem Hold.below {b n : Nat} {C : Array Value} {t : TypeId} {W W' : World} (h : Hold b C t W) (hb : Below n W W') (hn : b < n) : Hold b C t W' := (hb.block b hn).trans h
/-- Whatever is made above does nothing below. -/
theorem below_next {w w' : World} {o : Obj} (h : Below (w.alloc o).heap.size (w.alloc o) w') : Below w.heap.size w w' := ((Below.refl _ w).alloc (Nat.le_refl _) o).trans (h.mono (by simp))
theorem row_other {b : Nat} {C : Array Value} {t e : TypeId} {W : World} {base size k : Nat} {v : Value} {xs : List Value} (hr : W.ownsRow base e size v k xs) (h : Hold b C t W) (hne : t ≠ e) (i : Nat) (u : Value) : (W.setCell ⟨b, i, none⟩ u).ownsRow base e size v k xs := by
  rcases hr with ⟨h1, h2 | ⟨g, cap, cur, hv, hb, hg, r⟩⟩
  · exact ⟨h1, .inl h2⟩
  · refine ⟨h1, .inr ⟨g, cap, cur, hv, hb, (Below.heap_setCell _ _ _ g (fun e' => ?_)).trans hg, r⟩⟩
    have e'' : g = b := e'
    subst e''
    rw [show W.heap[g]? = _ from h] at hg; cases hg; exact hne rfl
theorem row_ne {W : World} {b base k size : Nat} {C : Array Value} {t e : TypeId} {v : Value} {xs : List Value} (h : Hold b C t W) (hr : W.ownsRow base e size v k xs) (hne : t ≠ e) : some b ≠ v.ownBlock := by
  rcases hr.2 with ⟨rfl, _⟩ | ⟨g, cap, cur, rfl, _, hgb, _⟩
  · simp [Value.ownBlock]
  · intro e'
    have e'' : b = g := by simpa [Value.ownBlock] using e'
    subst e''
    rw [show W.heap[b]? = _ from h] at hgb; cases hgb; exact hne rfl
theorem row_lt {W : World} {base k size : Nat} {e : TypeId} {v : Value} {xs : List Value} (hr : W.ownsRow base e size v k xs) : some W.heap.size ≠ v.ownBlock := by
  rcases hr.2 with ⟨rfl, _⟩ | ⟨g, cap, cur, rfl, _, hgb, _⟩
  · simp [Value.ownBlock]
  · intro e'
    have e'' : W.heap.size = g := by simpa [Value.ownBlock] using e'
    have := (Array.getElem?_eq_some_iff.1 hgb).1
    omega
theorem slice_of {w : World} {base n : Nat} {e : TypeId} {size : Nat} {v : Value} {xs : List Value} (h : w.ownsRow base e size v n xs) : ∃ ao cap, v = .slice ao n cap := by
  rcases h.2 with ⟨rfl, rfl⟩ | ⟨g, cap, cur, rfl, _⟩
  · exact ⟨none, 0, rfl⟩
  · exact ⟨some ⟨g, 0, none⟩, cap, rfl⟩
/-- A row kept by whatever keeps its block. -/
theorem row_keep {W W' : World} {base k size : Nat} {e : TypeId} {v : Value} {xs : List Value} (hr : W.ownsRow base e size v k xs) (h : ∀ g, v.ownBlock = some g → g < W.heap.size → W'.heap[g]? = W.heap[g]?) : W'.ownsRow base e size v k xs := by
  rcases hr with ⟨h1, h2 | ⟨g, cap, cur, hv, hb, hg, r⟩⟩
  · exact ⟨h1, .inl h2⟩
  · refine ⟨h1, .inr ⟨g, cap, cur, hv, hb, (h g (by rw [hv]; rfl) (Array.getElem?_eq_some_iff.1 hg).1).trans hg, r⟩⟩
/-- Two rows of other types lie in other blocks. -/
theorem rows_ne {W : World} {base k size base' k' size' : Nat} {e e' : TypeId} {v v' : Value} {xs xs' : List Value} (hr : W.ownsRow base e size v k xs) (hr' : W.ownsRow base' e' size' v' k' xs') (hne : e ≠ e') : ∀ g, v.ownBlock = some g → some g ≠ v'.ownBlock := by
  intro g hg hg'
  rcases hr.2 with ⟨rfl, _⟩ | ⟨g1, cap, cur, rfl, _, hgb, _⟩
  · cases hg
  · rcases hr'.2 with ⟨rfl, _⟩ | ⟨g2, cap', cur', rfl, _, hgb', _⟩
    · cases hg'
    · cases hg; cases hg'
      rw [hgb] at hgb'; cases hgb'; exact hne rfl
/-- A row without its last ones. -/
theorem row_cut {W : World} {base k size cap j : Nat} {e : TypeId} {p : Option Addr} {xs : List Value} (hr : W.ownsRow base e size (.slice p k cap) k xs) (hj : j ≤ k) : W.ownsRow base e size (.slice p j cap) j (xs.take (j * size)) := by
  have hx := hr.1
  have hjk : j * size ≤ k * size := Nat.mul_le_mul_right _ hj
  rcases hr with ⟨h1, ⟨h2, h3⟩ | ⟨g, cap', cur, hv, hb, hg, r1, r2, r3, r4⟩⟩
  · subst h3
    obtain rfl : j = 0 := by omega
    cases h2
    exact ⟨by simp, .inl ⟨rfl, rfl⟩⟩
  · cases hv
    refine ⟨by rw [List.length_take]; omega, .inr ⟨g, cap, cur, rfl, hb, hg, by omega, r2, r3, ?_⟩⟩
    rw [← r4, List.take_take, Nat.min_eq_left hjk]
theorem below_row {B n : Nat} {e : TypeId} {size : Nat} {w w' : World} {v : Value} {xs : List Value} (hr : w.ownsRow B e size v n xs) (hB : B ≤ w.heap.size) (hg : w.grownBy w' v.ownBlock) : Below B w w' := by
  refine ⟨hg.os, hg.tape, hg.output, hg.size, fun k hk => hg.block k (by omega) (fun e => ?_)⟩
  rcases hr.2 with ⟨rfl, _⟩ | ⟨g, cap, cur, rfl, hb, _⟩
  · simp [Value.ownBlock] at e
  · simp [Value.ownBlock] at e; omega
/-- What a row's cells hold. -/
theorem row_cell {W : World} {base n cap size : Nat} {e : TypeId} {g : Nat} {xs : List Value} (h : W.ownsRow base e size (.slice (some ⟨g, 0, none⟩) n cap) n xs) {j : Nat} {v : Value} (hj : xs[j]? = some v) : W.cell? ⟨g, j, none⟩ = some v := by
  have hl := (List.getElem?_eq_some_iff.1 hj).1
  rcases h with ⟨h1, ⟨h2, _⟩ | ⟨g', cap', cur, hv, hb, hg, r1, r2, r3, r4⟩⟩
  · cases h2
  · cases hv
    rw [← r4, List.getElem?_take, if_pos (by omega)] at hj
    simp only [World.cell?, hg]
    rw [← hj]
    simp
/-- What a call keeps: the blocks that are asked for, and all but memory. -/
structure KP (P : Nat → Prop) (w w' : World) : Prop where
  os : w'.os = w.os
  tape : w'.tape = w.tape
  output : w'.output = w.output
  size : w.heap.size ≤ w'.heap.size
  block : ∀ b, P b → w'.heap[b]? = w.heap[b]?
theorem KP.refl (P : Nat → Prop) (w : World) : KP P w w := ⟨rfl, rfl, rfl, Nat.le_refl _, fun _ _ => rfl⟩
theorem KP.trans {P : Nat → Prop} {a b c : World} (h : KP P a b) (k : KP P b c) : KP P a c := ⟨k.os.trans h.os, k.tape.trans h.tape, k.output.trans h.output, Nat.le_trans h.size k.size, fun x hx => (k.block x hx).trans (h.block x hx)⟩
theorem KP.mono {P Q : Nat → Prop} {a b : World} (h : KP P a b) (hq : ∀ x, Q x → P x) : KP Q a b := ⟨h.os, h.tape, h.output, h.size, fun x hx => h.block x (hq x hx)⟩
theorem KP.below {P : Nat → Prop} {a b : World} {n : Nat} (h : KP P a b) (hq : ∀ x, x < n → P x) : Below n a b := ⟨h.os, h.tape, h.output, h.size, fun x hx => h.block x (hq x hx)⟩
theorem KP.alloc {P : Nat → Prop} (w : World) (o : Obj) (hP : ∀ b, P b → b < w.heap.size) : KP P w (w.alloc o) := ⟨rfl, rfl, rfl, by simp, fun b hb => Below.heap_alloc w o b (hP b hb)⟩
theorem KP.setCell {P : Nat → Prop} (w : World) (b i : Nat) (v : Value) (hP : ¬ P b) : KP P w (w.setCell ⟨b, i, none⟩ v) := ⟨rfl, rfl, rfl, by simp, fun x hx => Below.heap_setCell _ _ _ x (fun e => hP (by subst e; exact hx))⟩
theorem KP.of_grown {P : Nat → Prop} {w w' : World} {r : Option Nat} (h : w.grownBy w' r) (hP : ∀ b, P b → b < w.heap.size ∧ some b ≠ r) : KP P w w' := ⟨h.os, h.tape, h.output, h.size, fun b hb => h.block b (hP b hb).1 (hP b hb).2⟩
theorem KP.of_below {P : Nat → Prop} {w w' : World} {n : Nat} (h : Below n w w') (hP : ∀ b, P b → b < n) : KP P w w' := ⟨h.os, h.tape, h.output, h.size, fun b hb => h.block b (hP b hb)⟩


theorem KP.drew {P : Nat → Prop} {w w' : World} (h : KP P w w') : KP P w w'.drew := ⟨h.os, h.tape, h.output, h.size, h.block⟩
theorem KP.cell {P : Nat → Prop} {w w' : World} (h : KP P w w') {b : Nat} (hb : P b) (x : Nat) : w'.cell? ⟨b, x, none⟩ = w.cell? ⟨b, x, none⟩ := by
  unfold World.cell?; rw [show w'.heap[b]? = _ from h.block b hb]
/-- A slice's cells: as long as it is, no longer than it may be. -/
def SlOK (p : Option Addr) (n c : Nat) : Prop := n ≤ c ∧ c ≤ 9223372036854775807 ∧ (p = none → c = 0)
/-- A type's three cells. -/
def tyF (P : Nat → Prop) (w : World) (t : Ty) (l : List (Ty × (List Value → Prop))) (cs : List Value) : Prop := ∃ pk ck,
  cs = [.string (S t.nm), .int .i64 t.n, .slice pk t.ar.length ck] ∧ t.nm.length ≤ 281474976710656 ∧ (-9223372036854775808 ≤ t.n ∧ t.n ≤ 9223372036854775807) ∧ SlOK pk t.ar.length ck ∧
  (t.ar = [] ∨ ∃ b o, pk = some ⟨b, o, none⟩ ∧ P b ∧ ∀ i k, l[i]? = some k → ∃ ds : List Value, ds.length = 3 ∧ (∀ j d, ds[j]? = some d → w.cell? ⟨b, o + i * 3 + j, none⟩ = some d) ∧ k.2 ds)
def TyIn (P : Nat → Prop) (w : World) (t : Ty) : List Value → Prop := t.fold (tyF P w)
/-- Types from p on. -/
def TM (P : Nat → Prop) (w : World) (p : Option Addr) (l : List Ty) : Prop := l = [] ∨ ∃ b o, p = some ⟨b, o, none⟩ ∧ P b ∧ ∀ i t, l[i]? = some t → ∃ ds : List Value, ds.length = 3 ∧ (∀ j d, ds[j]? = some d → w.cell? ⟨b, o + i * 3 + j, none⟩ = some d) ∧ TyIn P w t ds
theorem TyIn_iff (P : Nat → Prop) (w : World) (t : Ty) (cs : List Value) : TyIn P w t cs ↔ ∃ pk ck,
  cs = [.string (S t.nm), .int .i64 t.n, .slice pk t.ar.length ck] ∧ t.nm.length ≤ 281474976710656 ∧ (-9223372036854775808 ≤ t.n ∧ t.n ≤ 9223372036854775807) ∧ SlOK pk t.ar.length ck ∧ TM P w pk t.ar := by
  unfold TyIn
  rw [Ty.fold_eq]
  constructor
  · rintro ⟨pk, ck, h1, h2, h3, h5, h7⟩
    refine ⟨pk, ck, h1, h2, h3, h5, ?_⟩
    rcases h7 with h7 | ⟨b, o, hp, hb, hm⟩
    · exact .inl h7
    · refine .inr ⟨b, o, hp, hb, fun i k hk => ?_⟩
      obtain ⟨ds, e1, e2, e3⟩ := hm i (k, k.fold (tyF P w)) (by rw [List.getElem?_map, hk]; rfl)
      exact ⟨ds, e1, e2, e3⟩
  · rintro ⟨pk, ck, h1, h2, h3, h5, h7⟩
    refine ⟨pk, ck, h1, h2, h3, h5, ?_⟩
    rcases h7 with h7 | ⟨b, o, hp, hb, hm⟩
    · exact .inl h7
    · refine .inr ⟨b, o, hp, hb, fun i k hk => ?_⟩
      rw [List.getElem?_map, Option.map_eq_some_iff] at hk
      obtain ⟨t', ht, rfl⟩ := hk
      exact hm i t' ht
theorem TyIn.keep {P Q : Nat → Prop} {w w' : World} (k : KP P w w') (hq : ∀ b, P b → Q b) (t : Ty) : ∀ cs, TyIn P w t cs → TyIn Q w' t cs := by
  induction t using Ty.ind with
  | _ t ih =>
    intro cs h
    rw [TyIn_iff] at h ⊢
    obtain ⟨pk, ck, h1, h2, h3, h5, h7⟩ := h
    refine ⟨pk, ck, h1, h2, h3, h5, ?_⟩
    rcases h7 with h7 | ⟨b, o, hp, hb, hm⟩
    · exact .inl h7
    · refine .inr ⟨b, o, hp, hq b hb, fun i t' ht => ?_⟩
      obtain ⟨ds, e1, e2, e3⟩ := hm i t' ht
      exact ⟨ds, e1, fun j d hd => (k.cell hb _).trans (e2 j d hd), ih t' (List.mem_of_getElem? ht) ds e3⟩
theorem TM.keep {P Q : Nat → Prop} {w w' : World} (k : KP P w w') (hq : ∀ b, P b → Q b) {p : Option Addr} {l : List Ty} (h : TM P w p l) : TM Q w' p l := by
  rcases h with h7 | ⟨b, o, hp, hb, hm⟩
  · exact .inl h7
  · refine .inr ⟨b, o, hp, hq b hb, fun i t' ht => ?_⟩
    obtain ⟨ds, e1, e2, e3⟩ := hm i t' ht
    exact ⟨ds, e1, fun j d hd => (k.cell hb _).trans (e2 j d hd), TyIn.keep k hq t' ds e3⟩
/-- Rows of a struct of n cells, each as R says. -/
def RM {α : Type} (n : Nat) (P : Nat → Prop) (w : World) (R : α → List Value → Prop) (p : Option Addr) (l : List α) : Prop := l = [] ∨ ∃ b o, p = some ⟨b, o, none⟩ ∧ P b ∧ ∀ i t, l[i]? = some t → ∃ ds : List Value, ds.length = n ∧ (∀ j d, ds[j]? = some d → w.cell? ⟨b, o + i * n + j, none⟩ = some d) ∧ R t ds
theorem RM.keep {α : Type} {n : Nat} {P Q : Nat → Prop} {w w' : World} {R R' : α → List Value → Prop} (k : KP P w w') (hq : ∀ b, P b → Q b) (hR : ∀ t ds, R t ds → R' t ds) {p : Option Addr} {l : List α} (h : RM n P w R p l) : RM n Q w' R' p l := by
  rcases h with h7 | ⟨b, o, hp, hb, hm⟩
  · exact .inl h7
  · refine .inr ⟨b, o, hp, hq b hb, fun i t' ht => ?_⟩
    obtain ⟨ds, e1, e2, e3⟩ := hm i t' ht
    exact ⟨ds, e1, fun j d hd => (k.cell hb _).trans (e2 j d hd), hR t' ds e3⟩
/-- A fact's four cells. -/
def FaIn (P : Nat → Prop) (w : World) (f : Int × Ty) (cs : List Value) : Prop := ∃ ds, cs = .int .i64 f.1 :: ds ∧ (-9223372036854775808 ≤ f.1 ∧ f.1 ≤ 9223372036854775807) ∧ TyIn P w f.2 ds
theorem FaIn.keep {P Q : Nat → Prop} {w w' : World} (k : KP P w w') (hq : ∀ b, P b → Q b) (f : Int × Ty) (cs : List Value) (h : FaIn P w f cs) : FaIn Q w' f cs := by
  obtain ⟨ds, h1, h2, h3⟩ := h
  exact ⟨ds, h1, h2, TyIn.keep k hq _ _ h3⟩
/-- A type as a value. -/
def cs3 (t : Ty) (pk : Option Addr) (ck : Nat) : Array Value := #[.string (S t.nm), .int .i64 t.n, .slice pk t.ar.length ck]
/-- One of its Args in memory, as the walks read it. -/
theorem tm_of {P : Nat → Prop} {w : World} {e : Ty} {pk : Option Addr} {n ck : Nat} {x y : Value} (hE : TyIn P w e [x, y, .slice pk n ck]) : TM P w pk e.ar := by
  obtain ⟨pk', ck', hcs, _, _, _, hEM⟩ := (TyIn_iff _ _ _ _).1 hE
  simp at hcs
  obtain rfl : pk = pk' := hcs.2.2.1
  exact hEM
theorem tm_at {P : Nat → Prop} {w : World} {l : List Ty} {pk : Option Addr} (hE : TM P w pk l) {i : Nat} (hi : i < l.length) : ∃ b o qk dk, pk = some ⟨b, o, none⟩ ∧ P b ∧ TyIn P w l[i] [.string (S l[i].nm), .int .i64 l[i].n, .slice qk l[i].ar.length dk] ∧
    w.cell? ⟨b, o + i * 3, none⟩ = some (.string (S l[i].nm)) ∧ w.cell? ⟨b, o + i * 3 + 1, none⟩ = some (.int .i64 l[i].n) ∧ w.cell? ⟨b, o + i * 3 + 2, none⟩ = some (.slice qk l[i].ar.length dk) := by
  rcases hE with h | ⟨b, o, hp, hb, hm⟩
  · rw [h] at hi; simp at hi
  · obtain ⟨ds, h1, h2, h3⟩ := hm i l[i] (by simp)
    obtain ⟨qk, dk, rfl, _⟩ := (TyIn_iff _ _ _ _).1 h3
    exact ⟨b, o, qk, dk, hp, hb, h3, h2 0 _ rfl, h2 1 _ rfl, h2 2 _ rfl⟩
theorem kid_at {P : Nat → Prop} {w : World} {e : Ty} {pk : Option Addr} {ck : Nat} (hE : TyIn P w e [.string (S e.nm), .int .i64 e.n, .slice pk e.ar.length ck]) {i : Nat} (hi : i < e.ar.length) : ∃ b o qk dk, pk = some ⟨b, o, none⟩ ∧ P b ∧ TyIn P w e.ar[i] [.string (S e.ar[i].nm), .int .i64 e.ar[i].n, .slice qk e.ar[i].ar.length dk] ∧
    w.cell? ⟨b, o + i * 3, none⟩ = some (.string (S e.ar[i].nm)) ∧ w.cell? ⟨b, o + i * 3 + 1, none⟩ = some (.int .i64 e.ar[i].n) ∧ w.cell? ⟨b, o + i * 3 + 2, none⟩ = some (.slice qk e.ar[i].ar.length dk) := tm_at (tm_of hE) hi
theorem TyIn.len {P : Nat → Prop} {w : World} {e : Ty} {cs : List Value} (h : TyIn P w e cs) : e.ar.length ≤ 9223372036854775807 := by
  obtain ⟨pk', ck', _, _, _, h5, _⟩ := (TyIn_iff _ _ _ _).1 h
  exact Nat.le_trans h5.1 h5.2.1
theorem TyIn.bds {P : Nat → Prop} {w : World} {e : Ty} {cs : List Value} (h : TyIn P w e cs) : e.nm.length ≤ 281474976710656 ∧ (-9223372036854775808 ≤ e.n ∧ e.n ≤ 9223372036854775807) := by
  obtain ⟨pk', ck', _, h2, h3, h5, _⟩ := (TyIn_iff _ _ _ _).1 h
  exact ⟨h2, h3⟩
theorem sum_take {α : Type} (f : α → Nat) {l : List α} {i : Nat} (h : i < l.length) : ((l.take (i + 1)).map f).sum = ((l.take i).map f).sum + f l[i] := by
  rw [List.take_succ_eq_append_getElem h]
  simp only [List.map_append, List.sum_append, List.map_cons, List.map_nil, List.sum_cons, List.sum_nil, Nat.add_zero]
theorem sum_take_le {α : Type} (f : α → Nat) (l : List α) (i : Nat) : ((l.take i).map f).sum ≤ (l.map f).sum := by
  have h : (l.map f).sum = ((l.take i).map f).sum + ((l.drop i).map f).sum := by rw [← List.sum_append, ← List.map_append, List.take_append_drop]
  omega
theorem all_take {α : Type} (p : α → Bool) {l : List α} {i : Nat} (h : i < l.length) : (l.take (i + 1)).all p = ((l.take i).all p && p l[i]) := by
  rw [List.take_succ_eq_append_getElem h, List.all_append]; simp
end Go.Proofs.YteoflpalmckikaaDoor
