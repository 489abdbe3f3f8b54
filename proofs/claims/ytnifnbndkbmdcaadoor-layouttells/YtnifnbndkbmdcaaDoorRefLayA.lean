/-
  THE WALK OF dawdlerref03.Layout: the call's own blocks; the walk of no tokens.
-/
import Derived.Test.YtnifnbndkbmdcaaDoorRefBeh2
namespace Go.Proofs.YtnifnbndkbmdcaaDoor
open Go.RowKit
set_option linter.unusedVariables false
/-- A block of two slices holds no number. -/
theorem two_slices {b : Nat} {p1 p2 : Option Addr} {n1 c1 n2 c2 : Nat} {t : TypeId} {W : World} (h : Hold b #[.slice p1 n1 c1, .slice p2 n2 c2] t W) (i : Nat) (x : Int) : W.cell? ⟨b, i, none⟩ ≠ some (.int .i64 x) := by
  rw [h.cell i]
  match i with
  | 0 => simp
  | 1 => simp
  | i + 2 => simp
theorem TMem.two {w : World} {p : Option Addr} {l : List Tok} {b : Nat} {p1 p2 : Option Addr} {n1 c1 n2 c2 : Nat} {t : TypeId} (h : TMem w p l) (hb : Hold b #[.slice p1 n1 c1, .slice p2 n2 c2] t w) (i : Nat) (v : Value) : TMem (w.setCell ⟨b, i, none⟩ v) p l := by
  cases l with
  | nil => exact .inl rfl
  | cons t0 r =>
    rcases h with h | ⟨g, o, rfl, hg, hc⟩
    · cases h
    · have hne : g ≠ b := by
        rintro rfl
        exact two_slices hb _ _ (hc 0 t0 rfl).1
      have e : ∀ j, (w.setCell ⟨b, i, none⟩ v).cell? ⟨g, j, none⟩ = w.cell? ⟨g, j, none⟩ := fun j => World.cell?_of_block (Below.heap_setCell _ _ _ g hne)
      exact .inr ⟨g, o, rfl, by simpa using hg, fun k t ht => by rw [e, e, e, e, e]; exact hc k t ht⟩
theorem IMem.two {w : World} {p : Option Addr} {l : List Int} {b : Nat} {p1 p2 : Option Addr} {n1 c1 n2 c2 : Nat} {t : TypeId} (h : IMem w p l) (hb : Hold b #[.slice p1 n1 c1, .slice p2 n2 c2] t w) (i : Nat) (v : Value) : IMem (w.setCell ⟨b, i, none⟩ v) p l := by
  cases l with
  | nil => exact .inl rfl
  | cons t0 r =>
    rcases h with h | ⟨g, o, rfl, hg, hc⟩
    · cases h
    · have hne : g ≠ b := by
        rintro rfl
        exact two_slices hb _ _ (hc 0 t0 rfl)
      have e : ∀ j, (w.setCell ⟨b, i, none⟩ v).cell? ⟨g, j, none⟩ = w.cell? ⟨g, j, none⟩ := fun j => World.cell?_of_block (Below.heap_setCell _ _ _ g hne)
      exact .inr ⟨g, o, rfl, by simpa using hg, fun k x hx => by rw [e]; exact hc k x hx⟩
/-- A place's block holds no text: so no token lies there. -/
theorem TMem.place {w : World} {p : Option Addr} {l : List Tok} {b : Nat} {x y : Int} {t : TypeId} (h : TMem w p l) (hb : Hold b #[.int .i64 x, .int .i64 y] t w) (i : Nat) (v : Value) : TMem (w.setCell ⟨b, i, none⟩ v) p l := by
  cases l with
  | nil => exact .inl rfl
  | cons t0 r =>
    rcases h with h | ⟨g, o, rfl, hg, hc⟩
    · cases h
    · have hne : g ≠ b := by
        rintro rfl
        have h1 := (hc 0 t0 rfl).2.1
        rw [hb.cell] at h1
        match o with
        | 0 => simp at h1
        | 1 => simp at h1
        | o + 2 => simp at h1
      have e : ∀ j, (w.setCell ⟨b, i, none⟩ v).cell? ⟨g, j, none⟩ = w.cell? ⟨g, j, none⟩ := fun j => World.cell?_of_block (Below.heap_setCell _ _ _ g hne)
      exact .inr ⟨g, o, rfl, by simpa using hg, fun k t ht => by rw [e, e, e, e, e]; exact hc k t ht⟩
theorem RS.two {w : World} {po : Option Addr} {co : Nat} {pi : Option Addr} {ci : Nat} {o : List Tok} {st : List Blk} {b : Nat} {p1 p2 : Option Addr} {n1 c1 n2 c2 : Nat} {t : TypeId} (h : RS w po co pi ci o st) (hb : Hold b #[.slice p1 n1 c1, .slice p2 n2 c2] t w) (i : Nat) (v : Value) : RS (w.setCell ⟨b, i, none⟩ v) po co pi ci o st :=
  ⟨h.out.two hb i v, h.opn.two hb i v, h.cap, h.no, h.ni⟩
/-- The call's own blocks: the place, the state. -/
structure LH (q : Nat) (W : World) (po : Option Addr) (co : Nat) (pi : Option Addr) (ci : Nat) (o : List Tok) (st : List Blk) : Prop where
  pl : Hold q #[.int .i64 0, .int .i64 0] 25 W
  s : Hold (q + 1) #[.slice po o.length co, .slice pi st.length ci] 50 W
  rs : RS W po co pi ci o st
theorem LH.below {q : Nat} {W W' : World} {po : Option Addr} {co : Nat} {pi : Option Addr} {ci : Nat} {o : List Tok} {st : List Blk} (h : LH q W po co pi ci o st) (hb : Below W.heap.size W W') : LH q W' po co pi ci o st :=
  ⟨h.pl.below hb h.pl.lt, h.s.below hb h.s.lt, h.rs.below hb⟩
theorem LH.hi {q : Nat} {W : World} {po : Option Addr} {co : Nat} {pi : Option Addr} {ci : Nat} {o : List Tok} {st : List Blk} (h : LH q W po co pi ci o st) : q + 2 ≤ W.heap.size := h.s.lt
theorem LH.store {q : Nat} {W : World} {po : Option Addr} {co : Nat} {pi : Option Addr} {ci : Nat} {o : List Tok} {st : List Blk} {po' : Option Addr} {co' : Nat} {pi' : Option Addr} {ci' : Nat} {o' : List Tok} {st' : List Blk} (h : LH q W po co pi ci o st) (hr : RS W po' co' pi' ci' o' st') (n m : Nat) (hn : o'.length = n) (hm : st'.length = m) :
    LH q ((W.setCell ⟨q + 1, 0, none⟩ (.slice po' n co')).setCell ⟨q + 1, 1, none⟩ (.slice pi' m ci')) po' co' pi' ci' o' st' := by
  subst hn hm
  have h1 := h.s.set 0 (.slice po' o'.length co')
  exact ⟨(h.pl.other (by omega) 0 _).other (by omega) 1 _, h1.set 1 (.slice pi' st'.length ci'), (hr.two h.s 0 _).two (show Hold (q + 1) #[.slice po' o'.length co', .slice pi st.length ci] 50 _ from h1) 1 _⟩
/-- One of the blocks beyond those is as it was. -/
theorem Hold.store {b : Nat} {C : Array Value} {t : TypeId} {W : World} {q : Nat} (h : Hold b C t W) (hb : b ≠ q + 1) (u v : Value) : Hold b C t ((W.setCell ⟨q + 1, 0, none⟩ u).setCell ⟨q + 1, 1, none⟩ v) := (h.other hb 0 _).other hb 1 _
set_option maxRecDepth 20000 in
set_option maxHeartbeats 2000000 in
theorem layref_nil (p : Option Addr) (c : Nat) (w : World) :
    Calls Tryd.prog 10 #[.slice p 0 c] w fun e W' => ∃ pa cp, e = .returned (.tuple #[.slice pa (layM []).1.length cp, .agg #[.int .i64 (layM []).2.1.1, .int .i64 (layM []).2.1.2], .int .i64 (layM []).2.2]) ∧ TMem W' pa (layM []).1 ∧ Below w.heap.size w W' := by
  unfold layM
  have P0 := Hold.new w #[.int .i64 0, .int .i64 0] 25
  have P1 := P0.alloc (.cells #[.slice none 0 0, .slice none 0 0] 50)
  have S1 := Hold.new (w.alloc (.cells #[.int .i64 0, .int .i64 0] 25)) #[.slice none 0 0, .slice none 0 0] 50
  have B1 := ((Below.refl _ w).alloc (Nat.le_refl _) (.cells #[.int .i64 0, .int .i64 0] 25)).alloc (by simp) (.cells #[.slice none 0 0, .slice none 0 0] 50)
  rw [World.size_alloc] at S1
  have hR : RS ((w.alloc (.cells #[.int .i64 0, .int .i64 0] 25)).alloc (.cells #[.slice none 0 0, .slice none 0 0] 50)) none 0 none 0 [] [] := ⟨.inl rfl, .inl rfl, Nat.le_refl _, fun _ => rfl, fun _ => rfl⟩
  have LA := hide (last_ref [] [] none 0 none 0 _ hR (by simp))
  have d0 : ((w.alloc (.cells #[.int .i64 0, .int .i64 0] 25)).alloc (.cells #[.slice none 0 0, .slice none 0 0] 50)).cell? ⟨w.heap.size + 1, 0, none⟩ = some (.slice none 0 0) := S1.cell 0
  have d1 : ((w.alloc (.cells #[.int .i64 0, .int .i64 0] 25)).alloc (.cells #[.slice none 0 0, .slice none 0 0] 50)).cell? ⟨w.heap.size + 1, 1, none⟩ = some (.slice none 0 0) := S1.cell 1
  unfold lastI at LA
  clear hR P0
  go_enter Tryd.func10, Tryd.ntmps10
  go_wp2_with fail
  generalize ((w.alloc (.cells #[.int .i64 0, .int .i64 0] 25)).alloc (.cells #[.slice none 0 0, .slice none 0 0] 50)) = W1 at *
  go_loopg [7] 0 (fun gk i wr => i = .int .i64 0 ∧ W1 = wr)
  case atStart => exact ⟨rfl, rfl⟩
  case round =>
    obtain ⟨rfl, rfl⟩ := hrel
    go_wp2_with fail
    go_loopg [] 0 (fun gk wr => W1 = wr)
    case atStart => rfl
    case round =>
      subst hrel
      go_wp2_with fail
      refine LA.out.mono ?_
      rintro e W2 ⟨rfl, b2⟩
      have P2 := P1.below b2 P1.lt
      have S2 := S1.below b2 S1.lt
      have e0 : W2.cell? ⟨w.heap.size + 1, 0, none⟩ = some (.slice none 0 0) := S2.cell 0
      have e1 : W2.cell? ⟨w.heap.size + 1, 1, none⟩ = some (.slice none 0 0) := S2.cell 1
      have f0 : W2.cell? ⟨w.heap.size, 0, none⟩ = some (.int .i64 0) := P2.cell 0
      have f1 : W2.cell? ⟨w.heap.size, 1, none⟩ = some (.int .i64 0) := P2.cell 1
      have f2 := P2.frozen 0
      have f3 := P2.frozen 1
      have HB2 := hide (B1.trans (b2.mono B1.size))
      clear P1 S1 B1 b2 d0 d1 LA
      go_wp2_with fail
      exact bodyPost_ret (v := .tuple #[.slice none 0 0, .agg #[.int .i64 0, .int .i64 0], .int .i64 0]) (by simp only [results, Tryd.results10]; go_simp) rfl ⟨none, 0, rfl, .inl rfl, (HB2.out.setCell (by simp) _).setCell (by simp) _⟩
end Go.Proofs.YtnifnbndkbmdcaaDoor
