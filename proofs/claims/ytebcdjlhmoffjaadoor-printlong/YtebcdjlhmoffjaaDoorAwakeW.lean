/-
  HOW THE TREES AND PROGRAMS at the head of the statements of layer 5 lie in memory, and what the calls with them answer.
-/
import Derived.Test.YtebcdjlhmoffjaaDoorAwakeM
namespace Go.Proofs.YtebcdjlhmoffjaaDoor
open Go.RowKit
set_option linter.unusedVariables false
set_option linter.unusedSimpArgs false
theorem flat_at {n : Nat} : ∀ (dss : List (List Value)) (i j : Nat) (ds : List Value) (d : Value), (∀ ds ∈ dss, ds.length = n) → dss[i]? = some ds → ds[j]? = some d → dss.flatten[i * n + j]? = some d := by
  intro dss
  induction dss with
  | nil => intro i j ds d _ h; simp at h
  | cons a r ih =>
    intro i j ds d hn h hd
    have ha : a.length = n := hn a (by simp)
    cases i with
    | zero =>
      simp at h
      subst h
      rw [List.flatten_cons, Nat.zero_mul, Nat.zero_add, List.getElem?_append_left (by have := (List.getElem?_eq_some_iff.1 hd).1; omega)]
      exact hd
    | succ i =>
      rw [List.flatten_cons, List.getElem?_append_right (by rw [ha, Nat.succ_mul]; omega), ha, show (i + 1) * n + j - n = i * n + j by rw [Nat.succ_mul]; omega]
      exact ih i j ds d (fun x hx => hn x (by simp [hx])) (by simpa using h) hd
theorem rm_hold {α : Type} {n : Nat} {P : Nat → Prop} {w : World} {R : α → List Value → Prop} {b : Nat} {C : Array Value} {ty : TypeId} {l : List α} (dss : List (List Value)) (hb : P b) (hH : Hold b C ty w) (hC : C.toList = dss.flatten) (hn : ∀ ds ∈ dss, ds.length = n) (hl : l.length = dss.length) (hT : ∀ (i : Nat) t ds, l[i]? = some t → dss[i]? = some ds → R t ds) : RM n P w R (some ⟨b, 0, none⟩) l := by
  refine .inr ⟨b, 0, rfl, hb, fun i t ht => ?_⟩
  have hi : i < dss.length := by have := (List.getElem?_eq_some_iff.1 ht).1; omega
  refine ⟨dss[i], hn _ (by simp), fun j d hd => ?_, hT i t _ ht (by simp)⟩
  rw [hH.cell, ← Array.getElem?_toList, hC, Nat.zero_add]
  exact flat_at dss i j _ d hn (by simp) hd
theorem all1 {α : Type} {β : Type} {R : α → β → Prop} {a : α} {x : β} (h : R a x) : ∀ (i : Nat) t ds, [a][i]? = some t → [x][i]? = some ds → R t ds := by
  intro i t ds h1 h2
  cases i with
  | zero => simp at h1 h2; subst h1; subst h2; exact h
  | succ i => simp at h1
theorem all2 {α : Type} {β : Type} {R : α → β → Prop} {a b : α} {x y : β} (h : R a x) (h' : R b y) : ∀ (i : Nat) t ds, [a, b][i]? = some t → [x, y][i]? = some ds → R t ds := by
  intro i t ds h1 h2
  rcases i with _ | _ | i
  · simp at h1 h2; subst h1; subst h2; exact h
  · simp at h1 h2; subst h1; subst h2; exact h'
  · simp at h1
theorem alloc_step {W : World} {n : Nat} (hs : W.heap.size = n) (C : Array Value) (t : TypeId) : Hold n C t (W.alloc (.cells C t)) ∧ (W.alloc (.cells C t)).heap.size = n + 1 := by
  subst hs
  exact ⟨Hold.new W C t, by simp⟩
theorem slok {p : Option Addr} {n : Nat} (h : p = none → n = 0) (hn : n ≤ 1000) : SlOK p n n := ⟨Nat.le_refl _, by omega, h⟩
theorem sm_one {P : Nat → Prop} {w : World} {b : Nat} {ty : TypeId} {s : List UInt8} (hb : P b) (hs : s.length ≤ 1000) (hH : Hold b #[.string (S s)] ty w) : SM P w (some ⟨b, 0, none⟩) [s] := by
  refine .inr ⟨b, 0, rfl, hb, fun i t ht => ?_⟩
  cases i with
  | zero =>
    simp at ht
    subst ht
    exact ⟨by omega, hH.cell 0⟩
  | succ i => simp at ht
/-- A tree without names and Kids. -/
theorem trIn_leaf {P : Nat → Prop} {w : World} (k : Int) (s : List UInt8) (hs : s.length ≤ 1000) : TrIn P w ⟨k, s, 0, [], []⟩ [.int .i64 k, .string (S s), .int .i64 0, .slice none 0 0, .slice none 0 0] :=
  (TrIn_iff _ _ _ _).2 ⟨none, 0, none, 0, rfl, by show s.length ≤ _; omega, by show -9223372036854775808 ≤ (0 : Int) ∧ (0 : Int) ≤ 9223372036854775807; omega, slok (fun _ => rfl) (by simp), slok (fun _ => rfl) (by simp), .inl rfl, .inl rfl⟩
abbrev cX : List Value := [.int .i64 2, .string ⟨#[120]⟩, .int .i64 0, .slice none 0 0, .slice none 0 0]
abbrev cF : List Value := [.int .i64 2, .string ⟨#[102]⟩, .int .i64 0, .slice none 0 0, .slice none 0 0]
theorem in_X {P : Nat → Prop} {w : World} : TrIn P w tX cX := trIn_leaf 2 [120] (by decide)
theorem in_F {P : Nat → Prop} {w : World} : TrIn P w tF cF := trIn_leaf 2 [102] (by decide)
/-- An application of two trees that lie in a block. -/
theorem in_app {P : Nat → Prop} {w : World} {b : Nat} {x y : Tr} {cx cy : List Value} {C : Array Value} (hb : P b) (hH : Hold b C 25 w) (hC : C.toList = cx ++ cy) (hx : TrIn P w x cx) (hy : TrIn P w y cy) (lx : cx.length = 5) (ly : cy.length = 5) : TrIn P w ⟨5, [], 0, [], [x, y]⟩ [.int .i64 5, .string ⟨#[]⟩, .int .i64 0, .slice none 0 0, .slice (some ⟨b, 0, none⟩) 2 2] :=
  (TrIn_iff _ _ _ _).2 ⟨none, 0, some ⟨b, 0, none⟩, 2, rfl, by simp, by simp, slok (fun _ => rfl) (by simp), slok (fun h => by cases h) (by simp), .inl rfl, rm_hold (n := 5) (R := TrIn P w) [cx, cy] hb hH (by simp [hC]) (by simp [lx, ly]) rfl (all2 hx hy)⟩
abbrev cE (n : Nat) : List Value := [.int .i64 4, .string ⟨#[]⟩, .int .i64 0, .slice (some ⟨n + 1 + 1, 0, none⟩) 1 1, .slice (some ⟨n + 1 + 1 + 1 + 1 + 1, 0, none⟩) 1 1]
/-- The first tree, once it is laid. -/
def aw1 (w : World) : World :=
  (((((((w.alloc (.cells #[.int .i64 2, .string ⟨#[120]⟩, .int .i64 0, .slice none 0 0, .slice none 0 0] 25)).alloc (.cells #[.int .i64 2, .string ⟨#[102]⟩, .int .i64 0, .slice none 0 0, .slice none 0 0] 25)).alloc (.cells #[.string ⟨#[120]⟩] 9)).alloc
    (.cells #[.int .i64 2, .string ⟨#[102]⟩, .int .i64 0, .slice none 0 0, .slice none 0 0, .int .i64 2, .string ⟨#[120]⟩, .int .i64 0, .slice none 0 0, .slice none 0 0] 25)).alloc
    (.cells #[.int .i64 2, .string ⟨#[102]⟩, .int .i64 0, .slice none 0 0, .slice none 0 0, .int .i64 5, .string ⟨#[]⟩, .int .i64 0, .slice none 0 0, .slice (some ⟨w.heap.size + 1 + 1 + 1, 0, none⟩) 2 2] 25)).alloc
    (.cells #[.int .i64 5, .string ⟨#[]⟩, .int .i64 0, .slice none 0 0, .slice (some ⟨w.heap.size + 1 + 1 + 1 + 1, 0, none⟩) 2 2] 25)).alloc
    (.cells #[.int .i64 4, .string ⟨#[]⟩, .int .i64 0, .slice (some ⟨w.heap.size + 1 + 1, 0, none⟩) 1 1, .slice (some ⟨w.heap.size + 1 + 1 + 1 + 1 + 1, 0, none⟩) 1 1] 25))
theorem aw1_all (w : World) : Below w.heap.size w (aw1 w) ∧ Hold w.heap.size cX.toArray 25 (aw1 w) ∧ Hold (w.heap.size + 1 + 1 + 1 + 1 + 1 + 1) (cE w.heap.size).toArray 25 (aw1 w) ∧ (aw1 w).heap.size = w.heap.size + 1 + 1 + 1 + 1 + 1 + 1 + 1 ∧ TrIn (fun b => w.heap.size ≤ b ∧ b < w.heap.size + 7) (aw1 w) tE (cE w.heap.size) := by
  unfold aw1
  obtain ⟨h1, s1⟩ := alloc_step (W := w) rfl #[.int .i64 2, .string ⟨#[120]⟩, .int .i64 0, .slice none 0 0, .slice none 0 0] 25
  obtain ⟨h2, s2⟩ := alloc_step s1 #[.int .i64 2, .string ⟨#[102]⟩, .int .i64 0, .slice none 0 0, .slice none 0 0] 25
  obtain ⟨h3, s3⟩ := alloc_step s2 #[.string ⟨#[120]⟩] 9
  obtain ⟨h4, s4⟩ := alloc_step s3 #[.int .i64 2, .string ⟨#[102]⟩, .int .i64 0, .slice none 0 0, .slice none 0 0, .int .i64 2, .string ⟨#[120]⟩, .int .i64 0, .slice none 0 0, .slice none 0 0] 25
  obtain ⟨h5, s5⟩ := alloc_step s4 #[.int .i64 2, .string ⟨#[102]⟩, .int .i64 0, .slice none 0 0, .slice none 0 0, .int .i64 5, .string ⟨#[]⟩, .int .i64 0, .slice none 0 0, .slice (some ⟨w.heap.size + 1 + 1 + 1, 0, none⟩) 2 2] 25
  obtain ⟨h6, s6⟩ := alloc_step s5 #[.int .i64 5, .string ⟨#[]⟩, .int .i64 0, .slice none 0 0, .slice (some ⟨w.heap.size + 1 + 1 + 1 + 1, 0, none⟩) 2 2] 25
  obtain ⟨h7, s7⟩ := alloc_step s6 #[.int .i64 4, .string ⟨#[]⟩, .int .i64 0, .slice (some ⟨w.heap.size + 1 + 1, 0, none⟩) 1 1, .slice (some ⟨w.heap.size + 1 + 1 + 1 + 1 + 1, 0, none⟩) 1 1] 25
  refine ⟨((((((((Below.refl _ w).alloc (by omega) _).alloc (by omega) _).alloc (by omega) _).alloc (by omega) _).alloc (by omega) _).alloc (by omega) _).alloc (by omega) _), ((((((h1.alloc _).alloc _).alloc _).alloc _).alloc _).alloc _), h7, s7, ?_⟩
  have H3 := ((((h3.alloc (.cells #[.int .i64 2, .string ⟨#[102]⟩, .int .i64 0, .slice none 0 0, .slice none 0 0, .int .i64 2, .string ⟨#[120]⟩, .int .i64 0, .slice none 0 0, .slice none 0 0] 25)).alloc (.cells #[.int .i64 2, .string ⟨#[102]⟩, .int .i64 0, .slice none 0 0, .slice none 0 0, .int .i64 5, .string ⟨#[]⟩, .int .i64 0, .slice none 0 0, .slice (some ⟨w.heap.size + 1 + 1 + 1, 0, none⟩) 2 2] 25)).alloc (.cells #[.int .i64 5, .string ⟨#[]⟩, .int .i64 0, .slice none 0 0, .slice (some ⟨w.heap.size + 1 + 1 + 1 + 1, 0, none⟩) 2 2] 25)).alloc (.cells #[.int .i64 4, .string ⟨#[]⟩, .int .i64 0, .slice (some ⟨w.heap.size + 1 + 1, 0, none⟩) 1 1, .slice (some ⟨w.heap.size + 1 + 1 + 1 + 1 + 1, 0, none⟩) 1 1] 25))
  have H4 := (((h4.alloc (.cells #[.int .i64 2, .string ⟨#[102]⟩, .int .i64 0, .slice none 0 0, .slice none 0 0, .int .i64 5, .string ⟨#[]⟩, .int .i64 0, .slice none 0 0, .slice (some ⟨w.heap.size + 1 + 1 + 1, 0, none⟩) 2 2] 25)).alloc (.cells #[.int .i64 5, .string ⟨#[]⟩, .int .i64 0, .slice none 0 0, .slice (some ⟨w.heap.size + 1 + 1 + 1 + 1, 0, none⟩) 2 2] 25)).alloc (.cells #[.int .i64 4, .string ⟨#[]⟩, .int .i64 0, .slice (some ⟨w.heap.size + 1 + 1, 0, none⟩) 1 1, .slice (some ⟨w.heap.size + 1 + 1 + 1 + 1 + 1, 0, none⟩) 1 1] 25))
  have H5 := ((h5.alloc (.cells #[.int .i64 5, .string ⟨#[]⟩, .int .i64 0, .slice none 0 0, .slice (some ⟨w.heap.size + 1 + 1 + 1 + 1, 0, none⟩) 2 2] 25)).alloc (.cells #[.int .i64 4, .string ⟨#[]⟩, .int .i64 0, .slice (some ⟨w.heap.size + 1 + 1, 0, none⟩) 1 1, .slice (some ⟨w.heap.size + 1 + 1 + 1 + 1 + 1, 0, none⟩) 1 1] 25))
  have H6 := h6.alloc (.cells #[.int .i64 4, .string ⟨#[]⟩, .int .i64 0, .slice (some ⟨w.heap.size + 1 + 1, 0, none⟩) 1 1, .slice (some ⟨w.heap.size + 1 + 1 + 1 + 1 + 1, 0, none⟩) 1 1] 25)
  generalize (World.alloc _ (.cells #[.int .i64 4, .string ⟨#[]⟩, .int .i64 0, .slice (some ⟨w.heap.size + 1 + 1, 0, none⟩) 1 1, .slice (some ⟨w.heap.size + 1 + 1 + 1 + 1 + 1, 0, none⟩) 1 1] 25)) = W at *
  have hA : TrIn (fun b => w.heap.size ≤ b ∧ b < w.heap.size + 7) W tA [.int .i64 5, .string ⟨#[]⟩, .int .i64 0, .slice none 0 0, .slice (some ⟨w.heap.size + 1 + 1 + 1, 0, none⟩) 2 2] := in_app (cx := cF) (cy := cX) ⟨by omega, by omega⟩ H4 rfl in_F in_X rfl rfl
  have hB : TrIn (fun b => w.heap.size ≤ b ∧ b < w.heap.size + 7) W tB [.int .i64 5, .string ⟨#[]⟩, .int .i64 0, .slice none 0 0, .slice (some ⟨w.heap.size + 1 + 1 + 1 + 1, 0, none⟩) 2 2] := in_app (cx := cF) ⟨by omega, by omega⟩ H5 rfl in_F hA rfl rfl
  exact (TrIn_iff _ _ _ _).2 ⟨some ⟨w.heap.size + 1 + 1, 0, none⟩, 1, some ⟨w.heap.size + 1 + 1 + 1 + 1 + 1, 0, none⟩, 1, rfl, by simp [tE], by simp [tE], slok (fun h => by cases h) (by simp [tE]), slok (fun h => by cases h) (by simp [tE]), sm_one (by constructor <;> omega) (by simp) H3, rm_hold (n := 5) (R := TrIn _ W) [[.int .i64 5, .string ⟨#[]⟩, .int .i64 0, .slice none 0 0, .slice (some ⟨w.heap.size + 1 + 1 + 1 + 1, 0, none⟩) 2 2]] ⟨by omega, by omega⟩ H6 rfl (by simp) rfl (all1 hB)⟩
/-- The program, once it is laid. -/
def aw2 (w : World) : World :=
  ((((((w.alloc (.cells #[.string ⟨#[97]⟩] 9)).alloc (.cells #[.string ⟨#[97]⟩, .slice none 0 0] 46)).alloc (.cells #[.string ⟨#[84]⟩, .slice (some ⟨w.heap.size + 1, 0, none⟩) 1 1] 46)).alloc
    (.cells #[.string ⟨#[65]⟩, .slice (some ⟨w.heap.size + 1 + 1, 0, none⟩) 1 1, .string ⟨#[66]⟩, .slice none 0 0] 47)).alloc
    (.cells #[.string ⟨#[84]⟩, .slice (some ⟨w.heap.size, 0, none⟩) 1 1, .slice (some ⟨w.heap.size + 1 + 1 + 1, 0, none⟩) 2 2] 50)).alloc
    (.cells #[.string ⟨#[102]⟩, .int .i64 2, .string ⟨#[120]⟩, .int .i64 0, .slice none 0 0, .slice none 0 0] 33))
theorem sgIn_leaf {P : Nat → Prop} {w : World} (s : List UInt8) (hs : s.length ≤ 1000) : SgIn P w ⟨s, []⟩ [.string (S s), .slice none 0 0] :=
  (SgIn_iff _ _ _ _).2 ⟨none, 0, rfl, by show s.length ≤ _; omega, slok (fun _ => rfl) (by simp), .inl rfl⟩
theorem aw2_all (w : World) : Below w.heap.size w (aw2 w) ∧ (aw2 w).heap.size = w.heap.size + 1 + 1 + 1 + 1 + 1 + 1 ∧ PL (fun b => w.heap.size ≤ b ∧ b < w.heap.size + 6) (aw2 w) ∧
    PgIn (fun b => w.heap.size ≤ b ∧ b < w.heap.size + 6) (aw2 w) pA [.slice (some ⟨w.heap.size + 1 + 1 + 1 + 1, 0, none⟩) 1 1, .slice (some ⟨w.heap.size + 1 + 1 + 1 + 1 + 1, 0, none⟩) 1 1] := by
  unfold aw2
  obtain ⟨h1, s1⟩ := alloc_step (W := w) rfl #[.string ⟨#[97]⟩] 9
  obtain ⟨h2, s2⟩ := alloc_step s1 #[.string ⟨#[97]⟩, .slice none 0 0] 46
  obtain ⟨h3, s3⟩ := alloc_step s2 #[.string ⟨#[84]⟩, .slice (some ⟨w.heap.size + 1, 0, none⟩) 1 1] 46
  obtain ⟨h4, s4⟩ := alloc_step s3 #[.string ⟨#[65]⟩, .slice (some ⟨w.heap.size + 1 + 1, 0, none⟩) 1 1, .string ⟨#[66]⟩, .slice none 0 0] 47
  obtain ⟨h5, s5⟩ := alloc_step s4 #[.string ⟨#[84]⟩, .slice (some ⟨w.heap.size, 0, none⟩) 1 1, .slice (some ⟨w.heap.size + 1 + 1 + 1, 0, none⟩) 2 2] 50
  obtain ⟨h6, s6⟩ := alloc_step s5 #[.string ⟨#[102]⟩, .int .i64 2, .string ⟨#[120]⟩, .int .i64 0, .slice none 0 0, .slice none 0 0] 33
  have hB : Below w.heap.size w (aw2 w) := (((((((Below.refl _ w).alloc (by omega) _).alloc (by omega) _).alloc (by omega) _).alloc (by omega) _).alloc (by omega) _).alloc (by omega) _)
  unfold aw2 at hB
  have h1 := ((((h1.alloc (.cells #[.string ⟨#[97]⟩, .slice none 0 0] 46)).alloc (.cells #[.string ⟨#[84]⟩, .slice (some ⟨w.heap.size + 1, 0, none⟩) 1 1] 46)).alloc (.cells #[.string ⟨#[65]⟩, .slice (some ⟨w.heap.size + 1 + 1, 0, none⟩) 1 1, .string ⟨#[66]⟩, .slice none 0 0] 47)).alloc (.cells #[.string ⟨#[84]⟩, .slice (some ⟨w.heap.size, 0, none⟩) 1 1, .slice (some ⟨w.heap.size + 1 + 1 + 1, 0, none⟩) 2 2] 50)).alloc (.cells #[.string ⟨#[102]⟩, .int .i64 2, .string ⟨#[120]⟩, .int .i64 0, .slice none 0 0, .slice none 0 0] 33)
  have h2 := (((h2.alloc (.cells #[.string ⟨#[84]⟩, .slice (some ⟨w.heap.size + 1, 0, none⟩) 1 1] 46)).alloc (.cells #[.string ⟨#[65]⟩, .slice (some ⟨w.heap.size + 1 + 1, 0, none⟩) 1 1, .string ⟨#[66]⟩, .slice none 0 0] 47)).alloc (.cells #[.string ⟨#[84]⟩, .slice (some ⟨w.heap.size, 0, none⟩) 1 1, .slice (some ⟨w.heap.size + 1 + 1 + 1, 0, none⟩) 2 2] 50)).alloc (.cells #[.string ⟨#[102]⟩, .int .i64 2, .string ⟨#[120]⟩, .int .i64 0, .slice none 0 0, .slice none 0 0] 33)
  have h3 := ((h3.alloc (.cells #[.string ⟨#[65]⟩, .slice (some ⟨w.heap.size + 1 + 1, 0, none⟩) 1 1, .string ⟨#[66]⟩, .slice none 0 0] 47)).alloc (.cells #[.string ⟨#[84]⟩, .slice (some ⟨w.heap.size, 0, none⟩) 1 1, .slice (some ⟨w.heap.size + 1 + 1 + 1, 0, none⟩) 2 2] 50)).alloc (.cells #[.string ⟨#[102]⟩, .int .i64 2, .string ⟨#[120]⟩, .int .i64 0, .slice none 0 0, .slice none 0 0] 33)
  have h4 := (h4.alloc (.cells #[.string ⟨#[84]⟩, .slice (some ⟨w.heap.size, 0, none⟩) 1 1, .slice (some ⟨w.heap.size + 1 + 1 + 1, 0, none⟩) 2 2] 50)).alloc (.cells #[.string ⟨#[102]⟩, .int .i64 2, .string ⟨#[120]⟩, .int .i64 0, .slice none 0 0, .slice none 0 0] 33)
  have h5 := h5.alloc (.cells #[.string ⟨#[102]⟩, .int .i64 2, .string ⟨#[120]⟩, .int .i64 0, .slice none 0 0, .slice none 0 0] 33)
  generalize (World.alloc _ (.cells #[.string ⟨#[102]⟩, .int .i64 2, .string ⟨#[120]⟩, .int .i64 0, .slice none 0 0, .slice none 0 0] 33)) = W at *
  refine ⟨hB, s6, ?_, ?_⟩
  · rintro b ⟨hb1, hb2⟩
    refine ⟨by omega, ?_⟩
    have hc : b = w.heap.size ∨ b = w.heap.size + 1 ∨ b = w.heap.size + 1 + 1 ∨ b = w.heap.size + 1 + 1 + 1 ∨ b = w.heap.size + 1 + 1 + 1 + 1 ∨ b = w.heap.size + 1 + 1 + 1 + 1 + 1 := by omega
    rcases hc with rfl | rfl | rfl | rfl | rfl | rfl
    · exact ⟨_, _, h1⟩
    · exact ⟨_, _, h2⟩
    · exact ⟨_, _, h3⟩
    · exact ⟨_, _, h4⟩
    · exact ⟨_, _, h5⟩
    · exact ⟨_, _, h6⟩
  · have hT : SgIn (fun b => w.heap.size ≤ b ∧ b < w.heap.size + 6) W sT [.string ⟨#[84]⟩, .slice (some ⟨w.heap.size + 1, 0, none⟩) 1 1] :=
      (SgIn_iff _ _ _ _).2 ⟨some ⟨w.heap.size + 1, 0, none⟩, 1, rfl, by simp [sT], slok (fun h => by cases h) (by simp [sT]), rm_hold (n := 2) (R := SgIn _ W) [[.string ⟨#[97]⟩, .slice none 0 0]] ⟨by omega, by omega⟩ h2 rfl (by simp) rfl (all1 (sgIn_leaf [97] (by simp)))⟩
    have hfA : FmIn (fun b => w.heap.size ≤ b ∧ b < w.heap.size + 6) W fA [.string ⟨#[65]⟩, .slice (some ⟨w.heap.size + 1 + 1, 0, none⟩) 1 1] :=
      ⟨some ⟨w.heap.size + 1 + 1, 0, none⟩, 1, rfl, by simp [fA], slok (fun h => by cases h) (by simp [fA]), rm_hold (n := 2) (R := SgIn _ W) [[.string ⟨#[84]⟩, .slice (some ⟨w.heap.size + 1, 0, none⟩) 1 1]] ⟨by omega, by omega⟩ h3 rfl (by simp) rfl (all1 hT)⟩
    have hfB : FmIn (fun b => w.heap.size ≤ b ∧ b < w.heap.size + 6) W fB [.string ⟨#[66]⟩, .slice none 0 0] := ⟨none, 0, rfl, by simp [fB], slok (fun h => rfl) (by simp [fB]), .inl rfl⟩
    have hdT : DtIn (fun b => w.heap.size ≤ b ∧ b < w.heap.size + 6) W dT [.string ⟨#[84]⟩, .slice (some ⟨w.heap.size, 0, none⟩) 1 1, .slice (some ⟨w.heap.size + 1 + 1 + 1, 0, none⟩) 2 2] :=
      ⟨some ⟨w.heap.size, 0, none⟩, 1, some ⟨w.heap.size + 1 + 1 + 1, 0, none⟩, 2, rfl, by simp [dT], slok (fun h => by cases h) (by simp [dT]), slok (fun h => by cases h) (by simp [dT]), sm_one (by constructor <;> omega) (by simp) h1, rm_hold (n := 2) [[.string ⟨#[65]⟩, .slice (some ⟨w.heap.size + 1 + 1, 0, none⟩) 1 1], [.string ⟨#[66]⟩, .slice none 0 0]] ⟨by omega, by omega⟩ h4 rfl (by simp) rfl (all2 hfA hfB)⟩
    exact ⟨some ⟨w.heap.size + 1 + 1 + 1 + 1, 0, none⟩, 1, some ⟨w.heap.size + 1 + 1 + 1 + 1 + 1, 0, none⟩, 1, rfl, slok (fun h => by cases h) (by simp [pA]), slok (fun h => by cases h) (by simp [pA]), rm_hold (n := 3) [_] ⟨by omega, by omega⟩ h5 rfl (by simp) rfl (all1 hdT), rm_hold (n := 6) [.string ⟨#[102]⟩ :: cX] ⟨by omega, by omega⟩ h6 rfl (by simp) rfl (all1 ⟨cX, rfl, by simp, in_X⟩)⟩
theorem aw3_all (w : World) : PL (fun b => b = w.heap.size) (w.alloc (.cells #[.string ⟨#[]⟩, .int .i64 0, .string ⟨#[]⟩, .int .i64 0, .slice none 0 0, .slice none 0 0] 33)) ∧
    PgIn (fun b => b = w.heap.size) (w.alloc (.cells #[.string ⟨#[]⟩, .int .i64 0, .string ⟨#[]⟩, .int .i64 0, .slice none 0 0, .slice none 0 0] 33)) pB [.slice none 0 0, .slice (some ⟨w.heap.size, 0, none⟩) 1 1] := by
  obtain ⟨h1, s1⟩ := alloc_step (W := w) rfl #[.string ⟨#[]⟩, .int .i64 0, .string ⟨#[]⟩, .int .i64 0, .slice none 0 0, .slice none 0 0] 33
  refine ⟨fun b hb => ⟨by omega, by subst hb; exact ⟨_, _, h1⟩⟩, none, 0, some ⟨w.heap.size, 0, none⟩, 1, rfl, slok (fun h => rfl) (by simp [pB]), slok (fun h => by cases h) (by simp [pB]), .inl rfl, rm_hold (n := 6) [[.string ⟨#[]⟩, .int .i64 0, .string ⟨#[]⟩, .int .i64 0, .slice none 0 0, .slice none 0 0]] rfl h1 rfl (by simp) rfl (all1 ⟨_, rfl, by simp, trIn_leaf 0 [] (by simp)⟩)⟩
theorem aw4_all (w : World) : SgIn (fun b => b < w.heap.size + 1) (w.alloc (.cells #[.string ⟨#[97]⟩, .slice none 0 0, .string ⟨#[98]⟩, .slice none 0 0] 46)) sAr [.string ⟨#[45, 62]⟩, .slice (some ⟨w.heap.size, 0, none⟩) 2 2] := by
  obtain ⟨h1, s1⟩ := alloc_step (W := w) rfl #[.string ⟨#[97]⟩, .slice none 0 0, .string ⟨#[98]⟩, .slice none 0 0] 46
  exact (SgIn_iff _ _ _ _).2 ⟨some ⟨w.heap.size, 0, none⟩, 2, rfl, by simp [sAr], slok (fun h => by cases h) (by simp [sAr]), rm_hold (n := 2) (R := SgIn _ _) [[.string ⟨#[97]⟩, .slice none 0 0], [.string ⟨#[98]⟩, .slice none 0 0]] (by omega) h1 rfl (by simp) rfl (all2 (sgIn_leaf [97] (by simp)) (sgIn_leaf [98] (by simp)))⟩
/-- The calls. -/
theorem gp_below {w W : World} (hG : GP (fun b => b < w.heap.size) w) (hb : Below w.heap.size w W) : GP (fun b => b < W.heap.size) W := hG.keep (KP.of_below hb fun b hb => hb) (fun b hb' => Nat.lt_of_lt_of_le hb' hb.size)
theorem call1 (w : World) (hG : GP (fun b => b < w.heap.size) w) : Calls Tryd.prog 8 #[.agg (cE w.heap.size).toArray] (aw1 w) fun r w' => r = .returned (.tuple #[.string ⟨#[92, 120, 32, 45, 62, 32, 102, 32, 40, 102, 32, 120, 41]⟩, .int .i64 0]) ∧ Below (aw1 w).heap.size (aw1 w) w' := by
  obtain ⟨hb, _, _, hs, hT⟩ := aw1_all w
  rw [← av1]
  exact expr_any (e := tE) (gp_below hG hb) (TrIn.keep (KP.refl _ _) (fun b hb => by rw [hs]; omega) _ _ hT) (by rw [po_E]; simp [tE, tB, tA, tF, tX]) (by rw [po_E]; simp [tE, tB, tA, tF, tX])
theorem call2 (w : World) (hG : GP (fun b => b < w.heap.size) w) : Calls Tryd.prog 8 #[.agg #[.int .i64 0, .string ⟨#[]⟩, .int .i64 0, .slice none 0 0, .slice none 0 0]] w fun r w' => r = .returned (.tuple #[.string ⟨#[]⟩, .int .i64 40]) ∧ Below w.heap.size w w' := by
  rw [← av2]
  exact expr_any (e := t0) hG (trIn_leaf 0 [] (by simp)) (by rw [po_0]; simp [t0]) (by rw [po_0]; simp [t0])
theorem call3 (w : World) (hG : GP (fun b => b < w.heap.size) w) : Calls Tryd.prog 9 #[.agg #[.slice (some ⟨w.heap.size + 1 + 1 + 1 + 1, 0, none⟩) 1 1, .slice (some ⟨w.heap.size + 1 + 1 + 1 + 1 + 1, 0, none⟩) 1 1]] (aw2 w) fun r w' => r = .returned (.tuple #[.string ⟨#[123, 32, 100, 97, 116, 97, 32, 84, 32, 97, 32, 61, 32, 65, 32, 40, 84, 32, 97, 41, 32, 124, 32, 66, 32, 59, 32, 102, 32, 61, 32, 120, 32, 125]⟩, .int .i64 0]) ∧ Below (aw2 w).heap.size (aw2 w) w' := by
  obtain ⟨hb, hs, hP, hT⟩ := aw2_all w
  rw [← av3]
  exact prog_any (p := pA) (gp_below hG hb) hP hT (by simp [pA, po_X]; simp [tX]) (by simp [pA, po_X]; simp [tX]) (by simp [pA, dT])
theorem call4 (w : World) (hG : GP (fun b => b < w.heap.size) w) : Calls Tryd.prog 9 #[.agg #[.slice none 0 0, .slice (some ⟨w.heap.size, 0, none⟩) 1 1]] (w.alloc (.cells #[.string ⟨#[]⟩, .int .i64 0, .string ⟨#[]⟩, .int .i64 0, .slice none 0 0, .slice none 0 0] 33)) fun r w' => r = .returned (.tuple #[.string ⟨#[]⟩, .int .i64 40]) ∧ Below (w.alloc (.cells #[.string ⟨#[]⟩, .int .i64 0, .string ⟨#[]⟩, .int .i64 0, .slice none 0 0, .slice none 0 0] 33)).heap.size (w.alloc (.cells #[.string ⟨#[]⟩, .int .i64 0, .string ⟨#[]⟩, .int .i64 0, .slice none 0 0, .slice none 0 0] 33)) w' := by
  obtain ⟨hP, hT⟩ := aw3_all w
  rw [← av4]
  exact prog_any (p := pB) (gp_below hG ((Below.refl _ w).alloc (Nat.le_refl _) _)) hP hT (by simp [pB, po_0]; simp [t0]) (by simp [pB, po_0]; simp [t0]) (by simp [pB])
theorem call5 (w : World) (hG : GP (fun b => b < w.heap.size) w) : Calls Tryd.prog 14 #[.agg #[.string ⟨#[45, 62]⟩, .slice (some ⟨w.heap.size, 0, none⟩) 2 2]] (w.alloc (.cells #[.string ⟨#[97]⟩, .slice none 0 0, .string ⟨#[98]⟩, .slice none 0 0] 46)) fun r w' => r = .returned (.string ⟨#[97, 32, 45, 62, 32, 98]⟩) ∧ Below (w.alloc (.cells #[.string ⟨#[97]⟩, .slice none 0 0, .string ⟨#[98]⟩, .slice none 0 0] 46)).heap.size (w.alloc (.cells #[.string ⟨#[97]⟩, .slice none 0 0, .string ⟨#[98]⟩, .slice none 0 0] 46)) w' := by
  have hT := aw4_all w
  have h := sig_any (s := sAr) (pk := some ⟨w.heap.size, 0, none⟩) (ck := 2) (gp_below hG ((Below.refl _ w).alloc (Nat.le_refl _) _)) (SgIn.keep (KP.refl _ _) (fun b hb => by simpa using hb) _ _ hT) (by rw [pt_Ar]; simp)
  rw [pt_Ar] at h
  exact h
end Go.Proofs.YtebcdjlhmoffjaaDoor
