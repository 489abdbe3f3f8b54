/-
  THE WALK OF dawdlerlaw08's awake.
-/
import Derived.Test.YteoflpalmckikaaDoorAwakeM
import Derived.Test.YteoflpalmckikaaDoorUniP
import Derived.Test.YteoflpalmckikaaDoorTxtP
import Derived.Test.YteoflpalmckikaaDoorSame
namespace Go.Proofs.YteoflpalmckikaaDoor
open Go.RowKit
set_option linter.unusedVariables false
set_option linter.unusedSimpArgs false
theorem texts_nil (w : World) : Calls Tryd.prog 28 #[.slice none 0 0, .slice none 0 0] w fun r w' => r = .returned (.bool true) ∧ w' = w := by
  go_enter Tryd.func28, Tryd.ntmps28
  go_wp2_with fail
  go_loopg [5] 0 (fun k s5 wr => k = 0 ∧ s5 = .int .i64 0 ∧ wr = w)
  case atStart => exact ⟨rfl, rfl, rfl⟩
  case round =>
    obtain ⟨rfl, rfl, rfl⟩ := hrel
    go_wp2_with fail
    go_ret
    exact ⟨rfl, rfl⟩
/-- A type without Args in memory. -/
theorem tyIn_leaf (P : Nat → Prop) (w : World) (nm : List UInt8) (n : Int) (hl : nm.length ≤ 100) (h1 : -100000 ≤ n) (h2 : n ≤ 100000) : TyIn P w ⟨nm, n, []⟩ [.string (S nm), .int .i64 n, .slice none 0 0] :=
  (TyIn_iff _ _ _ _).2 ⟨none, 0, rfl, by show nm.length ≤ _; omega, by show -9223372036854775808 ≤ n ∧ n ≤ 9223372036854775807; omega, ⟨Nat.le_refl _, by omega, fun _ => rfl⟩, .inl rfl⟩
/-- A type with Args that lie in a block of their own. -/
theorem tyIn_row {P : Nat → Prop} {w : World} {b : Nat} (nm : List UInt8) (ks : List Ty) (L : List (List Value)) (hl : nm.length ≤ 100) (hk : ks.length ≤ 100) (hP : P b) (hb : Hold b L.flatten.toArray 24 w) (hL : L.length = ks.length) (h3 : ∀ ds ∈ L, ds.length = 3) (h : ∀ (i : Nat) k, ks[i]? = some k → ∃ ds, L[i]? = some ds ∧ TyIn P w k ds) : TyIn P w ⟨nm, 0, ks⟩ [.string (S nm), .int .i64 0, .slice (some ⟨b, 0, none⟩) ks.length ks.length] :=
  (TyIn_iff _ _ _ _).2 ⟨some ⟨b, 0, none⟩, ks.length, rfl, by show nm.length ≤ _; omega, by show -9223372036854775808 ≤ (0 : Int) ∧ (0 : Int) ≤ 9223372036854775807; omega, ⟨Nat.le_refl _, by show ks.length ≤ _; omega, fun h => by cases h⟩, .inr ⟨b, 0, rfl, hP, fun i k hk' => by
    obtain ⟨ds, h1, h2⟩ := h i k hk'
    refine ⟨ds, h3 ds (List.mem_of_getElem? h1), fun j d hd => ?_, h2⟩
    rw [show (0 + i * 3 + j) = i * 3 + j by omega, hb.cell]
    have := flat_at h3 h1 hd
    simpa using this⟩⟩
theorem tyIn_K {W : World} {b : Nat} (h : Hold b #[.string ⟨#[]⟩, .int .i64 0, .slice none 0 0] 24 W) : TyIn (fun x => x = b) W tK [.string ⟨#[84]⟩, .int .i64 0, .slice (some ⟨b, 0, none⟩) 1 1] :=
  tyIn_row (P := fun x => x = b) [84] [tZ] [[.string ⟨#[]⟩, .int .i64 0, .slice none 0 0]] (by decide) (by decide) rfl h rfl (by simp) (fun i k hk => by
    cases i with
    | zero => cases hk; exact ⟨_, rfl, tyIn_leaf _ _ [] 0 (by decide) (by decide) (by decide)⟩
    | succ i => simp at hk)
theorem tyIn_H {W : World} {b : Nat} (h : Hold b #[.string ⟨#[]⟩, .int .i64 1, .slice none 0 0] 24 W) : TyIn (fun x => x = b) W tH [.string ⟨#[84]⟩, .int .i64 0, .slice (some ⟨b, 0, none⟩) 1 1] :=
  tyIn_row (P := fun x => x = b) [84] [tA] [[.string ⟨#[]⟩, .int .i64 1, .slice none 0 0]] (by decide) (by decide) rfl h rfl (by simp) (fun i k hk => by
    cases i with
    | zero => cases hk; exact ⟨_, rfl, tyIn_leaf _ _ [] 1 (by decide) (by decide) (by decide)⟩
    | succ i => simp at hk)
theorem tyIn_F {W : World} {b c : Nat} (h : Hold b #[.string ⟨#[84]⟩, .int .i64 0, .slice (some ⟨c, 0, none⟩) 1 1, .string ⟨#[]⟩, .int .i64 1, .slice none 0 0] 24 W) (hc : Hold c #[.string ⟨#[]⟩, .int .i64 0, .slice none 0 0] 24 W) : TyIn (fun x => x = b ∨ x = c) W tF [.string ⟨#[45, 62]⟩, .int .i64 0, .slice (some ⟨b, 0, none⟩) 2 2] :=
  tyIn_row (P := fun x => x = b ∨ x = c) [45, 62] [tK, tA] [[.string ⟨#[84]⟩, .int .i64 0, .slice (some ⟨c, 0, none⟩) 1 1], [.string ⟨#[]⟩, .int .i64 1, .slice none 0 0]] (by decide) (by decide) (.inl rfl) h rfl (by simp) (fun i k hk => by
    cases i with
    | zero => cases hk; exact ⟨_, rfl, TyIn.keep (KP.refl _ _) (fun x hx => .inr hx) _ _ (tyIn_K hc)⟩
    | succ i =>
      cases i with
      | zero => cases hk; exact ⟨_, rfl, tyIn_leaf _ _ [] 1 (by decide) (by decide) (by decide)⟩
      | succ i => simp at hk)
theorem tyIn_A (P : Nat → Prop) (W : World) : TyIn P W tA [.string ⟨#[]⟩, .int .i64 1, .slice none 0 0] := tyIn_leaf P W [] 1 (by decide) (by decide) (by decide)
theorem aw_c1 {W : World} {b : Nat} (h : Hold b #[.string ⟨#[]⟩, .int .i64 0, .slice none 0 0] 24 W) : Calls Tryd.prog 24 #[.agg #[.string ⟨#[]⟩, .int .i64 1, .slice none 0 0], .agg #[.string ⟨#[84]⟩, .int .i64 0, .slice (some ⟨b, 0, none⟩) 1 1]] W fun r w' => ∃ p c, r = .returned (.tuple #[.slice p 1 c, .int .i64 0]) ∧ RM 4 (New W.heap.size w'.heap.size) w' (FaIn (New W.heap.size w'.heap.size) w') p [(1, tK)] ∧ Below W.heap.size W w' := by
  have hu : Calls Tryd.prog 24 #[.agg #[.string ⟨#[]⟩, .int .i64 1, .slice none 0 0], .agg #[.string ⟨#[84]⟩, .int .i64 0, .slice (some ⟨b, 0, none⟩) 1 1]] W (UQ tA tK W) := unify_any tA tK (P := fun x => x = b) (fun x hx => by rw [hx]; exact h.lt) (tyIn_A _ _) (tyIn_K h)
  refine hu.mono ?_
  rintro r w' ⟨h1, l, e, p, c, rfl, _, h3, _, ⟨_, _, h4⟩ | ⟨h4, _⟩⟩
  · obtain ⟨rfl, rfl⟩ := aw_one h4
    exact ⟨p, c, rfl, h3, h1⟩
  · rw [chk_A, chk_K] at h4
    simp at h4
theorem aw_c2 {W : World} {b : Nat} (h : Hold b #[.string ⟨#[]⟩, .int .i64 1, .slice none 0 0] 24 W) : Calls Tryd.prog 24 #[.agg #[.string ⟨#[]⟩, .int .i64 1, .slice none 0 0], .agg #[.string ⟨#[84]⟩, .int .i64 0, .slice (some ⟨b, 0, none⟩) 1 1]] W fun r w' => ∃ p c, r = .returned (.tuple #[.slice p 0 c, .int .i64 80]) ∧ Below W.heap.size W w' := by
  have hu : Calls Tryd.prog 24 #[.agg #[.string ⟨#[]⟩, .int .i64 1, .slice none 0 0], .agg #[.string ⟨#[84]⟩, .int .i64 0, .slice (some ⟨b, 0, none⟩) 1 1]] W (UQ tA tH W) := unify_any tA tH (P := fun x => x = b) (fun x hx => by rw [hx]; exact h.lt) (tyIn_A _ _) (tyIn_H h)
  refine hu.mono ?_
  rintro r w' ⟨h1, l, e, p, c, rfl, _, h3, _, ⟨_, _, h4⟩ | ⟨h4, _⟩⟩
  · obtain ⟨rfl, rfl⟩ := aw_two h4
    exact ⟨p, c, rfl, h1⟩
  · rw [chk_A, chk_H] at h4
    simp at h4
theorem aw_holes {W : World} {b c : Nat} (h : Hold b #[.string ⟨#[84]⟩, .int .i64 0, .slice (some ⟨c, 0, none⟩) 1 1, .string ⟨#[]⟩, .int .i64 1, .slice none 0 0] 24 W) (hc : Hold c #[.string ⟨#[]⟩, .int .i64 0, .slice none 0 0] 24 W) : Calls Tryd.prog 13 #[.agg #[.string ⟨#[45, 62]⟩, .int .i64 0, .slice (some ⟨b, 0, none⟩) 2 2]] W fun r w' => ∃ g cp, r = .returned (.slice (some ⟨g, 0, none⟩) 2 cp) ∧ w'.cell? ⟨g, 1, none⟩ = some (.int .i64 1) ∧ W.heap.size ≤ g ∧ g < w'.heap.size ∧ Below W.heap.size W w' := by
  have hu : Calls Tryd.prog 13 #[.agg #[.string ⟨#[45, 62]⟩, .int .i64 0, .slice (some ⟨b, 0, none⟩) 2 2]] W fun r w' => ∃ v, r = .returned v ∧ IL W.heap.size v (if chk tF then hs tF else []) w' ∧ Below W.heap.size W w' := tyHoles_any tF (P := fun x => x = b ∨ x = c) (fun x hx => by rcases hx with rfl | rfl; exact h.lt; exact hc.lt) (tyIn_F h hc)
  refine hu.mono ?_
  rintro r w' ⟨v, rfl, h1, h2⟩
  rw [chk_F, if_pos rfl, hs_F] at h1
  have h1' := h1
  obtain ⟨e1, ⟨e2, e3⟩ | ⟨g, cap, cur, rfl, hg, hgb, r⟩⟩ := h1
  · cases e3
  · exact ⟨g, cap, rfl, row_cell h1' (j := 1) rfl, hg, (Array.getElem?_eq_some_iff.1 hgb).1, h2⟩
theorem aw_text {W : World} {b c : Nat} (hG : GT W) (h : Hold b #[.string ⟨#[84]⟩, .int .i64 0, .slice (some ⟨c, 0, none⟩) 1 1, .string ⟨#[]⟩, .int .i64 1, .slice none 0 0] 24 W) (hc : Hold c #[.string ⟨#[]⟩, .int .i64 0, .slice none 0 0] 24 W) : Calls Tryd.prog 20 #[.agg #[.string ⟨#[45, 62]⟩, .int .i64 0, .slice (some ⟨b, 0, none⟩) 2 2]] W fun r w' => r = .returned (.string ⟨#[40, 84, 32, 97, 41, 32, 45, 62, 32, 98]⟩) ∧ Below W.heap.size W w' := by
  have hu : Calls Tryd.prog 20 #[.agg #[.string ⟨#[45, 62]⟩, .int .i64 0, .slice (some ⟨b, 0, none⟩) 2 2]] W (SQ (if chk tF then txT tF else []) W) := ty_text_any tF (P := fun x => x = b ∨ x = c) (fun x hx => by rcases hx with rfl | rfl; exact h.lt; exact hc.lt) hG (tyIn_F h hc)
  rw [chk_F, if_pos rfl, txt_F] at hu
  exact hu
theorem aw_check {W : World} {b : Nat} (h : Hold b #[.string ⟨#[]⟩, .int .i64 0, .slice none 0 0] 24 W) : Calls Tryd.prog 15 #[.agg #[.string ⟨#[84]⟩, .int .i64 0, .slice (some ⟨b, 0, none⟩) 1 1]] W fun r w' => r = .returned (.bool true) ∧ Below W.heap.size W w' := by
  have hu : Calls Tryd.prog 15 #[.agg #[.string ⟨#[84]⟩, .int .i64 0, .slice (some ⟨b, 0, none⟩) 1 1]] W fun r w' => r = .returned (.bool (chk tK)) ∧ Below W.heap.size W w' := check_any tK (P := fun x => x = b) (fun x hx => by rw [hx]; exact h.lt) (tyIn_K h)
  rw [chk_K] at hu
  exact hu
theorem aw_check2 (W : World) : Calls Tryd.prog 15 #[.agg #[.string ⟨#[]⟩, .int .i64 (-1), .slice none 0 0]] W fun r w' => r = .returned (.bool false) ∧ Below W.heap.size W w' := by
  have hu : Calls Tryd.prog 15 #[.agg #[.string ⟨#[]⟩, .int .i64 (-1), .slice none 0 0]] W fun r w' => r = .returned (.bool (chk tN)) ∧ Below W.heap.size W w' := check_any tN (P := fun _ => False) (fun x hx => hx.elim) (tyIn_leaf _ W [] (-1) (by decide) (by decide) (by decide))
  rw [chk_N] at hu
  exact hu
theorem aw_canon (W : World) : Calls Tryd.prog 18 #[.agg #[.string ⟨#[]⟩, .int .i64 7, .slice none 0 0]] W (TQ tZ W) := by
  have hu : Calls Tryd.prog 18 #[.agg #[.string ⟨#[]⟩, .int .i64 7, .slice none 0 0]] W (TQ (if chk tS then canon tS else ⟨[], 0, []⟩) W) := canon_any tS (P := fun _ => False) (fun x hx => hx.elim) (tyIn_leaf _ W [] 7 (by decide) (by decide) (by decide))
  rw [chk_S, if_pos rfl, canon_S] at hu
  exact hu
theorem aw_apply {P : Nat → Prop} {W : World} {p : Option Addr} {c : Nat} (hP : ∀ x, P x → x < W.heap.size) (h : RM 4 P W (FaIn P W) p [(1, tK)]) : Calls Tryd.prog 22 #[.slice p 1 c, .agg #[.string ⟨#[]⟩, .int .i64 1, .slice none 0 0]] W (TQ tK W) := by
  have hu : Calls Tryd.prog 22 #[.slice p 1 c, .agg #[.string ⟨#[]⟩, .int .i64 1, .slice none 0 0]] W (TQ (applyM [(1, tK)] tA) W) := apply_any [(1, tK)] tA (P := P) hP (tyIn_A _ _) h (by decide)
  rw [apply_K] at hu
  exact hu
theorem aw_canon' (W : World) : Calls Tryd.prog 18 #[.agg #[.string ⟨#[]⟩, .int .i64 7, .slice none 0 0]] W fun r w' => ∃ pk ck, r = .returned (.agg #[.string ⟨#[]⟩, .int .i64 0, .slice pk 0 ck]) ∧ Below W.heap.size W w' ∧ TyIn (fun x => x < w'.heap.size) w' tZ [.string ⟨#[]⟩, .int .i64 0, .slice pk 0 ck] := by
  refine (aw_canon W).mono ?_
  rintro r w' ⟨pk, ck, rfl, hb, hin⟩
  exact ⟨pk, ck, rfl, hb, TyIn.keep (KP.refl _ _) (fun x hx => hx.2) _ _ hin⟩
theorem aw_apply' {P : Nat → Prop} {W : World} {p : Option Addr} {c : Nat} (hP : ∀ x, P x → x < W.heap.size) (h : RM 4 P W (FaIn P W) p [(1, tK)]) : Calls Tryd.prog 22 #[.slice p 1 c, .agg #[.string ⟨#[]⟩, .int .i64 1, .slice none 0 0]] W fun r w' => ∃ pk ck, r = .returned (.agg #[.string ⟨#[84]⟩, .int .i64 0, .slice pk 1 ck]) ∧ Below W.heap.size W w' ∧ TyIn (fun x => x < w'.heap.size) w' tK [.string ⟨#[84]⟩, .int .i64 0, .slice pk 1 ck] := by
  refine (aw_apply hP h).mono ?_
  rintro r w' ⟨pk, ck, rfl, hb, hin⟩
  exact ⟨pk, ck, rfl, hb, TyIn.keep (KP.refl _ _) (fun x hx => hx.2) _ _ hin⟩
theorem aw_sameK {W : World} {b da : Nat} {qa : Option Addr} (h : TyIn (fun x => x < W.heap.size) W tK [.string ⟨#[84]⟩, .int .i64 0, .slice qa 1 da]) (hc : Hold b #[.string ⟨#[]⟩, .int .i64 0, .slice none 0 0] 24 W) : Calls Tryd.prog 17 #[.agg #[.string ⟨#[84]⟩, .int .i64 0, .slice qa 1 da], .agg #[.string ⟨#[84]⟩, .int .i64 0, .slice (some ⟨b, 0, none⟩) 1 1]] W fun r w' => r = .returned (.bool true) ∧ Below W.heap.size W w' := by
  have hu : Calls Tryd.prog 17 #[.agg #[.string ⟨#[84]⟩, .int .i64 0, .slice qa 1 da], .agg #[.string ⟨#[84]⟩, .int .i64 0, .slice (some ⟨b, 0, none⟩) 1 1]] W (Tells (tK = tK) W) := same_ty tK tK (P := fun x => x < W.heap.size) (fun x hx => hx) h (TyIn.keep (KP.refl _ _) (fun x hx => by rw [hx]; exact hc.lt) _ _ (tyIn_K hc))
  exact hu.mono fun r w' hr => ⟨hr.1 rfl, hr.2.2⟩
theorem aw_sameZ {W : World} {da : Nat} {qa : Option Addr} (h : TyIn (fun x => x < W.heap.size) W tZ [.string ⟨#[]⟩, .int .i64 0, .slice qa 0 da]) : Calls Tryd.prog 17 #[.agg #[.string ⟨#[]⟩, .int .i64 0, .slice qa 0 da], .agg #[.string ⟨#[]⟩, .int .i64 0, .slice none 0 0]] W fun r w' => r = .returned (.bool true) ∧ Below W.heap.size W w' := by
  have hu : Calls Tryd.prog 17 #[.agg #[.string ⟨#[]⟩, .int .i64 0, .slice qa 0 da], .agg #[.string ⟨#[]⟩, .int .i64 0, .slice none 0 0]] W (Tells (tZ = tZ) W) := same_ty tZ tZ (P := fun x => x < W.heap.size) (fun x hx => hx) h (tyIn_leaf _ W [] 0 (by decide) (by decide) (by decide))
  exact hu.mono fun r w' hr => ⟨hr.1 rfl, hr.2.2⟩
/-- What the last region reads. -/
structure AwS (n b l1 o1 g : Nat) (q1 : Option Addr) (d1 : Nat) (W : World) : Prop where
  x : Hold n #[.string ⟨#[]⟩, .int .i64 1, .slice none 0 0] 24 W
  k : Hold (n + 1 + 1) #[.string ⟨#[84]⟩, .int .i64 0, .slice (some ⟨n + 1, 0, none⟩) 1 1] 24 W
  f : Hold (b + 1) #[.string ⟨#[45, 62]⟩, .int .i64 0, .slice (some ⟨b, 0, none⟩) 2 2] 24 W
  c0 : W.cell? ⟨l1, o1, none⟩ = some (.int .i64 1)
  c1 : W.cell? ⟨l1, o1 + 1, none⟩ = some (.string ⟨#[84]⟩)
  c2 : W.cell? ⟨l1, o1 + 1 + 1, none⟩ = some (.int .i64 0)
  c3 : W.cell? ⟨l1, o1 + 1 + 2, none⟩ = some (.slice q1 1 d1)
  g1 : W.cell? ⟨g, 1, none⟩ = some (.int .i64 1)
theorem AwS.cs {n b l1 o1 g d1 : Nat} {q1 : Option Addr} {W : World} (h : AwS n b l1 o1 g q1 d1 W) :
    (W.cell? ⟨n, 0, none⟩ = some (.string ⟨#[]⟩) ∧ W.cell? ⟨n, 1, none⟩ = some (.int .i64 1) ∧ W.cell? ⟨n, 2, none⟩ = some (.slice none 0 0)) ∧ (W.cell? ⟨n + 1 + 1, 0, none⟩ = some (.string ⟨#[84]⟩) ∧ W.cell? ⟨n + 1 + 1, 1, none⟩ = some (.int .i64 0) ∧ W.cell? ⟨n + 1 + 1, 2, none⟩ = some (.slice (some ⟨n + 1, 0, none⟩) 1 1)) ∧ (W.cell? ⟨b + 1, 0, none⟩ = some (.string ⟨#[45, 62]⟩) ∧ W.cell? ⟨b + 1, 1, none⟩ = some (.int .i64 0) ∧ W.cell? ⟨b + 1, 2, none⟩ = some (.slice (some ⟨b, 0, none⟩) 2 2)) :=
  ⟨⟨h.x.cell 0, h.x.cell 1, h.x.cell 2⟩, ⟨h.k.cell 0, h.k.cell 1, h.k.cell 2⟩, ⟨h.f.cell 0, h.f.cell 1, h.f.cell 2⟩⟩
theorem AwS.below {n b l1 o1 g d1 : Nat} {q1 : Option Addr} {W W' : World} (h : AwS n b l1 o1 g q1 d1 W) (hl : l1 < W.heap.size) (hg : g < W.heap.size) (k : Below W.heap.size W W') : AwS n b l1 o1 g q1 d1 W' :=
  ⟨h.x.below k h.x.lt, h.k.below k h.k.lt, h.f.below k h.f.lt, (k.cell (p := ⟨l1, o1, none⟩) hl).trans h.c0, (k.cell (p := ⟨l1, o1 + 1, none⟩) hl).trans h.c1, (k.cell (p := ⟨l1, o1 + 1 + 1, none⟩) hl).trans h.c2, (k.cell (p := ⟨l1, o1 + 1 + 2, none⟩) hl).trans h.c3, (k.cell (p := ⟨g, 1, none⟩) hg).trans h.g1⟩
set_option maxHeartbeats 16000000 in
set_option maxRecDepth 100000 in
theorem awake_any {w : World} (hG : GT w) : Calls Tryd.prog 11 #[] w fun r w' => r = .returned (.bool true) ∧ Below w.heap.size w w' := by
  go_enter Tryd.func11, Tryd.ntmps11
  go_upto_region 3 with fail
  have hX : Hold w.heap.size #[.string ⟨#[]⟩, .int .i64 1, .slice none 0 0] 24 (((w.alloc (.cells #[.string ⟨#[]⟩, .int .i64 1, .slice none 0 0] 24)).alloc (.cells #[.string ⟨#[]⟩, .int .i64 0, .slice none 0 0] 24)).alloc (.cells #[.string ⟨#[84]⟩, .int .i64 0, .slice (some ⟨w.heap.size + 1, 0, none⟩) 1 1] 24)) := ((Hold.new w _ 24).alloc _).alloc _
  have hR : Hold (w.heap.size + 1) #[.string ⟨#[]⟩, .int .i64 0, .slice none 0 0] 24 (((w.alloc (.cells #[.string ⟨#[]⟩, .int .i64 1, .slice none 0 0] 24)).alloc (.cells #[.string ⟨#[]⟩, .int .i64 0, .slice none 0 0] 24)).alloc (.cells #[.string ⟨#[84]⟩, .int .i64 0, .slice (some ⟨w.heap.size + 1, 0, none⟩) 1 1] 24)) := by have := (Hold.new (w.alloc (.cells #[.string ⟨#[]⟩, .int .i64 1, .slice none 0 0] 24)) #[.string ⟨#[]⟩, .int .i64 0, .slice none 0 0] 24).alloc (.cells #[.string ⟨#[84]⟩, .int .i64 0, .slice (some ⟨w.heap.size + 1, 0, none⟩) 1 1] 24); simpa using this
  have hK : Hold (w.heap.size + 2) #[.string ⟨#[84]⟩, .int .i64 0, .slice (some ⟨w.heap.size + 1, 0, none⟩) 1 1] 24 (((w.alloc (.cells #[.string ⟨#[]⟩, .int .i64 1, .slice none 0 0] 24)).alloc (.cells #[.string ⟨#[]⟩, .int .i64 0, .slice none 0 0] 24)).alloc (.cells #[.string ⟨#[84]⟩, .int .i64 0, .slice (some ⟨w.heap.size + 1, 0, none⟩) 1 1] 24)) := by have := Hold.new ((w.alloc (.cells #[.string ⟨#[]⟩, .int .i64 1, .slice none 0 0] 24)).alloc (.cells #[.string ⟨#[]⟩, .int .i64 0, .slice none 0 0] 24)) #[.string ⟨#[84]⟩, .int .i64 0, .slice (some ⟨w.heap.size + 1, 0, none⟩) 1 1] 24; simpa using this
  have hVs : (((w.alloc (.cells #[.string ⟨#[]⟩, .int .i64 1, .slice none 0 0] 24)).alloc (.cells #[.string ⟨#[]⟩, .int .i64 0, .slice none 0 0] 24)).alloc (.cells #[.string ⟨#[84]⟩, .int .i64 0, .slice (some ⟨w.heap.size + 1, 0, none⟩) 1 1] 24)).heap.size = w.heap.size + 3 := by simp
  have hVB : Below w.heap.size w (((w.alloc (.cells #[.string ⟨#[]⟩, .int .i64 1, .slice none 0 0] 24)).alloc (.cells #[.string ⟨#[]⟩, .int .i64 0, .slice none 0 0] 24)).alloc (.cells #[.string ⟨#[84]⟩, .int .i64 0, .slice (some ⟨w.heap.size + 1, 0, none⟩) 1 1] 24)) := (((Below.refl _ w).alloc (Nat.le_refl _) _).alloc (by simp) _).alloc (by simp; omega) _
  have HG := hide (hG.below hVB)
  have HX := hide hX; have HR := hide hR; have HK := hide hK; have HVS := hide hVs; have HVB := hide hVB
  clear hX hR hK hVs hVB hG
  generalize hN : w.heap.size = n at *
  generalize (((w.alloc (.cells #[.string ⟨#[]⟩, .int .i64 1, .slice none 0 0] 24)).alloc (.cells #[.string ⟨#[]⟩, .int .i64 0, .slice none 0 0] 24)).alloc (.cells #[.string ⟨#[84]⟩, .int .i64 0, .slice (some ⟨n + 1, 0, none⟩) 1 1] 24)) = V at *
  have HX0 : Hid (Hold n #[.string ⟨#[]⟩, .int .i64 1, .slice none 0 0] 24 V) := HX
  have HR0 : Hid (Hold (n + 1) #[.string ⟨#[]⟩, .int .i64 0, .slice none 0 0] 24 V) := HR
  have HK0 : Hid (Hold (n + 1 + 1) #[.string ⟨#[84]⟩, .int .i64 0, .slice (some ⟨n + 1, 0, none⟩) 1 1] 24 V) := HK
  have HG0 : Hid (GT V) := HG
  have HB0 : Hid (Below n w V) := HVB
  have hs0 : V.heap.size = n + 3 := HVS.out
  clear HX HR HK HG HVS HVB
  have x0 := HX0.out.cell 0; have x1 := HX0.out.cell 1; have x2 := HX0.out.cell 2
  have k0 := HK0.out.cell 0; have k1 := HK0.out.cell 1; have k2 := HK0.out.cell 2
  simp only [List.getElem?_toArray, List.getElem?_cons_succ, List.getElem?_cons_zero] at x0 x1 x2 k0 k1 k2
  go_wp2_with fail
  refine (aw_c1 HR0.out).mono ?_
  rintro r w1 ⟨p1, c1, rfl, hrm1, hb1⟩
  have hbs := hb1
  have HX1 := hide (HX0.out.below hbs HX0.out.lt)
  have HR1 := hide (HR0.out.below hbs HR0.out.lt)
  have HK1 := hide (HK0.out.below hbs HK0.out.lt)
  have HG1 := hide (HG0.out.below hbs)
  have HB1 := hide (HB0.out.trans (hbs.mono (by have := HB0.out.size; omega)))
  have hs1 := hbs.size
  clear hbs
  clear x0 x1 x2 k0 k1 k2
  have x0 := HX1.out.cell 0; have x1 := HX1.out.cell 1; have x2 := HX1.out.cell 2
  have k0 := HK1.out.cell 0; have k1 := HK1.out.cell 1; have k2 := HK1.out.cell 2
  simp only [List.getElem?_toArray, List.getElem?_cons_succ, List.getElem?_cons_zero] at x0 x1 x2 k0 k1 k2
  have HRM1 : Hid (RM 4 (New V.heap.size w1.heap.size) w1 (FaIn (New V.heap.size w1.heap.size) w1) p1 [(1, tK)]) := hide hrm1
  obtain ⟨l1, o1, q1, d1, hp1, hpl, _, hin1, a0, a1, a2, a3⟩ := fm_at HRM1.out (i := 0) (by decide)
  subst hp1
  have hl1a : l1 < w1.heap.size := hpl.2
  have hl1b : V.heap.size ≤ l1 := hpl.1
  clear hb1 hrm1 hpl
  have hHn := Hold.new w1 #[.string ⟨#[]⟩, .int .i64 1, .slice none 0 0] 24
  have HHn := hide hHn
  clear hHn
  go_wp2_with fail
  refine (aw_c2 HHn.out).mono ?_
  rintro r w2 ⟨p2, c2, rfl, hb2⟩
  have hbs := ((Below.refl _ w1).alloc (Nat.le_refl _) _).trans (hb2.mono (by simp))
  have HX2 := hide (HX1.out.below hbs HX1.out.lt)
  have HR2 := hide (HR1.out.below hbs HR1.out.lt)
  have HK2 := hide (HK1.out.below hbs HK1.out.lt)
  have HG2 := hide (HG1.out.below hbs)
  have HB2 := hide (HB1.out.trans (hbs.mono (by have := HB1.out.size; omega)))
  have hs2 := hbs.size
  clear hbs
  clear x0 x1 x2 k0 k1 k2
  have x0 := HX2.out.cell 0; have x1 := HX2.out.cell 1; have x2 := HX2.out.cell 2
  have k0 := HK2.out.cell 0; have k1 := HK2.out.cell 1; have k2 := HK2.out.cell 2
  simp only [List.getElem?_toArray, List.getElem?_cons_succ, List.getElem?_cons_zero] at x0 x1 x2 k0 k1 k2
  have HB12 : Hid (Below w1.heap.size w1 w2) := hide (((Below.refl _ w1).alloc (Nat.le_refl _) _).trans (hb2.mono (by simp)))
  clear hb2 HHn
  go_upto_region 8 with fail
  have hF2 : Hold (w2.heap.size + 1) #[.string ⟨#[45, 62]⟩, .int .i64 0, .slice (some ⟨w2.heap.size, 0, none⟩) 2 2] 24 ((w2.alloc (.cells #[.string ⟨#[84]⟩, .int .i64 0, .slice (some ⟨n + 1, 0, none⟩) 1 1, .string ⟨#[]⟩, .int .i64 1, .slice none 0 0] 24)).alloc (.cells #[.string ⟨#[45, 62]⟩, .int .i64 0, .slice (some ⟨w2.heap.size, 0, none⟩) 2 2] 24)) := by have := Hold.new (w2.alloc (.cells #[.string ⟨#[84]⟩, .int .i64 0, .slice (some ⟨n + 1, 0, none⟩) 1 1, .string ⟨#[]⟩, .int .i64 1, .slice none 0 0] 24)) #[.string ⟨#[45, 62]⟩, .int .i64 0, .slice (some ⟨w2.heap.size, 0, none⟩) 2 2] 24; simpa using this
  have hQ2 : Hold w2.heap.size #[.string ⟨#[84]⟩, .int .i64 0, .slice (some ⟨n + 1, 0, none⟩) 1 1, .string ⟨#[]⟩, .int .i64 1, .slice none 0 0] 24 ((w2.alloc (.cells #[.string ⟨#[84]⟩, .int .i64 0, .slice (some ⟨n + 1, 0, none⟩) 1 1, .string ⟨#[]⟩, .int .i64 1, .slice none 0 0] 24)).alloc (.cells #[.string ⟨#[45, 62]⟩, .int .i64 0, .slice (some ⟨w2.heap.size, 0, none⟩) 2 2] 24)) := (Hold.new w2 _ 24).alloc _
  have hb23 : Below w2.heap.size w2 ((w2.alloc (.cells #[.string ⟨#[84]⟩, .int .i64 0, .slice (some ⟨n + 1, 0, none⟩) 1 1, .string ⟨#[]⟩, .int .i64 1, .slice none 0 0] 24)).alloc (.cells #[.string ⟨#[45, 62]⟩, .int .i64 0, .slice (some ⟨w2.heap.size, 0, none⟩) 2 2] 24)) := ((Below.refl _ w2).alloc (Nat.le_refl _) _).alloc (by simp) _
  have hs23 : ((w2.alloc (.cells #[.string ⟨#[84]⟩, .int .i64 0, .slice (some ⟨n + 1, 0, none⟩) 1 1, .string ⟨#[]⟩, .int .i64 1, .slice none 0 0] 24)).alloc (.cells #[.string ⟨#[45, 62]⟩, .int .i64 0, .slice (some ⟨w2.heap.size, 0, none⟩) 2 2] 24)).heap.size = w2.heap.size + 2 := by simp
  generalize ((w2.alloc (.cells #[.string ⟨#[84]⟩, .int .i64 0, .slice (some ⟨n + 1, 0, none⟩) 1 1, .string ⟨#[]⟩, .int .i64 1, .slice none 0 0] 24)).alloc (.cells #[.string ⟨#[45, 62]⟩, .int .i64 0, .slice (some ⟨w2.heap.size, 0, none⟩) 2 2] 24)) = w3 at *
  have hbs := hb23
  have HX3 := hide (HX2.out.below hbs HX2.out.lt)
  have HR3 := hide (HR2.out.below hbs HR2.out.lt)
  have HK3 := hide (HK2.out.below hbs HK2.out.lt)
  have HG3 := hide (HG2.out.below hbs)
  have HB3 := hide (HB2.out.trans (hbs.mono (by have := HB2.out.size; omega)))
  have hs3 := hbs.size
  clear hbs
  clear x0 x1 x2 k0 k1 k2
  have HF3 := hide hF2; have HQ3 := hide hQ2
  have HB13 : Hid (Below w1.heap.size w1 w3) := hide (HB12.out.trans (hb23.mono HB12.out.size))
  generalize hbb : w2.heap.size = b at *
  clear hb23 hF2 hQ2
  have x0 := HX3.out.cell 0; have x1 := HX3.out.cell 1; have x2 := HX3.out.cell 2
  have k0 := HK3.out.cell 0; have k1 := HK3.out.cell 1; have k2 := HK3.out.cell 2
  have f0 := HF3.out.cell 0; have f1 := HF3.out.cell 1; have f2 := HF3.out.cell 2
  simp only [List.getElem?_toArray, List.getElem?_cons_succ, List.getElem?_cons_zero] at x0 x1 x2 k0 k1 k2 f0 f1 f2
  go_wp2_with fail
  refine (aw_holes HQ3.out HR3.out).mono ?_
  rintro r w4 ⟨g, cp, rfl, hg1, hgb, hgl, hb4⟩
  have hbs := hb4
  have HX4 := hide (HX3.out.below hbs HX3.out.lt)
  have HR4 := hide (HR3.out.below hbs HR3.out.lt)
  have HK4 := hide (HK3.out.below hbs HK3.out.lt)
  have HF4 := hide (HF3.out.below hbs HF3.out.lt)
  have HQ4 := hide (HQ3.out.below hbs HQ3.out.lt)
  have HG4 := hide (HG3.out.below hbs)
  have HB4 := hide (HB3.out.trans (hbs.mono (by have := HB3.out.size; omega)))
  have hs4 := hbs.size
  clear hbs
  clear x0 x1 x2 k0 k1 k2 f0 f1 f2
  have HB14 : Hid (Below w1.heap.size w1 w4) := hide (HB13.out.trans (hb4.mono HB13.out.size))
  have hl14 : l1 < w4.heap.size := Nat.lt_of_lt_of_le hl1a HB14.out.size
  have hcl : ∀ x, w4.cell? ⟨l1, x, none⟩ = w1.cell? ⟨l1, x, none⟩ := fun x => HB14.out.cell (p := ⟨l1, x, none⟩) hl1a
  have a0' : w1.cell? ⟨l1, o1, none⟩ = some (.int .i64 1) := by simpa using a0
  have a1' : w1.cell? ⟨l1, o1 + 1, none⟩ = some (.string (S tK.nm)) := by simpa using a1
  have a2' : w1.cell? ⟨l1, o1 + 1 + 1, none⟩ = some (.int .i64 tK.n) := by simpa using a2
  have a3' : w1.cell? ⟨l1, o1 + 1 + 2, none⟩ = some (.slice q1 tK.ar.length d1) := by simpa using a3
  have hSS : AwS n b l1 o1 g q1 d1 w4 := ⟨HX4.out, HK4.out, HF4.out, (hcl _).trans a0', (hcl _).trans a1', (hcl _).trans a2', (hcl _).trans a3', hg1⟩
  have HIN : Hid (TyIn (fun x => x < w4.heap.size) w4 tK [.string ⟨#[84]⟩, .int .i64 0, .slice q1 1 d1]) := hide (TyIn.keep (KP.of_below HB14.out fun x hx => hx.2) (fun x hx => Nat.lt_of_lt_of_le hx.2 HB14.out.size) _ _ hin1)
  have HSS := hide hSS
  clear hb4 hSS hcl a0 a1 a2 a3 a0' a1' a2' a3' hin1
  go_upto_region 9 with fail
  have HSS4 := HSS
  have hS := HSS.out
  have hl14' := hl14
  have hg4 := hgl
  have HB44 : Hid (Below w4.heap.size w4 w4) := hide (Below.refl _ _)
  have HRM4 : Hid (RM 4 (fun x => x < w4.heap.size) w4 (FaIn (fun x => x < w4.heap.size) w4) (some ⟨l1, o1, none⟩) [(1, tK)]) := hide (RM.keep (KP.of_below HB14.out fun x hx => hx.2) (fun x hx => Nat.lt_of_lt_of_le hx.2 HB14.out.size) (fun t ds h => FaIn.keep (KP.of_below HB14.out fun x hx => hx.2) (fun x hx => Nat.lt_of_lt_of_le hx.2 HB14.out.size) t ds h) HRM1.out)
  refine region_J 69 (N := 69) (S := AwS n b l1 o1 g q1 d1) (by kernel_rfl) (by kernel_rfl) ?_
  have hSd : AwS n b l1 o1 g q1 d1 w4.drew := HSS.out.below hl14 hgl (below_drew w4)
  clear hS
  have hS := hSd
  clear hSd
  have hl15 : l1 < w4.drew.heap.size := hl14
  have hg5 : g < w4.drew.heap.size := hgl
  generalize hw5 : w4.drew = w5 at *
  have HSS5 := hide hS
  have HB45 : Hid (Below w4.heap.size w4 w5) := hide (by rw [← hw5]; exact below_drew w4)
  have HR5 := hide (HR4.out.below HB45.out HR4.out.lt)
  clear hw5
  refine take_D (i := 0) 36 (.slice (some ⟨l1, o1, none⟩) 1 c1) rfl rfl (by kernel_rfl) (by kernel_rfl) (by kernel_rfl) (by kernel_rfl) (fun _ _ _ h => h) (Or.inl ⟨by rfl, fun W' hW => by go_simp⟩) hS ?_
  simp only [Act.put, List.setIfInBounds_toArray, List.set_cons_zero, List.set_cons_succ]
  refine take_D (i := 1) 37 (.pointer (some ⟨l1, o1, none⟩)) rfl rfl (by kernel_rfl) (by kernel_rfl) (by kernel_rfl) (by kernel_rfl) (fun _ _ _ h => h) (Or.inl ⟨by rfl, fun W' hW => by go_simp⟩) hS ?_
  simp only [Act.put, List.setIfInBounds_toArray, List.set_cons_zero, List.set_cons_succ]
  refine take_D (i := 2) 38 (.pointer (some ⟨l1, o1, none⟩)) rfl rfl (by kernel_rfl) (by kernel_rfl) (by kernel_rfl) (by kernel_rfl) (fun _ _ _ h => h) (Or.inl ⟨by rfl, fun W' hW => by go_simp⟩) hS ?_
  simp only [Act.put, List.setIfInBounds_toArray, List.set_cons_zero, List.set_cons_succ]
  refine take_D (i := 3) 39 (.int .i64 1) rfl rfl (by kernel_rfl) (by kernel_rfl) (by kernel_rfl) (by kernel_rfl) (fun _ _ _ h => h) (Or.inl ⟨by rfl, fun W' hW => by have q0 := hW.c0; have q1 := hW.c1; have q2 := hW.c2; have q3 := hW.c3; go_simp⟩) hS ?_
  simp only [Act.put, List.setIfInBounds_toArray, List.set_cons_zero, List.set_cons_succ]
  refine take_D (i := 4) 40 (.bool true) rfl rfl (by kernel_rfl) (by kernel_rfl) (by kernel_rfl) (by kernel_rfl) (fun _ _ _ h => h) (Or.inl ⟨by rfl, fun W' hW => by go_simp⟩) hS ?_
  simp only [Act.put, List.setIfInBounds_toArray, List.set_cons_zero, List.set_cons_succ]
  refine take_D (i := 5) 41 (.bool true) rfl rfl (by kernel_rfl) (by kernel_rfl) (by kernel_rfl) (by kernel_rfl) (fun _ _ _ h => h) (Or.inl ⟨by rfl, fun W' hW => by go_simp⟩) hS ?_
  simp only [Act.put, List.setIfInBounds_toArray, List.set_cons_zero, List.set_cons_succ]
  refine take_D (i := 6) 42 (.slice (some ⟨l1, o1, none⟩) 1 c1) rfl rfl (by kernel_rfl) (by kernel_rfl) (by kernel_rfl) (by kernel_rfl) (fun _ _ _ h => h) (Or.inl ⟨by rfl, fun W' hW => by go_simp⟩) hS ?_
  simp only [Act.put, List.setIfInBounds_toArray, List.set_cons_zero, List.set_cons_succ]
  refine take_D (i := 7) 43 (.pointer (some ⟨l1, o1, none⟩)) rfl rfl (by kernel_rfl) (by kernel_rfl) (by kernel_rfl) (by kernel_rfl) (fun _ _ _ h => h) (Or.inl ⟨by rfl, fun W' hW => by go_simp⟩) hS ?_
  simp only [Act.put, List.setIfInBounds_toArray, List.set_cons_zero, List.set_cons_succ]
  refine take_D (i := 8) 44 (.pointer (some ⟨l1, o1 + 1, none⟩)) rfl rfl (by kernel_rfl) (by kernel_rfl) (by kernel_rfl) (by kernel_rfl) (fun _ _ _ h => h) (Or.inl ⟨by rfl, fun W' hW => by go_simp⟩) hS ?_
  simp only [Act.put, List.setIfInBounds_toArray, List.set_cons_zero, List.set_cons_succ]
  refine take_D (i := 9) 45 (.agg #[.string ⟨#[84]⟩, .int .i64 0, .slice q1 1 d1]) rfl rfl (by kernel_rfl) (by kernel_rfl) (by kernel_rfl) (by kernel_rfl) (fun _ _ _ h => h) (Or.inl ⟨by rfl, fun W' hW => by have q0 := hW.c0; have q1 := hW.c1; have q2 := hW.c2; have q3 := hW.c3; go_simp⟩) hS ?_
  simp only [Act.put, List.setIfInBounds_toArray, List.set_cons_zero, List.set_cons_succ]
  refine take_D (i := 10) 46 (.agg #[.string ⟨#[84]⟩, .int .i64 0, .slice (some ⟨n + 1, 0, none⟩) 1 1]) rfl rfl (by kernel_rfl) (by kernel_rfl) (by kernel_rfl) (by kernel_rfl) (fun _ _ _ h => h) (Or.inl ⟨by rfl, fun W' hW => by obtain ⟨⟨x0, x1, x2⟩, ⟨k0, k1, k2⟩, ⟨f0, f1, f2⟩⟩ := hW.cs; go_simp⟩) hS ?_
  simp only [Act.put, List.setIfInBounds_toArray, List.set_cons_zero, List.set_cons_succ]
  refine ready_J (rs := [11]) (by kernel_rfl) (by simp) ?_
  intro jj hjj
  obtain rfl := List.mem_singleton.1 hjj
  clear hjj
  refine op_W rfl (by rfl) fun K hK => ?_
  go_simp
  refine (aw_sameK (TyIn.keep (KP.of_below HB45.out fun x hx => hx) (fun x hx => Nat.lt_of_lt_of_le hx HB45.out.size) _ _ HIN.out) HR5.out).mono ?_
  rintro r w6 ⟨rfl, hb⟩
  have hSS6 := HSS5.out.below hl15 hg5 hb
  have hl16 : l1 < w6.heap.size := Nat.lt_of_lt_of_le hl15 hb.size
  have hg6 : g < w6.heap.size := Nat.lt_of_lt_of_le hg5 hb.size
  have HB46 : Hid (Below w4.heap.size w4 w6) := hide (HB45.out.trans (hb.mono HB45.out.size))
  have HR6 := hide (HR5.out.below hb HR5.out.lt)
  have HSS6 := hide hSS6
  clear hS hb
  have hS := hSS6
  clear hSS6
  refine hK _ _ ⟨fun _ => hS, ?_⟩
  clear hK K
  refine take_D (i := 12) 48 (.bool true) rfl rfl (by kernel_rfl) (by kernel_rfl) (by kernel_rfl) (by kernel_rfl) (fun _ _ _ h => h) (Or.inl ⟨by rfl, fun W' hW => by go_simp⟩) hS ?_
  simp only [Act.put, List.setIfInBounds_toArray, List.set_cons_zero, List.set_cons_succ]
  refine take_D (i := 13) 49 (.bool true) rfl rfl (by kernel_rfl) (by kernel_rfl) (by kernel_rfl) (by kernel_rfl) (fun _ _ _ h => h) (Or.inl ⟨by rfl, fun W' hW => by go_simp⟩) hS ?_
  simp only [Act.put, List.setIfInBounds_toArray, List.set_cons_zero, List.set_cons_succ]
  refine take_D (i := 14) 50 (.int .i64 0) rfl rfl (by kernel_rfl) (by kernel_rfl) (by kernel_rfl) (by kernel_rfl) (fun _ _ _ h => h) (Or.inl ⟨by rfl, fun W' hW => by go_simp⟩) hS ?_
  simp only [Act.put, List.setIfInBounds_toArray, List.set_cons_zero, List.set_cons_succ]
  refine take_D (i := 15) 51 (.bool true) rfl rfl (by kernel_rfl) (by kernel_rfl) (by kernel_rfl) (by kernel_rfl) (fun _ _ _ h => h) (Or.inl ⟨by rfl, fun W' hW => by go_simp⟩) hS ?_
  simp only [Act.put, List.setIfInBounds_toArray, List.set_cons_zero, List.set_cons_succ]
  refine take_D (i := 16) 52 (.bool true) rfl rfl (by kernel_rfl) (by kernel_rfl) (by kernel_rfl) (by kernel_rfl) (fun _ _ _ h => h) (Or.inl ⟨by rfl, fun W' hW => by go_simp⟩) hS ?_
  simp only [Act.put, List.setIfInBounds_toArray, List.set_cons_zero, List.set_cons_succ]
  refine take_D (i := 17) 53 (.bool true) rfl rfl (by kernel_rfl) (by kernel_rfl) (by kernel_rfl) (by kernel_rfl) (fun _ _ _ h => h) (Or.inl ⟨by rfl, fun W' hW => by go_simp⟩) hS ?_
  simp only [Act.put, List.setIfInBounds_toArray, List.set_cons_zero, List.set_cons_succ]
  refine take_D (i := 18) 54 (.int .i64 80) rfl rfl (by kernel_rfl) (by kernel_rfl) (by kernel_rfl) (by kernel_rfl) (fun _ _ _ h => h) (Or.inl ⟨by rfl, fun W' hW => by go_simp⟩) hS ?_
  simp only [Act.put, List.setIfInBounds_toArray, List.set_cons_zero, List.set_cons_succ]
  refine take_D (i := 19) 55 (.bool true) rfl rfl (by kernel_rfl) (by kernel_rfl) (by kernel_rfl) (by kernel_rfl) (fun _ _ _ h => h) (Or.inl ⟨by rfl, fun W' hW => by go_simp⟩) hS ?_
  simp only [Act.put, List.setIfInBounds_toArray, List.set_cons_zero, List.set_cons_succ]
  refine take_D (i := 20) 56 (.bool true) rfl rfl (by kernel_rfl) (by kernel_rfl) (by kernel_rfl) (by kernel_rfl) (fun _ _ _ h => h) (Or.inl ⟨by rfl, fun W' hW => by go_simp⟩) hS ?_
  simp only [Act.put, List.setIfInBounds_toArray, List.set_cons_zero, List.set_cons_succ]
  refine take_D (i := 21) 57 (.bool true) rfl rfl (by kernel_rfl) (by kernel_rfl) (by kernel_rfl) (by kernel_rfl) (fun _ _ _ h => h) (Or.inl ⟨by rfl, fun W' hW => by go_simp⟩) hS ?_
  simp only [Act.put, List.setIfInBounds_toArray, List.set_cons_zero, List.set_cons_succ]
  refine take_D (i := 22) 58 (.agg #[.string ⟨#[84]⟩, .int .i64 0, .slice (some ⟨n + 1, 0, none⟩) 1 1]) rfl rfl (by kernel_rfl) (by kernel_rfl) (by kernel_rfl) (by kernel_rfl) (fun _ _ _ h => h) (Or.inl ⟨by rfl, fun W' hW => by obtain ⟨⟨x0, x1, x2⟩, ⟨k0, k1, k2⟩, ⟨f0, f1, f2⟩⟩ := hW.cs; go_simp⟩) hS ?_
  simp only [Act.put, List.setIfInBounds_toArray, List.set_cons_zero, List.set_cons_succ]
  refine ready_J (rs := [23]) (by kernel_rfl) (by simp) ?_
  intro jj hjj
  obtain rfl := List.mem_singleton.1 hjj
  clear hjj
  refine op_W rfl (by rfl) fun K hK => ?_
  go_simp
  refine (aw_check HR6.out).mono ?_
  rintro r w7 ⟨rfl, hb⟩
  have hSS7 := HSS6.out.below hl16 hg6 hb
  have hl17 : l1 < w7.heap.size := Nat.lt_of_lt_of_le hl16 hb.size
  have hg7 : g < w7.heap.size := Nat.lt_of_lt_of_le hg6 hb.size
  have HB47 : Hid (Below w4.heap.size w4 w7) := hide (HB46.out.trans (hb.mono HB46.out.size))
  have HR7 := hide (HR6.out.below hb HR6.out.lt)
  have HSS7 := hide hSS7
  clear hS hb
  have hS := hSS7
  clear hSS7
  refine hK _ _ ⟨fun _ => hS, ?_⟩
  clear hK K
  refine take_D (i := 24) 60 (.bool true) rfl rfl (by kernel_rfl) (by kernel_rfl) (by kernel_rfl) (by kernel_rfl) (fun _ _ _ h => h) (Or.inl ⟨by rfl, fun W' hW => by go_simp⟩) hS ?_
  simp only [Act.put, List.setIfInBounds_toArray, List.set_cons_zero, List.set_cons_succ]
  refine take_D (i := 25) 61 (.bool true) rfl rfl (by kernel_rfl) (by kernel_rfl) (by kernel_rfl) (by kernel_rfl) (fun _ _ _ h => h) (Or.inl ⟨by rfl, fun W' hW => by go_simp⟩) hS ?_
  simp only [Act.put, List.setIfInBounds_toArray, List.set_cons_zero, List.set_cons_succ]
  refine take_D (i := 26) 62 (.agg #[.string ⟨#[]⟩, .int .i64 (-1), .slice none 0 0]) rfl rfl (by kernel_rfl) (by kernel_rfl) (by kernel_rfl) (by kernel_rfl) (fun _ _ _ h => h) (Or.inl ⟨by rfl, fun W' hW => by go_simp⟩) hS ?_
  simp only [Act.put, List.setIfInBounds_toArray, List.set_cons_zero, List.set_cons_succ]
  refine ready_J (rs := [27]) (by kernel_rfl) (by simp) ?_
  intro jj hjj
  obtain rfl := List.mem_singleton.1 hjj
  clear hjj
  refine op_W rfl (by rfl) fun K hK => ?_
  go_simp
  refine (aw_check2 w7).mono ?_
  rintro r w8 ⟨rfl, hb⟩
  have hSS8 := HSS7.out.below hl17 hg7 hb
  have hl18 : l1 < w8.heap.size := Nat.lt_of_lt_of_le hl17 hb.size
  have hg8 : g < w8.heap.size := Nat.lt_of_lt_of_le hg7 hb.size
  have HB48 : Hid (Below w4.heap.size w4 w8) := hide (HB47.out.trans (hb.mono HB47.out.size))
  have HR8 := hide (HR7.out.below hb HR7.out.lt)
  have HSS8 := hide hSS8
  clear hS hb
  have hS := hSS8
  clear hSS8
  refine hK _ _ ⟨fun _ => hS, ?_⟩
  clear hK K
  refine take_D (i := 28) 64 (.bool true) rfl rfl (by kernel_rfl) (by kernel_rfl) (by kernel_rfl) (by kernel_rfl) (fun _ _ _ h => h) (Or.inl ⟨by rfl, fun W' hW => by go_simp⟩) hS ?_
  simp only [Act.put, List.setIfInBounds_toArray, List.set_cons_zero, List.set_cons_succ]
  refine take_D (i := 29) 65 (.bool true) rfl rfl (by kernel_rfl) (by kernel_rfl) (by kernel_rfl) (by kernel_rfl) (fun _ _ _ h => h) (Or.inl ⟨by rfl, fun W' hW => by go_simp⟩) hS ?_
  simp only [Act.put, List.setIfInBounds_toArray, List.set_cons_zero, List.set_cons_succ]
  refine take_D (i := 30) 66 (.bool true) rfl rfl (by kernel_rfl) (by kernel_rfl) (by kernel_rfl) (by kernel_rfl) (fun _ _ _ h => h) (Or.inl ⟨by rfl, fun W' hW => by go_simp⟩) hS ?_
  simp only [Act.put, List.setIfInBounds_toArray, List.set_cons_zero, List.set_cons_succ]
  refine take_D (i := 31) 67 (.agg #[.string ⟨#[45, 62]⟩, .int .i64 0, .slice (some ⟨b, 0, none⟩) 2 2]) rfl rfl (by kernel_rfl) (by kernel_rfl) (by kernel_rfl) (by kernel_rfl) (fun _ _ _ h => h) (Or.inl ⟨by rfl, fun W' hW => by obtain ⟨⟨x0, x1, x2⟩, ⟨k0, k1, k2⟩, ⟨f0, f1, f2⟩⟩ := hW.cs; go_simp⟩) hS ?_
  simp only [Act.put, List.setIfInBounds_toArray, List.set_cons_zero, List.set_cons_succ]
  have HQ8 := hide (HQ4.out.below HB48.out HQ4.out.lt)
  refine ready_J (rs := [32]) (by kernel_rfl) (by simp) ?_
  intro jj hjj
  obtain rfl := List.mem_singleton.1 hjj
  clear hjj
  refine op_W rfl (by rfl) fun K hK => ?_
  go_simp
  refine (aw_text (HG4.out.below HB48.out) HQ8.out HR8.out).mono ?_
  rintro r w9 ⟨rfl, hb⟩
  have hSS9 := HSS8.out.below hl18 hg8 hb
  have hl19 : l1 < w9.heap.size := Nat.lt_of_lt_of_le hl18 hb.size
  have hg9 : g < w9.heap.size := Nat.lt_of_lt_of_le hg8 hb.size
  have HB49 : Hid (Below w4.heap.size w4 w9) := hide (HB48.out.trans (hb.mono HB48.out.size))
  have HR9 := hide (HR8.out.below hb HR8.out.lt)
  have HSS9 := hide hSS9
  clear hS hb
  have hS := hSS9
  clear hSS9
  refine hK _ _ ⟨fun _ => hS, ?_⟩
  clear hK K
  refine take_D (i := 33) 69 (.bool true) rfl rfl (by kernel_rfl) (by kernel_rfl) (by kernel_rfl) (by kernel_rfl) (fun _ _ _ h => h) (Or.inl ⟨by rfl, fun W' hW => by go_simp⟩) hS ?_
  simp only [Act.put, List.setIfInBounds_toArray, List.set_cons_zero, List.set_cons_succ]
  refine take_D (i := 34) 70 (.bool true) rfl rfl (by kernel_rfl) (by kernel_rfl) (by kernel_rfl) (by kernel_rfl) (fun _ _ _ h => h) (Or.inl ⟨by rfl, fun W' hW => by go_simp⟩) hS ?_
  simp only [Act.put, List.setIfInBounds_toArray, List.set_cons_zero, List.set_cons_succ]
  refine take_D (i := 35) 71 (.bool true) rfl rfl (by kernel_rfl) (by kernel_rfl) (by kernel_rfl) (by kernel_rfl) (fun _ _ _ h => h) (Or.inl ⟨by rfl, fun W' hW => by go_simp⟩) hS ?_
  simp only [Act.put, List.setIfInBounds_toArray, List.set_cons_zero, List.set_cons_succ]
  refine take_D (i := 36) 72 (.slice (some ⟨g, 0, none⟩) 2 cp) rfl rfl (by kernel_rfl) (by kernel_rfl) (by kernel_rfl) (by kernel_rfl) (fun _ _ _ h => h) (Or.inl ⟨by rfl, fun W' hW => by go_simp⟩) hS ?_
  simp only [Act.put, List.setIfInBounds_toArray, List.set_cons_zero, List.set_cons_succ]
  refine take_D (i := 37) 73 (.int .i64 2) rfl rfl (by kernel_rfl) (by kernel_rfl) (by kernel_rfl) (by kernel_rfl) (fun _ _ _ h => h) (Or.inl ⟨by rfl, fun W' hW => by go_simp⟩) hS ?_
  simp only [Act.put, List.setIfInBounds_toArray, List.set_cons_zero, List.set_cons_succ]
  refine take_D (i := 38) 74 (.bool true) rfl rfl (by kernel_rfl) (by kernel_rfl) (by kernel_rfl) (by kernel_rfl) (fun _ _ _ h => h) (Or.inl ⟨by rfl, fun W' hW => by go_simp⟩) hS ?_
  simp only [Act.put, List.setIfInBounds_toArray, List.set_cons_zero, List.set_cons_succ]
  refine take_D (i := 39) 75 (.bool true) rfl rfl (by kernel_rfl) (by kernel_rfl) (by kernel_rfl) (by kernel_rfl) (fun _ _ _ h => h) (Or.inl ⟨by rfl, fun W' hW => by go_simp⟩) hS ?_
  simp only [Act.put, List.setIfInBounds_toArray, List.set_cons_zero, List.set_cons_succ]
  refine take_D (i := 40) 76 (.bool true) rfl rfl (by kernel_rfl) (by kernel_rfl) (by kernel_rfl) (by kernel_rfl) (fun _ _ _ h => h) (Or.inl ⟨by rfl, fun W' hW => by go_simp⟩) hS ?_
  simp only [Act.put, List.setIfInBounds_toArray, List.set_cons_zero, List.set_cons_succ]
  refine take_D (i := 41) 77 (.slice (some ⟨g, 0, none⟩) 2 cp) rfl rfl (by kernel_rfl) (by kernel_rfl) (by kernel_rfl) (by kernel_rfl) (fun _ _ _ h => h) (Or.inl ⟨by rfl, fun W' hW => by go_simp⟩) hS ?_
  simp only [Act.put, List.setIfInBounds_toArray, List.set_cons_zero, List.set_cons_succ]
  refine take_D (i := 42) 78 (.pointer (some ⟨g, 1, none⟩)) rfl rfl (by kernel_rfl) (by kernel_rfl) (by kernel_rfl) (by kernel_rfl) (fun _ _ _ h => h) (Or.inl ⟨by rfl, fun W' hW => by go_simp⟩) hS ?_
  simp only [Act.put, List.setIfInBounds_toArray, List.set_cons_zero, List.set_cons_succ]
  refine take_D (i := 43) 79 (.int .i64 1) rfl rfl (by kernel_rfl) (by kernel_rfl) (by kernel_rfl) (by kernel_rfl) (fun _ _ _ h => h) (Or.inl ⟨by rfl, fun W' hW => by have q0 := hW.g1; go_simp⟩) hS ?_
  simp only [Act.put, List.setIfInBounds_toArray, List.set_cons_zero, List.set_cons_succ]
  refine take_D (i := 44) 80 (.bool true) rfl rfl (by kernel_rfl) (by kernel_rfl) (by kernel_rfl) (by kernel_rfl) (fun _ _ _ h => h) (Or.inl ⟨by rfl, fun W' hW => by go_simp⟩) hS ?_
  simp only [Act.put, List.setIfInBounds_toArray, List.set_cons_zero, List.set_cons_succ]
  refine take_D (i := 45) 81 (.bool true) rfl rfl (by kernel_rfl) (by kernel_rfl) (by kernel_rfl) (by kernel_rfl) (fun _ _ _ h => h) (Or.inl ⟨by rfl, fun W' hW => by go_simp⟩) hS ?_
  simp only [Act.put, List.setIfInBounds_toArray, List.set_cons_zero, List.set_cons_succ]
  refine take_D (i := 46) 82 (.bool true) rfl rfl (by kernel_rfl) (by kernel_rfl) (by kernel_rfl) (by kernel_rfl) (fun _ _ _ h => h) (Or.inl ⟨by rfl, fun W' hW => by go_simp⟩) hS ?_
  simp only [Act.put, List.setIfInBounds_toArray, List.set_cons_zero, List.set_cons_succ]
  refine take_D (i := 47) 83 (.agg #[.string ⟨#[]⟩, .int .i64 7, .slice none 0 0]) rfl rfl (by kernel_rfl) (by kernel_rfl) (by kernel_rfl) (by kernel_rfl) (fun _ _ _ h => h) (Or.inl ⟨by rfl, fun W' hW => by go_simp⟩) hS ?_
  simp only [Act.put, List.setIfInBounds_toArray, List.set_cons_zero, List.set_cons_succ]
  refine take_D (i := 49) 85 (.agg #[.string ⟨#[]⟩, .int .i64 0, .slice none 0 0]) rfl rfl (by kernel_rfl) (by kernel_rfl) (by kernel_rfl) (by kernel_rfl) (fun _ _ _ h => h) (Or.inl ⟨by rfl, fun W' hW => by go_simp⟩) hS ?_
  simp only [Act.put, List.setIfInBounds_toArray, List.set_cons_zero, List.set_cons_succ]
  refine ready_J (rs := [48]) (by kernel_rfl) (by simp) ?_
  intro jj hjj
  obtain rfl := List.mem_singleton.1 hjj
  clear hjj
  refine op_W rfl (by rfl) fun K hK => ?_
  go_simp
  refine (aw_canon' w9).mono ?_
  rintro r w10 ⟨pz, cz, rfl, hb, hinz⟩
  have hSS10 := HSS9.out.below hl19 hg9 hb
  have hl110 : l1 < w10.heap.size := Nat.lt_of_lt_of_le hl19 hb.size
  have hg10 : g < w10.heap.size := Nat.lt_of_lt_of_le hg9 hb.size
  have HB410 : Hid (Below w4.heap.size w4 w10) := hide (HB49.out.trans (hb.mono HB49.out.size))
  have HR10 := hide (HR9.out.below hb HR9.out.lt)
  have HSS10 := hide hSS10
  clear hS hb
  have hS := hSS10
  clear hSS10
  refine hK _ _ ⟨fun _ => hS, ?_⟩
  clear hK K
  refine ready_J (rs := [50]) (by kernel_rfl) (by simp) ?_
  intro jj hjj
  obtain rfl := List.mem_singleton.1 hjj
  clear hjj
  refine op_W rfl (by rfl) fun K hK => ?_
  go_simp
  refine (aw_sameZ hinz).mono ?_
  rintro r w11 ⟨rfl, hb⟩
  have hSS11 := HSS10.out.below hl110 hg10 hb
  have hl111 : l1 < w11.heap.size := Nat.lt_of_lt_of_le hl110 hb.size
  have hg11 : g < w11.heap.size := Nat.lt_of_lt_of_le hg10 hb.size
  have HB411 : Hid (Below w4.heap.size w4 w11) := hide (HB410.out.trans (hb.mono HB410.out.size))
  have HR11 := hide (HR10.out.below hb HR10.out.lt)
  have HSS11 := hide hSS11
  clear hS hb
  have hS := hSS11
  clear hSS11
  refine hK _ _ ⟨fun _ => hS, ?_⟩
  clear hK K
  refine take_D (i := 51) 87 (.bool true) rfl rfl (by kernel_rfl) (by kernel_rfl) (by kernel_rfl) (by kernel_rfl) (fun _ _ _ h => h) (Or.inl ⟨by rfl, fun W' hW => by go_simp⟩) hS ?_
  simp only [Act.put, List.setIfInBounds_toArray, List.set_cons_zero, List.set_cons_succ]
  refine take_D (i := 52) 88 (.bool true) rfl rfl (by kernel_rfl) (by kernel_rfl) (by kernel_rfl) (by kernel_rfl) (fun _ _ _ h => h) (Or.inl ⟨by rfl, fun W' hW => by go_simp⟩) hS ?_
  simp only [Act.put, List.setIfInBounds_toArray, List.set_cons_zero, List.set_cons_succ]
  refine take_D (i := 53) 89 (.slice (some ⟨l1, o1, none⟩) 1 c1) rfl rfl (by kernel_rfl) (by kernel_rfl) (by kernel_rfl) (by kernel_rfl) (fun _ _ _ h => h) (Or.inl ⟨by rfl, fun W' hW => by go_simp⟩) hS ?_
  simp only [Act.put, List.setIfInBounds_toArray, List.set_cons_zero, List.set_cons_succ]
  refine take_D (i := 54) 90 (.agg #[.string ⟨#[]⟩, .int .i64 1, .slice none 0 0]) rfl rfl (by kernel_rfl) (by kernel_rfl) (by kernel_rfl) (by kernel_rfl) (fun _ _ _ h => h) (Or.inl ⟨by rfl, fun W' hW => by obtain ⟨⟨x0, x1, x2⟩, ⟨k0, k1, k2⟩, ⟨f0, f1, f2⟩⟩ := hW.cs; go_simp⟩) hS ?_
  simp only [Act.put, List.setIfInBounds_toArray, List.set_cons_zero, List.set_cons_succ]
  refine take_D (i := 56) 92 (.agg #[.string ⟨#[84]⟩, .int .i64 0, .slice (some ⟨n + 1, 0, none⟩) 1 1]) rfl rfl (by kernel_rfl) (by kernel_rfl) (by kernel_rfl) (by kernel_rfl) (fun _ _ _ h => h) (Or.inl ⟨by rfl, fun W' hW => by obtain ⟨⟨x0, x1, x2⟩, ⟨k0, k1, k2⟩, ⟨f0, f1, f2⟩⟩ := hW.cs; go_simp⟩) hS ?_
  simp only [Act.put, List.setIfInBounds_toArray, List.set_cons_zero, List.set_cons_succ]
  refine ready_J (rs := [55]) (by kernel_rfl) (by simp) ?_
  intro jj hjj
  obtain rfl := List.mem_singleton.1 hjj
  clear hjj
  refine op_W rfl (by rfl) fun K hK => ?_
  go_simp
  refine (aw_apply' (fun x hx => Nat.lt_of_lt_of_le hx HB411.out.size) (RM.keep (KP.of_below HB411.out fun x hx => hx) (fun x hx => hx) (fun t ds h => FaIn.keep (KP.of_below HB411.out fun x hx => hx) (fun x hx => hx) t ds h) HRM4.out)).mono ?_
  rintro r w12 ⟨py, cy, rfl, hb, hiny⟩
  have hSS12 := HSS11.out.below hl111 hg11 hb
  have hl112 : l1 < w12.heap.size := Nat.lt_of_lt_of_le hl111 hb.size
  have hg12 : g < w12.heap.size := Nat.lt_of_lt_of_le hg11 hb.size
  have HB412 : Hid (Below w4.heap.size w4 w12) := hide (HB411.out.trans (hb.mono HB411.out.size))
  have HR12 := hide (HR11.out.below hb HR11.out.lt)
  have HSS12 := hide hSS12
  clear hS hb
  have hS := hSS12
  clear hSS12
  refine hK _ _ ⟨fun _ => hS, ?_⟩
  clear hK K
  refine ready_J (rs := [57]) (by kernel_rfl) (by simp) ?_
  intro jj hjj
  obtain rfl := List.mem_singleton.1 hjj
  clear hjj
  refine op_W rfl (by rfl) fun K hK => ?_
  go_simp
  refine (aw_sameK hiny HR12.out).mono ?_
  rintro r w13 ⟨rfl, hb⟩
  have hSS13 := HSS12.out.below hl112 hg12 hb
  have hl113 : l1 < w13.heap.size := Nat.lt_of_lt_of_le hl112 hb.size
  have hg13 : g < w13.heap.size := Nat.lt_of_lt_of_le hg12 hb.size
  have HB413 : Hid (Below w4.heap.size w4 w13) := hide (HB412.out.trans (hb.mono HB412.out.size))
  have HR13 := hide (HR12.out.below hb HR12.out.lt)
  have HSS13 := hide hSS13
  clear hS hb
  have hS := hSS13
  clear hSS13
  refine hK _ _ ⟨fun _ => hS, ?_⟩
  clear hK K
  refine take_D (i := 58) 94 (.bool true) rfl rfl (by kernel_rfl) (by kernel_rfl) (by kernel_rfl) (by kernel_rfl) (fun _ _ _ h => h) (Or.inl ⟨by rfl, fun W' hW => by go_simp⟩) hS ?_
  simp only [Act.put, List.setIfInBounds_toArray, List.set_cons_zero, List.set_cons_succ]
  refine take_D (i := 59) 95 (.bool true) rfl rfl (by kernel_rfl) (by kernel_rfl) (by kernel_rfl) (by kernel_rfl) (fun _ _ _ h => h) (Or.inl ⟨by rfl, fun W' hW => by go_simp⟩) hS ?_
  simp only [Act.put, List.setIfInBounds_toArray, List.set_cons_zero, List.set_cons_succ]
  refine take_D (i := 60) 96 (.bool true) rfl rfl (by kernel_rfl) (by kernel_rfl) (by kernel_rfl) (by kernel_rfl) (fun _ _ _ h => h) (Or.inl ⟨by rfl, fun W' hW => by go_simp⟩) hS ?_
  simp only [Act.put, List.setIfInBounds_toArray, List.set_cons_zero, List.set_cons_succ]
  refine take_D (i := 61) 97 (.bool true) rfl rfl (by kernel_rfl) (by kernel_rfl) (by kernel_rfl) (by kernel_rfl) (fun _ _ _ h => h) (Or.inl ⟨by rfl, fun W' hW => by go_simp⟩) hS ?_
  simp only [Act.put, List.setIfInBounds_toArray, List.set_cons_zero, List.set_cons_succ]
  refine take_D (i := 62) 98 (.bool true) rfl rfl (by kernel_rfl) (by kernel_rfl) (by kernel_rfl) (by kernel_rfl) (fun _ _ _ h => h) (Or.inl ⟨by rfl, fun W' hW => by go_simp⟩) hS ?_
  simp only [Act.put, List.setIfInBounds_toArray, List.set_cons_zero, List.set_cons_succ]
  refine take_D (i := 63) 99 (.bool true) rfl rfl (by kernel_rfl) (by kernel_rfl) (by kernel_rfl) (by kernel_rfl) (fun _ _ _ h => h) (Or.inl ⟨by rfl, fun W' hW => by go_simp⟩) hS ?_
  simp only [Act.put, List.setIfInBounds_toArray, List.set_cons_zero, List.set_cons_succ]
  refine take_D (i := 64) 100 (.bool true) rfl rfl (by kernel_rfl) (by kernel_rfl) (by kernel_rfl) (by kernel_rfl) (fun _ _ _ h => h) (Or.inl ⟨by rfl, fun W' hW => by go_simp⟩) hS ?_
  simp only [Act.put, List.setIfInBounds_toArray, List.set_cons_zero, List.set_cons_succ]
  refine take_D (i := 65) 101 (.bool true) rfl rfl (by kernel_rfl) (by kernel_rfl) (by kernel_rfl) (by kernel_rfl) (fun _ _ _ h => h) (Or.inl ⟨by rfl, fun W' hW => by go_simp⟩) hS ?_
  simp only [Act.put, List.setIfInBounds_toArray, List.set_cons_zero, List.set_cons_succ]
  refine ready_J (rs := [66]) (by kernel_rfl) (by simp) ?_
  intro jj hjj
  obtain rfl := List.mem_singleton.1 hjj
  clear hjj
  refine op_W rfl (by rfl) fun K hK => ?_
  go_simp
  refine (texts_nil w13).mono ?_
  rintro r w14 ⟨rfl, rfl⟩
  refine hK _ _ ⟨fun _ => hS, ?_⟩
  clear hK K
  refine take_D (i := 67) 103 (.bool true) rfl rfl (by kernel_rfl) (by kernel_rfl) (by kernel_rfl) (by kernel_rfl) (fun _ _ _ h => h) (Or.inl ⟨by rfl, fun W' hW => by go_simp⟩) hS ?_
  simp only [Act.put, List.setIfInBounds_toArray, List.set_cons_zero, List.set_cons_succ]
  refine take_D (i := 68) 0 (.bool true) rfl rfl (by kernel_rfl) (by kernel_rfl) (by kernel_rfl) (by kernel_rfl) (fun _ _ _ h => h) (Or.inl ⟨by rfl, fun W' hW => by go_simp⟩) hS ?_
  simp only [Act.put, List.setIfInBounds_toArray, List.set_cons_zero, List.set_cons_succ]
  refine done_J (by kernel_rfl) ?_ _
  go_wp2_with fail
  go_ret
  refine ⟨rfl, ?_⟩
  rw [hN]
  exact HB4.out.trans (HB413.out.mono (by have := HB4.out.size; omega))
end Go.Proofs.YteoflpalmckikaaDoor
