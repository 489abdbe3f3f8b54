/-
  Lines that begin in one column are parted, and lines further right go on: the mathematics of LayoutLines. No program in it.
-/
import Derived.Test.YtnifnbndkbmdcaaDoorFitMath
namespace Go.Proofs.YtnifnbndkbmdcaaDoor
open Go.RowKit
set_option linter.unusedVariables false

def lnC (b : Int) (i : Nat) (x : Bool × UInt8) : Int := if (decide (0 < i) && x.1) = true then b + 1 + (x.2.toNat : Int) else b
def tokX (i : Nat) (c : Int) : Tok := ⟨2, [120], 0, (i : Int) + 1, c⟩
def tokY (i : Nat) (c : Int) : Tok := ⟨2, [121], 0, (i : Int) + 1, c + 2⟩
/-- The tokens of lines from the i-th on. -/
def toksL (b : Int) : Nat → List (Bool × UInt8) → List Tok
  | _, [] => []
  | i, x :: r => tokX i (lnC b i x) :: tokY i (lnC b i x) :: toksL b (i + 1) r
def parted (i : Nat) (x : Bool × UInt8) : Bool := decide (0 < i) && !x.1
def partsL : Nat → List (Bool × UInt8) → Nat
  | _, [] => 0
  | i, x :: r => (if parted i x then 1 else 0) + partsL (i + 1) r
/-- What is told of them. -/
def bodyL (b : Int) : Nat → List (Bool × UInt8) → List Tok
  | _, [] => []
  | i, x :: r => (if parted i x then [pt1 59 (tokX i (lnC b i x))] else []) ++ (tokX i (lnC b i x) :: tokY i (lnC b i x) :: bodyL b (i + 1) r)
theorem toksL_snoc (b : Int) (l : List (Bool × UInt8)) (x : Bool × UInt8) : ∀ i, toksL b i (l ++ [x]) = toksL b i l ++ [tokX (i + l.length) (lnC b (i + l.length) x), tokY (i + l.length) (lnC b (i + l.length) x)] := by
  induction l with
  | nil => intro i; simp [toksL]
  | cons y r ih => intro i; simp only [List.cons_append, toksL, ih]; rw [show i + 1 + r.length = i + (y :: r).length by simp; omega]
theorem partsL_snoc (l : List (Bool × UInt8)) (x : Bool × UInt8) : ∀ i, partsL i (l ++ [x]) = partsL i l + (if parted (i + l.length) x then 1 else 0) := by
  induction l with
  | nil => intro i; simp [partsL]
  | cons y r ih => intro i; simp only [List.cons_append, partsL, ih]; rw [show i + 1 + r.length = i + (y :: r).length by simp; omega]; omega
theorem toksL_len (b : Int) (l : List (Bool × UInt8)) : ∀ i, (toksL b i l).length = 2 * l.length := by
  induction l with
  | nil => intro i; rfl
  | cons y r ih => intro i; simp only [toksL, List.length_cons, ih]; omega
theorem partsL_le (l : List (Bool × UInt8)) : ∀ i, partsL i l ≤ l.length := by
  induction l with
  | nil => intro i; exact Nat.le_refl _
  | cons y r ih => intro i; have := ih (i + 1); simp only [partsL, List.length_cons]; split <;> omega
theorem bodyL_len (b : Int) (l : List (Bool × UInt8)) : ∀ i, (bodyL b i l).length = 2 * l.length + partsL i l := by
  induction l with
  | nil => intro i; rfl
  | cons y r ih => intro i; simp only [bodyL, partsL, List.length_append, List.length_cons, ih]; split <;> simp <;> omega
def semi (t : Tok) : Bool := t.kd == 4 && t.tx == [59]
theorem bodyL_semi (b : Int) (l : List (Bool × UInt8)) : ∀ i, (bodyL b i l).countP semi = partsL i l := by
  induction l with
  | nil => intro i; rfl
  | cons y r ih =>
    intro i
    simp only [bodyL, partsL, List.countP_append, List.countP_cons, ih]
    have h1 : semi (tokX i (lnC b i y)) = false := rfl
    have h2 : semi (tokY i (lnC b i y)) = false := rfl
    rw [h1, h2]
    split
    · rw [show [pt1 59 (tokX i (lnC b i y))].countP semi = 1 from rfl]; simp
    · simp
theorem lnC_ge (b : Int) (i : Nat) (x : Bool × UInt8) : b ≤ lnC b i x := by unfold lnC; split <;> omega
theorem beh_name (t : Tok) (rest : List Tok) (st : List Blk) (o : List Tok) (h : t.kd = 2) : behM t rest st o false = (st, o, false) := by
  have e : ∀ s, isK t s = false := fun s => by unfold isK; rw [h]; rfl
  unfold behM opensK beginsK
  rw [e, e, e, e, e]; rfl
theorem mid_name (nl : Bool) (t : Tok) (s : Sm) (h : t.kd = 2) : mid nl t s = some (if (nl && !s.2.2) = true then lineM t s.1 s.2.1 else (s.1, s.2.1)) := by
  have e : ∀ s, isK t s = false := fun s => by unfold isK; rw [h]; rfl
  unfold mid closesK
  rw [e, e]; rfl
theorem line_at (b : Int) (hb : 1 ≤ b) (i : Nat) (hi : 0 < i) (x : Bool × UInt8) (o : List Tok) : lineM (tokX i (lnC b i x)) [⟨[], b⟩] o = ([⟨[], b⟩], o ++ (if parted i x then [pt1 59 (tokX i (lnC b i x))] else [])) := by
  have hge := lnC_ge b i x
  have he : endM (fun c => decide ((tokX i (lnC b i x)).co < c)) (tokX i (lnC b i x)) [⟨[], b⟩] o = ([⟨[], b⟩], o) :=
    endM_stop (by show (true && decide (lnC b i x < b)) = false; rw [decide_eq_false (by omega)]; rfl)
  have hl : lineM (tokX i (lnC b i x)) [⟨[], b⟩] o = ([⟨[], b⟩], if ((([] : List UInt8) == []) && decide (0 < b) && b == (tokX i (lnC b i x)).co) = true then o ++ [pt1 59 (tokX i (lnC b i x))] else o) := by
    unfold lineM; rw [he]; rfl
  have hp : ((([] : List UInt8) == []) && decide (0 < b) && b == (tokX i (lnC b i x)).co) = parted i x := by
    have h0 : decide (0 < b) = true := decide_eq_true (by omega)
    rw [h0]
    unfold parted lnC tokX
    cases hx : x.1 <;> simp [hi]
    omega
  rw [hl, hp]
  split <;> simp
theorem go_one (b : Int) (i : Nat) (c : Int) (prev : Option Tok) (rest : List Tok) (s : Sm) (st : List Blk) (o : List Tok) (h : (if (over prev (tokX i c) && !s.2.2) = true then lineM (tokX i c) s.1 s.2.1 else (s.1, s.2.1)) = (st, o)) :
    goM prev (tokX i c :: tokY i c :: rest) s = goM (some (tokY i c)) rest (st, (o ++ [tokX i c]) ++ [tokY i c], false) := by
  have h1 : stepM (over prev (tokX i c)) (tokX i c) (tokY i c :: rest) s = some (st, o ++ [tokX i c], false) := by
    unfold stepM
    rw [mid_name _ _ _ rfl, h]
    simp only
    rw [beh_name _ _ _ _ rfl]
  have h2 : stepM (over (some (tokX i c)) (tokY i c)) (tokY i c) rest (st, o ++ [tokX i c], false) = some (st, (o ++ [tokX i c]) ++ [tokY i c], false) := by
    have ho : over (some (tokX i c)) (tokY i c) = false := decide_eq_false (by simp [tokX, tokY])
    unfold stepM
    rw [mid_name _ _ _ rfl, ho]
    simp only [Bool.false_and, Bool.false_eq_true, if_false]
    rw [beh_name _ _ _ _ rfl]
  rw [goM, h1]
  simp only
  rw [goM, h2]
theorem go_lines (b : Int) (hb : 1 ≤ b) (l : List (Bool × UInt8)) : ∀ (i : Nat) (p : Tok) (o : List Tok), 0 < i → p.ln = (i : Int) →
    goM (some p) (toksL b i l) ([⟨[], b⟩], o, false) = .ok ([⟨[], b⟩], o ++ bodyL b i l, false) := by
  induction l with
  | nil => intro i p o _ _; simp [toksL, bodyL, goM]
  | cons x r ih =>
    intro i p o hi hp
    have hov : over (some p) (tokX i (lnC b i x)) = true := decide_eq_true (by rw [hp]; show (i : Int) < (i : Int) + 1; omega)
    have hl := line_at b hb i hi x o
    show goM (some p) (tokX i (lnC b i x) :: tokY i (lnC b i x) :: toksL b (i + 1) r) _ = _
    rw [go_one b i (lnC b i x) (some p) (toksL b (i + 1) r) ([⟨[], b⟩], o, false) [⟨[], b⟩] (o ++ (if parted i x then [pt1 59 (tokX i (lnC b i x))] else [])) (by rw [hov]; exact hl)]
    rw [ih (i + 1) (tokY i (lnC b i x)) _ (by omega) (by show (i : Int) + 1 = ((i + 1 : Nat) : Int); omega)]
    simp [bodyL]
/-- What Layout tells of lines. -/
theorem lay_lines (b : Int) (hb : 1 ≤ b) (x : Bool × UInt8) (r : List (Bool × UInt8)) : ∃ u v, layM (toksL b 0 (x :: r)) = (pt1 123 u :: (bodyL b 0 (x :: r) ++ [pt1 125 v]), (0, 0), 0) := by
  have hc : lnC b 0 x = b := by unfold lnC; simp
  have e : toksL b 0 (x :: r) = tokX 0 b :: tokY 0 b :: toksL b 1 r := by show tokX 0 (lnC b 0 x) :: _ = _; rw [hc]
  rw [e, lay_cons]
  generalize (tokX 0 b :: tokY 0 b :: toksL b 1 r).getLast (by simp) = v
  have hs : start (tokX 0 b) = ([⟨[], b⟩], [pt1 123 (tokX 0 b)], true) := by
    unfold start
    rw [show isK (tokX 0 b) [123] = false from rfl]
    simp only [Bool.false_eq_true, if_false]
    rw [show max (tokX 0 b).co 1 = b by show max b 1 = b; omega]
  rw [hs, go_one b 0 b none (toksL b 1 r) _ [⟨[], b⟩] [pt1 123 (tokX 0 b)] rfl, go_lines b hb r 1 (tokY 0 b) _ (by omega) rfl]
  refine ⟨tokX 0 b, v, ?_⟩
  simp only [resM]
  have he : endM every v [⟨[], b⟩] ((([pt1 123 (tokX 0 b)] ++ [tokX 0 b]) ++ [tokY 0 b]) ++ bodyL b 1 r) = ([], ((([pt1 123 (tokX 0 b)] ++ [tokX 0 b]) ++ [tokY 0 b]) ++ bodyL b 1 r) ++ [pt1 125 v]) := by
    rw [endM_go rfl]; rfl
  rw [fin_nil (by simp only; rw [he])]
  simp only
  rw [he]
  simp [bodyL, parted, hc]
end Go.Proofs.YtnifnbndkbmdcaaDoor
