/-
  WHAT A TEXT's TOKENS ARE, as plain functions on lists of bytes: kinds of bytes, key words, signs, names, a token's length and kind, a line's tokens, a text's. No program in it.
-/
namespace Go.Proofs.YtebcdjlhmoffjaaDoor

def dg (c : UInt8) : Bool := decide (48 ≤ (c.toNat : Int)) && decide ((c.toNat : Int) ≤ 57)
def sm (c : UInt8) : Bool := decide (97 ≤ (c.toNat : Int)) && decide ((c.toNat : Int) ≤ 122)
def gr (c : UInt8) : Bool := decide (65 ≤ (c.toNat : Int)) && decide ((c.toNat : Int) ≤ 90)
def pt (c : UInt8) : Bool := sm c || gr c || dg c
def kw (l : List UInt8) : Bool := l == [99, 97, 115, 101] || l == [111, 102] || l == [108, 101, 116] || l == [105, 110] || l == [100, 111] || l == [100, 111, 115] || l == [105, 102] || l == [116, 104, 101, 110] || l == [101, 108, 115, 101] || l == [100, 97, 116, 97]
def sg (l : List UInt8) : Bool := l == [45, 62] || l == [60, 45] || l == [61, 61] || l == [61] || l == [60] || l == [43] || l == [45] || l == [42] || l == [47] || l == [92] || l == [40] || l == [41] || l == [123] || l == [125] || l == [59] || l == [124]
def ky (l : List UInt8) : Bool := kw l || sg l
def wd (l : List UInt8) : Bool := !l.isEmpty && decide (l.length ≤ 20) && l.all pt
def nm (l : List UInt8) : Bool := wd l && sm (l.headD 0) && !kw l
def cn (l : List UInt8) : Bool := wd l && gr (l.headD 0)

/-- The number that digits say. -/
def nv (l : List UInt8) : Nat := l.foldl (fun n c => n * 10 + (c.toNat - 48)) 0
def big : Nat := 9223372036854775807

/-- How many bytes the token has with which a text begins. -/
def tl : List UInt8 → Nat
  | [] => 0
  | c :: r => if dg c then 1 + (r.takeWhile dg).length else if pt c then 1 + (r.takeWhile pt).length else match r with | [] => 1 | d :: _ => if sg [c, d] then 2 else 1

/-- A token's kind and number, of its text; none: there can't be one. -/
def tk (l : List UInt8) : Option (Int × Int) :=
  if dg (l.headD 0) then (if nv l ≤ big then some (1, (nv l : Int)) else none) else if ky l then some (4, 0) else if nm l then some (2, 0) else if cn l then some (3, 0) else none

/-- What is left behind gaps, and a comment. -/
def gp (l : List UInt8) : List UInt8 := l.dropWhile (· == 32)
def sk (l : List UInt8) : List UInt8 := if (gp l).take 2 == [45, 45] then [] else gp l

structure Tok where
  kd : Int
  tx : List UInt8
  nu : Int
  ln : Int
  co : Int

/-- A line's tokens from a place on, and where there is one that can't be. -/
def rawL (n : Int) : Nat → Nat → List UInt8 → List Tok × Option (Int × Int)
  | 0, _, _ => ([], none)
  | f + 1, at_, l => match sk l with
    | [] => ([], none)
    | c :: r => match tk ((c :: r).take (tl (c :: r))) with
      | none => ([], some (n, ((at_ + (l.length - (r.length + 1)) : Nat) : Int) + 1))
      | some x => (⟨x.1, (c :: r).take (tl (c :: r)), x.2, n, ((at_ + (l.length - (r.length + 1)) : Nat) : Int) + 1⟩ :: (rawL n f (at_ + (l.length - (r.length + 1)) + tl (c :: r)) ((c :: r).drop (tl (c :: r)))).1,
        (rawL n f (at_ + (l.length - (r.length + 1)) + tl (c :: r)) ((c :: r).drop (tl (c :: r)))).2)
def raw (n : Int) (at_ : Nat) (l : List UInt8) : List Tok × Option (Int × Int) := rawL n l.length at_ l

theorem gp_le (l : List UInt8) : (gp l).length ≤ l.length := by
  unfold gp; induction l with
  | nil => simp
  | cons a r ih => simp only [List.dropWhile_cons]; split <;> simp <;> omega
theorem sk_le (l : List UInt8) : (sk l).length ≤ l.length := by
  unfold sk; split
  · simp
  · exact gp_le l
theorem tl_pos (c : UInt8) (r : List UInt8) : 1 ≤ tl (c :: r) := by
  simp only [tl]; split
  · omega
  · split
    · omega
    · split
      · omega
      · split <;> omega
theorem tw_le {p : UInt8 → Bool} (r : List UInt8) : (r.takeWhile p).length ≤ r.length := by
  induction r with
  | nil => simp
  | cons a r ih => simp only [List.takeWhile_cons]; split <;> simp; omega
theorem tl_le (l : List UInt8) : tl l ≤ l.length := by
  cases l with
  | nil => simp [tl]
  | cons c r =>
    simp only [tl]; split
    · have := tw_le (p := dg) r; simp; omega
    · split
      · have := tw_le (p := pt) r; simp; omega
      · split
        · simp
        · split <;> simp

theorem rawL_fuel (n : Int) : ∀ (f g at_ : Nat) (l : List UInt8), l.length ≤ f → l.length ≤ g → rawL n f at_ l = rawL n g at_ l := by
  intro f
  induction f with
  | zero =>
    intro g at_ l hf hg
    obtain rfl : l = [] := List.length_eq_zero_iff.1 (by omega)
    cases g with
    | zero => rfl
    | succ g => simp [rawL, sk, gp]
  | succ f ih =>
    intro g at_ l hf hg
    cases g with
    | zero =>
      obtain rfl : l = [] := List.length_eq_zero_iff.1 (by omega)
      simp [rawL, sk, gp]
    | succ g =>
      unfold rawL
      have hk := sk_le l
      cases hs : sk l with
      | nil => rfl
      | cons c r =>
        rw [hs] at hk
        have hp := tl_pos c r
        simp only [List.length_cons] at hk
        have hd : ((c :: r).drop (tl (c :: r))).length ≤ r.length := by simp only [List.length_drop, List.length_cons]; omega
        simp only
        rw [ih g _ _ (by omega) (by omega)]

/-- One step of a line. -/
theorem raw_step (n : Int) (at_ : Nat) (l : List UInt8) : raw n at_ l = match sk l with
    | [] => ([], none)
    | c :: r => match tk ((c :: r).take (tl (c :: r))) with
      | none => ([], some (n, ((at_ + (l.length - (r.length + 1)) : Nat) : Int) + 1))
      | some x => (⟨x.1, (c :: r).take (tl (c :: r)), x.2, n, ((at_ + (l.length - (r.length + 1)) : Nat) : Int) + 1⟩ :: (raw n (at_ + (l.length - (r.length + 1)) + tl (c :: r)) ((c :: r).drop (tl (c :: r)))).1,
        (raw n (at_ + (l.length - (r.length + 1)) + tl (c :: r)) ((c :: r).drop (tl (c :: r)))).2) := by
  have hk := sk_le l
  cases l with
  | nil => simp [raw, rawL, sk, gp]
  | cons a b =>
    unfold raw
    simp only [List.length_cons]
    rw [rawL]
    cases hs : sk (a :: b) with
    | nil => rfl
    | cons c r =>
      rw [hs] at hk
      simp only [List.length_cons] at hk
      have hp := tl_pos c r
      have hd : ((c :: r).drop (tl (c :: r))).length ≤ b.length := by simp only [List.length_drop, List.length_cons]; omega
      simp only [List.length_cons]
      rw [rawL_fuel n b.length _ _ _ hd (Nat.le_refl _)]

/-- A text's lines, and their numbers. -/
def spl : List UInt8 → List (List UInt8)
  | [] => [[]]
  | c :: r => if c == 10 then [] :: spl r else match spl r with | [] => [[c]] | h :: t => (c :: h) :: t
def num (n : Int) : List (List UInt8) → List (Int × List UInt8)
  | [] => []
  | h :: t => (n, h) :: num (n + 1) t
/-- The tokens of lines, up to where there is one that can't be. -/
def rawLs : List (Int × List UInt8) → List Tok × Option (Int × Int)
  | [] => ([], none)
  | x :: r => match (raw x.1 0 x.2).2 with
    | some e => ((raw x.1 0 x.2).1, some e)
    | none => ((raw x.1 0 x.2).1 ++ (rawLs r).1, (rawLs r).2)
def pl (t : Tok) : Int × Int := (t.ln, t.co)
/-- With at most 2000 tokens. -/
def cap (q : List Tok × Option (Int × Int)) : List Tok × Option (Int × Int) :=
  match q.1[2000]? with
  | some t => ([], some (pl t))
  | none => match q.2 with
    | some e => ([], some e)
    | none => (q.1, none)
def lexM (l : List UInt8) : List Tok × Option (Int × Int) := cap (rawLs (num 1 (spl l)))

theorem rawLs_append (a b : List (Int × List UInt8)) : rawLs (a ++ b) = match (rawLs a).2 with
    | some e => ((rawLs a).1, some e)
    | none => ((rawLs a).1 ++ (rawLs b).1, (rawLs b).2) := by
  induction a with
  | nil => simp [rawLs]
  | cons x r ih =>
    simp only [List.cons_append, rawLs]
    cases h : (raw x.1 0 x.2).2 with
    | some e => simp
    | none =>
      simp only [ih]
      cases h2 : (rawLs r).2 <;> simp [List.append_assoc]
/-- What has an error has it still, whatever is behind. -/
theorem cap_stays (a b : List (Int × List UInt8)) {e : Int × Int} (h : (cap (rawLs a)).2 = some e) : cap (rawLs (a ++ b)) = ([], some e) := by
  rw [rawLs_append]
  unfold cap at h ⊢
  cases h1 : (rawLs a).1[2000]? with
  | some t =>
    rw [h1] at h
    simp only [Option.some.injEq] at h
    have hl : 2000 < (rawLs a).1.length := (List.getElem?_eq_some_iff.1 h1).1
    cases h2 : (rawLs a).2 with
    | some e' => simp only [h1, h]
    | none => simp only [List.getElem?_append_left hl, h1, h]
  | none =>
    rw [h1] at h
    cases h2 : (rawLs a).2 with
    | some e' => rw [h2] at h; simp only [Option.some.injEq] at h; simp only [h1, h]
    | none => rw [h2] at h; simp at h
theorem cap_err (q : List Tok × Option (Int × Int)) {e : Int × Int} (h : (cap q).2 = some e) : cap q = ([], some e) := by
  unfold cap at h ⊢
  cases h1 : q.1[2000]? with
  | some t => rw [h1] at h; simp only [Option.some.injEq] at h; simp only [h]
  | none =>
    rw [h1] at h
    cases h2 : q.2 with
    | some e' => rw [h2] at h; simp only [Option.some.injEq] at h; simp only [h]
    | none => rw [h2] at h; simp at h
end Go.Proofs.YtebcdjlhmoffjaaDoor
