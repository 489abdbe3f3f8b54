/-
  TREES, WRITTEN TYPES AND PROGRAMS, as Lean's own data, and the words of their texts. No program in it.
-/
import Derived.Test.YtebcdjlhmoffjaaDoorMath
import Derived.Lib.ItoaNum
namespace Go.Proofs.YtebcdjlhmoffjaaDoor
set_option linter.unusedVariables false

/-- A tree: its kind, a name, a number, names, and what is below. -/
structure Tr where
  kd : Int
  nm : List UInt8
  nu : Int
  ns : List (List UInt8)
  ks : List Tr
theorem Tr.kid_lt (t : Tr) : ∀ k ∈ t.ks, SizeOf.sizeOf k < SizeOf.sizeOf t := by
  intro k hk
  cases t
  have := List.sizeOf_lt_of_mem hk
  simp at *
  omega
def Tr.fold {α : Type} (f : Tr → List (Tr × α) → α) (t : Tr) : α := f t (t.ks.attach.map fun k => (k.1, Tr.fold f k.1))
  termination_by SizeOf.sizeOf t
  decreasing_by exact Tr.kid_lt t k.1 k.2
theorem Tr.fold_eq {α : Type} (f : Tr → List (Tr × α) → α) (t : Tr) : t.fold f = f t (t.ks.map fun k => (k, k.fold f)) := by
  rw [Tr.fold]
  congr 1
  exact List.attach_map_val (f := fun k => (k, Tr.fold f k))
theorem Tr.ind {p : Tr → Prop} (h : ∀ t : Tr, (∀ k ∈ t.ks, p k) → p t) (t : Tr) : p t := by
  have H : ∀ n, ∀ t : Tr, SizeOf.sizeOf t ≤ n → p t := by
    intro n
    induction n with
    | zero => intro t ht; cases t; simp at ht
    | succ n ih => exact fun t ht => h t fun k hk => ih k (by have := t.kid_lt k hk; omega)
  exact H _ t (Nat.le_refl _)
/-- A written type. -/
structure Sg where
  nm : List UInt8
  ar : List Sg
theorem Sg.kid_lt (t : Sg) : ∀ k ∈ t.ar, SizeOf.sizeOf k < SizeOf.sizeOf t := by
  intro k hk
  cases t
  have := List.sizeOf_lt_of_mem hk
  simp at *
  omega
def Sg.fold {α : Type} (f : Sg → List (Sg × α) → α) (t : Sg) : α := f t (t.ar.attach.map fun k => (k.1, Sg.fold f k.1))
  termination_by SizeOf.sizeOf t
  decreasing_by exact Sg.kid_lt t k.1 k.2
theorem Sg.fold_eq {α : Type} (f : Sg → List (Sg × α) → α) (t : Sg) : t.fold f = f t (t.ar.map fun k => (k, k.fold f)) := by
  rw [Sg.fold]
  congr 1
  exact List.attach_map_val (f := fun k => (k, Sg.fold f k))
theorem Sg.ind {p : Sg → Prop} (h : ∀ t : Sg, (∀ k ∈ t.ar, p k) → p t) (t : Sg) : p t := by
  have H : ∀ n, ∀ t : Sg, SizeOf.sizeOf t ≤ n → p t := by
    intro n
    induction n with
    | zero => intro t ht; cases t; simp at ht
    | succ n ih => exact fun t ht => h t fun k hk => ih k (by have := t.kid_lt k hk; omega)
  exact H _ t (Nat.le_refl _)
/-- A constructor, a type, a name of a program, a program. -/
structure Fm where
  nm : List UInt8
  ar : List Sg
structure Dt where
  nm : List UInt8
  ps : List (List UInt8)
  fs : List Fm
structure Df where
  nm : List UInt8
  bd : Tr
structure Pg where
  ds : List Dt
  fs : List Df

/-- A word of a text: 0, with a gap ahead; 1, with none behind; 2, with none ahead. -/
abbrev Wd := Nat × List UInt8
def pw (s : List UInt8) : Wd := (0, s)
/-- Lists of words, with a sign between. -/
def sepW (s : List UInt8) : List (List Wd) → List Wd
  | [] => []
  | a :: r => a ++ r.flatMap fun b => pw s :: b
def brW (l : List Wd) : List Wd := (1, [40]) :: (l ++ [(2, [41])])
def isAt (k : Int) : Bool := k == 1 || k == 2 || k == 3
def atW (k : Tr × List Wd) : List Wd := if isAt k.1.kd then k.2 else brW k.2
def t0 : Tr := ⟨0, [], 0, [], []⟩
def g0 {α : Type} (l : List (Tr × List α)) (i : Nat) : Tr × List α := l.getD i (t0, [])
/-- A tree's words, by those of its Kids. -/
def wsF (t : Tr) (l : List (Tr × List Wd)) : List Wd :=
  if t.kd = 1 then [pw (Lib.itoa t.nu)]
  else if t.kd = 2 ∨ t.kd = 3 then [pw t.nm]
  else if t.kd = 4 then (1, [92]) :: (t.ns.map pw ++ (pw [45, 62] :: (g0 l 0).2))
  else if t.kd = 5 then atW (g0 l 0) ++ atW (g0 l 1)
  else if t.kd = 6 then pw [108, 101, 116] :: (t.ns.map pw ++ (pw [61] :: ((g0 l 0).2 ++ (pw [105, 110] :: (g0 l 1).2))))
  else if t.kd = 7 then pw [99, 97, 115, 101] :: ((g0 l 0).2 ++ (pw [111, 102] :: pw [123] :: (sepW [59] (l.tail.map (·.2)) ++ [pw [125]])))
  else if t.kd = 8 then pw t.nm :: (t.ns.map pw ++ (pw [45, 62] :: (g0 l 0).2))
  else if t.kd = 9 then atW (g0 l 0) ++ (pw t.nm :: atW (g0 l 1))
  else if t.kd = 10 then pw [105, 102] :: ((g0 l 0).2 ++ (pw [116, 104, 101, 110] :: ((g0 l 1).2 ++ (pw [101, 108, 115, 101] :: (g0 l 2).2))))
  else if t.kd = 11 then pw [100, 111] :: pw [123] :: (sepW [59] (l.map (·.2)) ++ [pw [125]])
  else if t.kd = 12 then pw [100, 111, 115] :: pw [123] :: (sepW [59] (l.map (·.2)) ++ [pw [125]])
  else if t.kd = 13 then t.ns.map pw ++ (pw [60, 45] :: (g0 l 0).2)
  else []
def ws (t : Tr) : List Wd := t.fold wsF
theorem ws_eq (t : Tr) : ws t = wsF t (t.ks.map fun k => (k, ws k)) := Tr.fold_eq _ t
/-- A written type's words. -/
def sgAt (k : Sg × List Wd) : List Wd := if k.1.ar.isEmpty then k.2 else brW k.2
def sgF (s : Sg) (l : List (Sg × List Wd)) : List Wd :=
  if s.nm = [45, 62] ∧ l.length = 2 then (l.take 1).flatMap sgAt ++ (pw [45, 62] :: (l.drop 1).flatMap sgAt)
  else pw s.nm :: l.flatMap sgAt
def sgW (s : Sg) : List Wd := s.fold sgF
theorem sgW_eq (s : Sg) : sgW s = sgF s (s.ar.map fun k => (k, sgW k)) := Sg.fold_eq _ s
def sgsW (l : List Sg) : List Wd := (l.map fun k => (k, sgW k)).flatMap sgAt
/-- Is one not too deep, at a level, and nowhere of too many Args? -/
def sgOK (s : Sg) : Nat → Bool := s.fold (α := Nat → Bool) fun t l n => decide (n + 1 ≤ 30) && decide (t.ar.length ≤ 40) && l.all fun k => k.2 (n + 1)
theorem sgOK_eq (s : Sg) (n : Nat) : sgOK s n = (decide (n + 1 ≤ 30) && decide (s.ar.length ≤ 40) && s.ar.all fun k => sgOK k (n + 1)) := by
  unfold sgOK
  rw [Sg.fold_eq]
  simp only [List.all_map]
  rfl
def fmW (f : Fm) : List Wd := pw f.nm :: sgsW f.ar
def dtW (d : Dt) : List Wd := pw [100, 97, 116, 97] :: pw d.nm :: (d.ps.map pw ++ (pw [61] :: sepW [124] (d.fs.map fmW)))
def dfW (d : Df) : List Wd := pw d.nm :: pw [61] :: ws d.bd
def pgW (p : Pg) : List Wd := pw [123] :: (sepW [59] (p.ds.map dtW ++ p.fs.map dfW) ++ [pw [125]])

/-- What was put so far, and whether no gap comes next; or that there is no text. -/
abbrev St := Option (List UInt8 × Bool)
def wdA (s : List UInt8) : St → St
  | none => none
  | some (o, t) => if (o ++ ((if t then [] else [32]) ++ s)).length ≤ 2147483647 then some (o ++ ((if t then [] else [32]) ++ s), false) else none
def tightA : St → St
  | none => none
  | some (o, t) => some (o, true)
def oneA (x : Wd) (st : St) : St := if x.1 = 0 then wdA x.2 st else if x.1 = 1 then tightA (wdA x.2 st) else wdA x.2 (tightA st)
def runA (l : List Wd) (st : St) : St := l.foldl (fun s x => oneA x s) st
theorem runA_nil (st : St) : runA [] st = st := rfl
theorem runA_cons (x : Wd) (l : List Wd) (st : St) : runA (x :: l) st = runA l (oneA x st) := rfl
theorem runA_append (a b : List Wd) (st : St) : runA (a ++ b) st = runA b (runA a st) := by simp [runA]
theorem oneA_none (x : Wd) : oneA x none = none := by
  unfold oneA
  split
  · rfl
  · split <;> rfl
theorem runA_none (l : List Wd) : runA l none = none := by
  induction l with
  | nil => rfl
  | cons x r ih => rw [runA_cons, oneA_none, ih]

/-- Parts that are put: bytes, an opening sign, a closing sign, names, a tree as an atom, a tree, written types as atoms, a written type, a constructor, a type, a name of a program, a program. -/
abbrev P0 := List UInt8 ⊕ List UInt8 ⊕ List UInt8 ⊕ List (List UInt8) ⊕ Tr ⊕ Tr ⊕ List Sg ⊕ Sg ⊕ Fm ⊕ Dt ⊕ Df ⊕ Pg
/-- .. and a row of parts with a sign between. -/
abbrev Pt := P0 ⊕ (List UInt8 × List P0)
def p0W : P0 → List Wd
  | .inl s => [pw s]
  | .inr (.inl s) => [(1, s)]
  | .inr (.inr (.inl s)) => [(2, s)]
  | .inr (.inr (.inr (.inl l))) => l.map pw
  | .inr (.inr (.inr (.inr (.inl e)))) => atW (e, ws e)
  | .inr (.inr (.inr (.inr (.inr (.inl e))))) => ws e
  | .inr (.inr (.inr (.inr (.inr (.inr (.inl l)))))) => sgsW l
  | .inr (.inr (.inr (.inr (.inr (.inr (.inr (.inl s))))))) => sgW s
  | .inr (.inr (.inr (.inr (.inr (.inr (.inr (.inr (.inl f)))))))) => fmW f
  | .inr (.inr (.inr (.inr (.inr (.inr (.inr (.inr (.inr (.inl d))))))))) => dtW d
  | .inr (.inr (.inr (.inr (.inr (.inr (.inr (.inr (.inr (.inr (.inl d)))))))))) => dfW d
  | .inr (.inr (.inr (.inr (.inr (.inr (.inr (.inr (.inr (.inr (.inr p)))))))))) => pgW p
def ptW : Pt → List Wd
  | .inl p => p0W p
  | .inr (s, l) => sepW s (l.map p0W)
/-- Not too many names, and constructors. -/
def dtB (d : Dt) : Prop := d.ps.length ≤ 1000000 ∧ d.fs.length ≤ 1000000
def dtOK (d : Dt) (n : Nat) : Bool := d.fs.all fun f => f.ar.all fun s => sgOK s n
def p0OK (n : Nat) : P0 → Bool
  | .inl s => true
  | .inr (.inl s) => true
  | .inr (.inr (.inl s)) => true
  | .inr (.inr (.inr (.inl l))) => true
  | .inr (.inr (.inr (.inr (.inl e)))) => true
  | .inr (.inr (.inr (.inr (.inr (.inl e))))) => true
  | .inr (.inr (.inr (.inr (.inr (.inr (.inl l)))))) => l.all fun s => sgOK s n
  | .inr (.inr (.inr (.inr (.inr (.inr (.inr (.inl s))))))) => sgOK s n
  | .inr (.inr (.inr (.inr (.inr (.inr (.inr (.inr (.inl f)))))))) => f.ar.all fun s => sgOK s n
  | .inr (.inr (.inr (.inr (.inr (.inr (.inr (.inr (.inr (.inl d))))))))) => dtOK d n
  | .inr (.inr (.inr (.inr (.inr (.inr (.inr (.inr (.inr (.inr (.inl d)))))))))) => true
  | .inr (.inr (.inr (.inr (.inr (.inr (.inr (.inr (.inr (.inr (.inr p)))))))))) => p.ds.all fun d => dtOK d n
def ptOK (n : Nat) : Pt → Bool
  | .inl p => p0OK n p
  | .inr (s, l) => l.all (p0OK n)
/-- What putting a part does. -/
def ptA (n : Nat) (p : Pt) (st : St) : St := if ptOK n p then runA (ptW p) st else none
def ptsA (n : Nat) (l : List Pt) (st : St) : St := l.foldl (fun s p => ptA n p s) st
theorem ptA_none (n : Nat) (p : Pt) : ptA n p none = none := by
  unfold ptA
  split
  · exact runA_none _
  · rfl
theorem ptsA_none (n : Nat) (l : List Pt) : ptsA n l none = none := by
  induction l with
  | nil => rfl
  | cons x r ih => show ptsA n r (ptA n x none) = none; rw [ptA_none, ih]
theorem ptsA_cons (n : Nat) (p : Pt) (l : List Pt) (st : St) : ptsA n (p :: l) st = ptsA n l (ptA n p st) := rfl
theorem ptsA_eq (n : Nat) (l : List Pt) : ∀ st, ptsA n l st = if l.all (ptOK n) then runA (l.flatMap ptW) st else none := by
  induction l with
  | nil => intro st; rfl
  | cons x r ih =>
    intro st
    rw [ptsA_cons, ih]
    unfold ptA
    by_cases h : ptOK n x
    · rw [if_pos h, List.all_cons, h, Bool.true_and, List.flatMap_cons, runA_append]
    · have h' : ptOK n x = false := by simpa using h
      rw [if_neg h, List.all_cons, h', Bool.false_and, runA_none]
      split <;> rfl

/-- Weights: whatever a part is taken apart into weighs less. -/
def tw (t : Tr) : Nat := t.fold fun t l => 8 + t.ns.length + (l.map fun k => k.2 + 3).sum
theorem tw_eq (t : Tr) : tw t = 8 + t.ns.length + (t.ks.map fun k => tw k + 3).sum := by
  unfold tw
  rw [Tr.fold_eq]
  simp only [List.map_map]
  rfl
def sw (s : Sg) : Nat := s.fold fun t l => 8 + (l.map fun k => k.2).sum
theorem sw_eq (s : Sg) : sw s = 8 + (s.ar.map sw).sum := by
  unfold sw
  rw [Sg.fold_eq]
  simp only [List.map_map]
  rfl
def fmw (f : Fm) : Nat := 5 + (f.ar.map sw).sum
def dtw (d : Dt) : Nat := 6 + d.ps.length + (d.fs.map fun f => fmw f + 1).sum
def dfw (d : Df) : Nat := 3 + tw d.bd
def pgw (p : Pg) : Nat := 4 + (p.ds.map fun d => dtw d + 1).sum + (p.fs.map fun d => dfw d + 1).sum
def p0w : P0 → Nat
  | .inl s => 1
  | .inr (.inl s) => 1
  | .inr (.inr (.inl s)) => 1
  | .inr (.inr (.inr (.inl l))) => l.length + 1
  | .inr (.inr (.inr (.inr (.inl e)))) => tw e + 3
  | .inr (.inr (.inr (.inr (.inr (.inl e))))) => tw e
  | .inr (.inr (.inr (.inr (.inr (.inr (.inl l)))))) => 3 + (l.map sw).sum
  | .inr (.inr (.inr (.inr (.inr (.inr (.inr (.inl s))))))) => sw s
  | .inr (.inr (.inr (.inr (.inr (.inr (.inr (.inr (.inl f)))))))) => fmw f
  | .inr (.inr (.inr (.inr (.inr (.inr (.inr (.inr (.inr (.inl d))))))))) => dtw d
  | .inr (.inr (.inr (.inr (.inr (.inr (.inr (.inr (.inr (.inr (.inl d)))))))))) => dfw d
  | .inr (.inr (.inr (.inr (.inr (.inr (.inr (.inr (.inr (.inr (.inr p)))))))))) => pgw p
def ptw : Pt → Nat
  | .inl p => p0w p
  | .inr (s, l) => 1 + (l.map fun p => p0w p + 1).sum
def ptsw (l : List Pt) : Nat := (l.map ptw).sum
/-- May a tree be taken apart: has it the Kids that its kind's text asks for, and not too many? -/
def shp (t : Tr) : Bool := t.fold fun t l => (decide (t.ns.length ≤ 1000000) && decide (t.ks.length ≤ 1000000)) && (if t.kd = 4 ∨ t.kd = 7 ∨ t.kd = 8 ∨ t.kd = 13 then decide (1 ≤ t.ks.length) else if t.kd = 5 ∨ t.kd = 6 ∨ t.kd = 9 then decide (2 ≤ t.ks.length) else if t.kd = 10 then decide (3 ≤ t.ks.length) else true) && l.all (·.2)
theorem shp_eq (t : Tr) : shp t = ((decide (t.ns.length ≤ 1000000) && decide (t.ks.length ≤ 1000000)) && (if t.kd = 4 ∨ t.kd = 7 ∨ t.kd = 8 ∨ t.kd = 13 then decide (1 ≤ t.ks.length) else if t.kd = 5 ∨ t.kd = 6 ∨ t.kd = 9 then decide (2 ≤ t.ks.length) else if t.kd = 10 then decide (3 ≤ t.ks.length) else true) && t.ks.all shp) := by
  unfold shp
  rw [Tr.fold_eq]
  simp only [List.all_map]
  rfl
end Go.Proofs.YtebcdjlhmoffjaaDoor
