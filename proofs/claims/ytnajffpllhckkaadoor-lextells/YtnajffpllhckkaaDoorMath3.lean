/-
  LINES OF TEXTS: two texts in lines behind one another; gaps behind, lines ahead. Plain lists.
-/
import Derived.Test.YtnajffpllhckkaaDoorMath2
namespace Go.Proofs.YtnajffpllhckkaaDoor

def sh (k : Int) (t : Tok) : Tok := ⟨t.kd, t.tx, t.nu, t.ln + k, t.co⟩
def she (k : Int) (e : Int × Int) : Int × Int := (e.1 + k, e.2)
def shq (k : Int) (q : List Tok × Option (Int × Int)) : List Tok × Option (Int × Int) := (q.1.map (sh k), q.2.map (she k))
theorem rawL_shift (k n : Int) : ∀ (f a : Nat) (l : List UInt8), rawL (n + k) f a l = shq k (rawL n f a l)
  | 0, _, _ => rfl
  | f + 1, a, l => by
    unfold rawL
    cases sk l with
    | nil => rfl
    | cons c r =>
      simp only
      cases tk ((c :: r).take (tl (c :: r))) with
      | none => rfl
      | some x => simp only [rawL_shift k n f]; rfl
theorem raw_shift (k n : Int) (a : Nat) (l : List UInt8) : raw (n + k) a l = shq k (raw n a l) := rawL_shift k n _ a l
theorem rawLs_shift (k : Int) : ∀ (n : Int) (L : List (List UInt8)), rawLs (num (n + k) L) = shq k (rawLs (num n L))
  | n, [] => rfl
  | n, h :: t => by
    simp only [num, rawLs, raw_shift]
    have e : n + k + 1 = n + 1 + k := by omega
    rw [e, rawLs_shift k (n + 1) t]
    cases h2 : (raw n 0 h).2 with
    | some e => simp [shq, h2]
    | none => simp [shq, h2]
theorem cap_shift (k : Int) (q : List Tok × Option (Int × Int)) : cap (shq k q) = shq k (cap q) := by
  unfold cap shq
  simp only [List.getElem?_map]
  cases q.1[2000]? with
  | some t => rfl
  | none => cases q.2 <;> rfl
theorem spl_ne (l : List UInt8) : spl l ≠ [] := by
  cases l with
  | nil => simp [spl]
  | cons c r => simp only [spl]; split
                · simp
                · split <;> simp
theorem spl_join (b : List UInt8) : ∀ a : List UInt8, spl (a ++ 10 :: b) = spl a ++ spl b
  | [] => by simp [spl]
  | c :: r => by
    simp only [List.cons_append, spl, spl_join b r]
    split
    · rfl
    · cases h : spl r with
      | nil => exact absurd h (spl_ne r)
      | cons h t => rfl
theorem num_append (n : Int) : ∀ a b : List (List UInt8), num n (a ++ b) = num n a ++ num (n + a.length) b
  | [], b => by simp [num]
  | h :: t, b => by
    simp only [List.cons_append, num]
    rw [num_append (n + 1) t b]
    simp only [List.length_cons]
    congr 2
    rw [show n + 1 + (t.length : Int) = n + ((t.length + 1 : Nat) : Int) from by omega]
theorem spl_len : ∀ l : List UInt8, (spl l).length = 1 + l.count 10
  | [] => rfl
  | c :: r => by
    have ih := spl_len r
    simp only [spl, List.count_cons]
    cases hc : (c == 10)
    · cases h : spl r with
      | nil => exact absurd h (spl_ne r)
      | cons h' t => rw [h] at ih; simp at ih ⊢; omega
    · simp; omega
/-- Of two texts, one in lines behind the other. -/
theorem rawJ (a b : List UInt8) : rawLs (num 1 (spl (a ++ 10 :: b))) = match (rawLs (num 1 (spl a))).2 with
    | some e => ((rawLs (num 1 (spl a))).1, some e)
    | none => ((rawLs (num 1 (spl a))).1 ++ (rawLs (num 1 (spl b))).1.map (sh (spl a).length), (rawLs (num 1 (spl b))).2.map (she (spl a).length)) := by
  rw [spl_join, num_append, rawLs_append, rawLs_shift]
  rfl
theorem lexM_ok {l : List UInt8} (h : (lexM l).2 = none) : rawLs (num 1 (spl l)) = ((lexM l).1, none) ∧ (lexM l).1.length ≤ 2000 := by
  unfold lexM cap at *
  cases h1 : (rawLs (num 1 (spl l))).1[2000]? with
  | some t => rw [h1] at h; simp at h
  | none =>
    rw [h1] at h
    cases h2 : (rawLs (num 1 (spl l))).2 with
    | some e => rw [h2] at h; simp at h
    | none =>
      refine ⟨by simp only; rw [← h2], ?_⟩
      simp only
      exact List.getElem?_eq_none_iff.1 h1
theorem lexM_err {l : List UInt8} {e : Int × Int} (h : (lexM l).2 = some e) : (lexM l).1 = [] := by
  have := cap_err (rawLs (num 1 (spl l))) (e := e) h
  unfold lexM; rw [this]
theorem join_err {a b : List UInt8} {e : Int × Int} (h : (lexM a).2 = some e) : lexM (a ++ 10 :: b) = ([], some e) := by
  have := cap_stays (num 1 (spl a)) (num (1 + (spl a).length) (spl b)) (e := e) h
  unfold lexM; rw [spl_join, num_append]; exact this
theorem cap_over {q : List Tok × Option (Int × Int)} (h : 2000 < q.1.length) : (cap q).2.isSome = true := by
  unfold cap; rw [List.getElem?_eq_getElem h]; rfl
theorem join_bad {a b : List UInt8} (h : (lexM a).2 = none) (hb : (lexM b).2.isSome = true ∨ 2000 < (lexM a).1.length + (lexM b).1.length) : (lexM (a ++ 10 :: b)).2.isSome = true := by
  obtain ⟨ha, hl⟩ := lexM_ok h
  unfold lexM
  rw [rawJ, ha]
  simp only
  by_cases hlen : 2000 < ((lexM a).1 ++ (rawLs (num 1 (spl b))).1.map (sh (spl a).length)).length
  · exact cap_over hlen
  · rw [List.length_append, List.length_map] at hlen
    rcases hb with hb | hb
    · cases hB : (rawLs (num 1 (spl b))).2 with
      | some e => rw [show (cap _).2 = some (she (spl a).length e) from cap_of_bad (by rw [List.length_append, List.length_map]; omega) rfl]; rfl
      | none =>
        have : lexM b = ((rawLs (num 1 (spl b))).1, none) := cap_of_ok (by omega) hB
        rw [this] at hb; simp at hb
    · cases hB : (lexM b).2 with
      | some e => rw [lexM_err hB] at hb; simp at hb; omega
      | none => obtain ⟨hb1, _⟩ := lexM_ok hB; rw [hb1] at hlen; simp at hlen; omega
theorem join_ok {a b : List UInt8} (h : (lexM a).2 = none) (hb : (lexM b).2 = none) (hl : (lexM a).1.length + (lexM b).1.length ≤ 2000) : lexM (a ++ 10 :: b) = ((lexM a).1 ++ (lexM b).1.map (sh (spl a).length), none) := by
  obtain ⟨ha, _⟩ := lexM_ok h
  obtain ⟨hb', _⟩ := lexM_ok hb
  have e := rawJ a b
  rw [ha, hb'] at e
  simp only [Option.map_none] at e
  have : lexM (a ++ 10 :: b) = cap (rawLs (num 1 (spl (a ++ 10 :: b)))) := rfl
  rw [this, e]
  exact cap_of_ok (by simp only [List.length_append, List.length_map]; exact hl) rfl
theorem spl_lines : ∀ (n : Nat) (l : List UInt8), spl (List.replicate n 10 ++ l) = List.replicate n [] ++ spl l
  | 0, l => rfl
  | n + 1, l => by rw [List.replicate_succ, List.cons_append, List.replicate_succ, List.cons_append, ← spl_lines n l]; rfl
theorem rawLs_empty : ∀ (n : Nat) (m : Int) (L : List (List UInt8)), rawLs (num m (List.replicate n [] ++ L)) = rawLs (num (m + n) L)
  | 0, m, L => by simp
  | n + 1, m, L => by
    rw [List.replicate_succ, List.cons_append]
    simp only [num, rawLs]
    rw [show (raw m 0 []) = ([], none) from rfl]
    simp only [List.nil_append]
    rw [rawLs_empty n (m + 1) L, show m + 1 + (n : Int) = m + ((n + 1 : Nat) : Int) from by omega]
def gapT : List UInt8 := [10, 32, 32, 45, 45, 63, 10, 32, 32]
/-- Gaps, and comments, behind a text, and lines ahead of it. -/
theorem gaps (n : Nat) (l : List UInt8) : lexM (List.replicate n 10 ++ l ++ gapT) = shq n (lexM l) := by
  have e1 : List.replicate n 10 ++ l ++ gapT = List.replicate n 10 ++ (l ++ 10 :: [32, 32, 45, 45, 63, 10, 32, 32]) := by rw [List.append_assoc]; rfl
  unfold lexM
  rw [e1, spl_lines, rawLs_empty, ← cap_shift, rawLs_shift]
  congr 2
  rw [spl_join, num_append, rawLs_append]
  rw [show rawLs (num (1 + ((spl l).length : Int)) (spl [32, 32, 45, 45, 63, 10, 32, 32])) = ([], none) from rfl]
  cases h : (rawLs (num 1 (spl l))).2 with
  | some e => simp only; rw [← h]
  | none => simp only [List.append_nil]; rw [← h]
end Go.Proofs.YtnajffpllhckkaaDoor
