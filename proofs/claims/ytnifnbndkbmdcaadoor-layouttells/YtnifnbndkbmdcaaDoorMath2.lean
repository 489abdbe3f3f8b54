/-
  MORE OF A TEXT's TOKENS, as plain functions on lists: one step of a line; when there are too many.
-/
import Derived.Test.YtnifnbndkbmdcaaDoorMath
namespace Go.Proofs.YtnifnbndkbmdcaaDoor

theorem gp_suffix (l : List UInt8) : gp l = l.drop (l.length - (gp l).length) := by
  induction l with
  | nil => rfl
  | cons a r ih =>
    unfold gp at *
    simp only [List.dropWhile_cons]
    split
    · have h := gp_le r
      unfold gp at h
      rw [List.length_cons, show r.length + 1 - (List.dropWhile (fun x => x == 32) r).length = (r.length - (List.dropWhile (fun x => x == 32) r).length) + 1 from by omega, List.drop_succ_cons]
      exact ih
    · simp
theorem sk_suffix (l : List UInt8) : sk l = l.drop (l.length - (sk l).length) := by
  unfold sk; split
  · simp
  · exact gp_suffix l
theorem gp_idem (l : List UInt8) : gp (gp l) = gp l := by
  induction l with
  | nil => rfl
  | cons a r ih =>
    unfold gp at *
    simp only [List.dropWhile_cons]
    split
    · exact ih
    · rename_i h; rw [List.dropWhile_cons, if_neg h]
theorem sk_idem (l : List UInt8) : sk (sk l) = sk l := by
  by_cases h : ((gp l).take 2 == [45, 45]) = true
  · have : sk l = [] := by unfold sk; rw [if_pos h]
    rw [this]; rfl
  · have : sk l = gp l := by unfold sk; rw [if_neg h]
    rw [this]; unfold sk; rw [gp_idem, if_neg h]
theorem raw_skip (n : Int) (a : Nat) (l : List UInt8) : raw n a l = raw n (a + (l.length - (sk l).length)) (sk l) := by
  rw [raw_step, raw_step n _ (sk l), sk_idem]
  have hk := sk_le l
  cases h : sk l with
  | nil => rfl
  | cons c r =>
    rw [h] at hk
    simp only [List.length_cons] at hk ⊢
    rw [show a + (l.length - (r.length + 1)) + (r.length + 1 - (r.length + 1)) = a + (l.length - (r.length + 1)) from by omega]
/-- One token of what is skipped to. -/
theorem raw_bad (n : Int) (a : Nat) (c : UInt8) (r : List UInt8) (hs : sk (c :: r) = c :: r) (h : tk ((c :: r).take (tl (c :: r))) = none) : raw n a (c :: r) = ([], some (n, (a : Int) + 1)) := by
  rw [raw_step, hs]; simp [h]
theorem raw_tok (n : Int) (a : Nat) (c : UInt8) (r : List UInt8) (hs : sk (c :: r) = c :: r) {x : Int × Int} (h : tk ((c :: r).take (tl (c :: r))) = some x) :
    raw n a (c :: r) = (⟨x.1, (c :: r).take (tl (c :: r)), x.2, n, (a : Int) + 1⟩ :: (raw n (a + tl (c :: r)) ((c :: r).drop (tl (c :: r)))).1, (raw n (a + tl (c :: r)) ((c :: r).drop (tl (c :: r)))).2) := by
  rw [raw_step, hs]; simp [h]
theorem raw_end (n : Int) (a : Nat) : raw n a [] = ([], none) := rfl
theorem tw_all (p : UInt8 → Bool) (r : List UInt8) : (r.take (r.takeWhile p).length).all p = true := by
  induction r with
  | nil => rfl
  | cons a r ih =>
    simp only [List.takeWhile_cons]
    split
    · rename_i h; simp [h]; simpa using ih
    · simp
/-- A token that begins with a digit is of digits. -/
theorem tok_dig (l : List UInt8) : dg ((l.take (tl l)).headD 0) = true → (l.take (tl l)).all dg = true := by
  cases l with
  | nil => simp [tl]
  | cons c r =>
    intro h
    have hp := tl_pos c r
    have e : ((c :: r).take (tl (c :: r))).headD 0 = c := by
      rw [show tl (c :: r) = (tl (c :: r) - 1) + 1 from by omega, List.take_succ_cons]; rfl
    rw [e] at h
    have e2 : tl (c :: r) = (r.takeWhile dg).length + 1 := by simp only [tl, h, if_true]; omega
    rw [e2, List.take_succ_cons, List.all_cons, h, tw_all]; rfl
theorem tok_ne (c : UInt8) (r : List UInt8) : (c :: r).take (tl (c :: r)) ≠ [] := by
  have hp := tl_pos c r
  rw [show tl (c :: r) = (tl (c :: r) - 1) + 1 from by omega, List.take_succ_cons]; simp
theorem tok_len (l : List UInt8) : (l.take (tl l)).length = tl l := by
  have := tl_le l; simp; omega
theorem rawLs_snoc (a : List (Int × List UInt8)) (x : Int × List UInt8) (h : (rawLs a).2 = none) : rawLs (a ++ [x]) = ((rawLs a).1 ++ (raw x.1 0 x.2).1, (raw x.1 0 x.2).2) := by
  rw [rawLs_append, h]
  simp only [rawLs]
  cases h2 : (raw x.1 0 x.2).2 <;> simp
theorem cap_of_over {q : List Tok × Option (Int × Int)} {t : Tok} (h : q.1[2000]? = some t) : (cap q).2 = some (pl t) := by unfold cap; rw [h]
theorem cap_of_bad {q : List Tok × Option (Int × Int)} {e : Int × Int} (h1 : q.1.length ≤ 2000) (h : q.2 = some e) : (cap q).2 = some e := by
  unfold cap; rw [List.getElem?_eq_none h1, h]
theorem cap_of_ok {q : List Tok × Option (Int × Int)} (h1 : q.1.length ≤ 2000) (h : q.2 = none) : cap q = (q.1, none) := by
  unfold cap; rw [List.getElem?_eq_none h1, h]
end Go.Proofs.YtnifnbndkbmdcaaDoor
