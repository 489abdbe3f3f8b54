/-
  A TEXT, TOKEN BY TOKEN, whatever lines there are. Plain lists.
-/
import Derived.Test.YtnajffpllhckkaaDoorMath4
namespace Go.Proofs.YtnajffpllhckkaaDoor

/-- A text's tokens from a place on, whatever lines there are. -/
def rawO (n : Int) (a : Nat) (l : List UInt8) : List Tok × Option (Int × Int) :=
  match spl l with
  | [] => ([], none)
  | h :: t => match (raw n a h).2 with
    | some e => ((raw n a h).1, some e)
    | none => ((raw n a h).1 ++ (rawLs (num (n + 1) t)).1, (rawLs (num (n + 1) t)).2)
theorem rawO_all (n : Int) (l : List UInt8) : rawLs (num n (spl l)) = rawO n 0 l := by
  unfold rawO
  cases h : spl l with
  | nil => exact absurd h (spl_ne l)
  | cons x t => rfl
theorem lexM_O (l : List UInt8) : lexM l = cap (rawO 1 0 l) := by unfold lexM; rw [rawO_all]
theorem rawO_nil (n : Int) (a : Nat) : rawO n a [] = ([], none) := rfl
theorem rawO_nl (n : Int) (a : Nat) (r : List UInt8) : rawO n a (10 :: r) = rawO (n + 1) 0 r := by
  rw [← rawO_all]
  have e : spl (10 :: r) = [] :: spl r := rfl
  unfold rawO
  rw [e]
  simp only [show raw n a [] = ([], none) from rfl, List.nil_append]
theorem spl_cons (c : UInt8) (r : List UInt8) (h : c ≠ 10) : ∃ x t, spl r = x :: t ∧ spl (c :: r) = (c :: x) :: t := by
  cases hr : spl r with
  | nil => exact absurd hr (spl_ne r)
  | cons x t => exact ⟨x, t, rfl, by simp only [spl, hr]; rw [if_neg (by simpa using h)]⟩
theorem raw_gap (n : Int) (a : Nat) (h : List UInt8) : raw n a (32 :: h) = raw n (a + 1) h := by
  rw [raw_step, raw_step n (a + 1) h]
  have e : sk (32 :: h) = sk h := rfl
  rw [e]
  have hk := sk_le h
  cases hs : sk h with
  | nil => rfl
  | cons c r =>
    rw [hs] at hk
    simp only [List.length_cons] at hk ⊢
    rw [show a + (h.length + 1 - (r.length + 1)) = a + 1 + (h.length - (r.length + 1)) from by omega]
theorem rawO_gap (n : Int) (a : Nat) (r : List UInt8) : rawO n a (32 :: r) = rawO n (a + 1) r := by
  obtain ⟨x, t, h1, h2⟩ := spl_cons 32 r (by decide)
  unfold rawO
  rw [h1, h2]
  simp only [raw_gap]
/-- A text's first line, and what is behind. -/
theorem spl_split : ∀ l : List UInt8, ∃ h t, spl l = h :: t ∧ (10 : UInt8) ∉ h ∧ ((t = [] ∧ l = h) ∨ ∃ x, l = h ++ 10 :: x ∧ spl x = t)
  | [] => ⟨[], [], rfl, by simp, .inl ⟨rfl, rfl⟩⟩
  | c :: r => by
    by_cases hc : c = 10
    · subst hc
      exact ⟨[], spl r, rfl, by simp, .inr ⟨r, rfl, rfl⟩⟩
    · obtain ⟨h, t, h1, h2, h3⟩ := spl_split r
      obtain ⟨x, t', e1, e2⟩ := spl_cons c r hc
      rw [h1] at e1; cases e1
      refine ⟨c :: h, t, e2, ?_, ?_⟩
      · simp only [List.mem_cons, not_or]; exact ⟨fun e => hc e.symm, h2⟩
      · rcases h3 with ⟨rfl, rfl⟩ | ⟨x, rfl, hx⟩
        · exact .inl ⟨rfl, rfl⟩
        · exact .inr ⟨x, rfl, hx⟩
theorem spl_one : ∀ l : List UInt8, (10 : UInt8) ∉ l → spl l = [l]
  | [], _ => rfl
  | c :: r, h => by
    simp only [List.mem_cons, not_or] at h
    obtain ⟨x, t, e1, e2⟩ := spl_cons c r (fun e => h.1 e.symm)
    rw [spl_one r h.2] at e1; cases e1; exact e2
theorem tw_stop (p : UInt8 → Bool) (g : UInt8) (hg : p g = false) (y : List UInt8) : ∀ r : List UInt8, (r ++ g :: y).takeWhile p = r.takeWhile p
  | [] => by simp [hg]
  | c :: r => by
    simp only [List.cons_append, List.takeWhile_cons]
    split
    · rw [tw_stop p g hg y r]
    · rfl
theorem tw_self (p : UInt8 → Bool) : ∀ r : List UInt8, (r.takeWhile p).takeWhile p = r.takeWhile p
  | [] => rfl
  | c :: r => by
    simp only [List.takeWhile_cons]
    split
    · rename_i h; simp only [List.takeWhile_cons, h, if_true]; rw [tw_self p r]
    · rfl
theorem tw_take (p : UInt8 → Bool) : ∀ r : List UInt8, r.take (r.takeWhile p).length = r.takeWhile p
  | [] => rfl
  | c :: r => by
    simp only [List.takeWhile_cons]
    split
    · simp only [List.length_cons, List.take_succ_cons]; rw [tw_take p r]
    · rfl
theorem sg_gap (c g : UInt8) (hg : g = 32 ∨ g = 10) : sg [c, g] = false := by
  rcases hg with rfl | rfl <;> simp [sg]
theorem gap_dg (g : UInt8) (hg : g = 32 ∨ g = 10) : dg g = false ∧ pt g = false := by
  rcases hg with rfl | rfl <;> exact ⟨by decide, by decide⟩
/-- A token does not go beyond a gap. -/
theorem tl_stop (c : UInt8) (r : List UInt8) (g : UInt8) (y : List UInt8) (hg : g = 32 ∨ g = 10) : tl (c :: (r ++ g :: y)) = tl (c :: r) := by
  simp only [tl]
  rw [tw_stop dg g (gap_dg g hg).1, tw_stop pt g (gap_dg g hg).2]
  split
  · rfl
  · split
    · rfl
    · cases r with
      | nil => simp [sg_gap c g hg]
      | cons d r => rfl
theorem tl_self (c : UInt8) (r : List UInt8) : ∃ r', (c :: r).take (tl (c :: r)) = c :: r' ∧ tl (c :: r') = r'.length + 1 := by
  by_cases h1 : dg c = true
  · refine ⟨r.takeWhile dg, ?_, ?_⟩
    · simp only [tl, h1, if_true]; rw [Nat.add_comm, List.take_succ_cons, tw_take]
    · simp only [tl, h1, if_true]; rw [tw_self]; omega
  · by_cases h2 : pt c = true
    · refine ⟨r.takeWhile pt, ?_, ?_⟩
      · simp only [tl, h1, h2, if_true]; rw [if_neg (by simp), Nat.add_comm, List.take_succ_cons, tw_take]
      · simp only [tl, h1, h2, if_true]; rw [if_neg (by simp), tw_self]; omega
    · cases r with
      | nil => exact ⟨[], by simp [tl, h1, h2], by simp [tl, h1, h2]⟩
      | cons d r =>
        by_cases h3 : sg [c, d] = true
        · exact ⟨[d], by simp [tl, h1, h2, h3], by simp [tl, h1, h2, h3]⟩
        · exact ⟨[], by simp [tl, h1, h2, h3], by simp [tl, h1, h2]⟩
theorem sk_tok (c : UInt8) (r : List UInt8) (h1 : c ≠ 32) (h2 : ¬ (c = 45 ∧ ∃ r', r = 45 :: r')) : sk (c :: r) = c :: r := by
  have hg : gp (c :: r) = c :: r := by unfold gp; rw [List.dropWhile_cons, if_neg (by simpa using h1)]
  unfold sk
  rw [hg, if_neg]
  cases r with
  | nil => simp
  | cons d r =>
    simp only [List.take_succ_cons, List.take_zero]
    intro hh
    have := eq_of_beq hh
    simp at this
    exact h2 ⟨this.1, r, by rw [this.2]⟩
/-- One token of a text, whatever lines there are. -/
theorem rawO_tok (n : Int) (a : Nat) (c : UInt8) (r : List UInt8) (h1 : c ≠ 32) (h0 : c ≠ 10) (h2 : ¬ (c = 45 ∧ ∃ r', r = 45 :: r')) :
    rawO n a (c :: r) = match tk ((c :: r).take (tl (c :: r))) with
      | none => ([], some (n, (a : Int) + 1))
      | some x => (⟨x.1, (c :: r).take (tl (c :: r)), x.2, n, (a : Int) + 1⟩ :: (rawO n (a + tl (c :: r)) ((c :: r).drop (tl (c :: r)))).1, (rawO n (a + tl (c :: r)) ((c :: r).drop (tl (c :: r)))).2) := by
  obtain ⟨h, t, e1, e2, e3⟩ := spl_split (c :: r)
  obtain ⟨x', t', e4, e5⟩ := spl_cons c r h0
  rw [e5] at e1
  simp only [List.cons.injEq] at e1
  obtain ⟨rfl, rfl⟩ := e1
  have hs : ¬ (c = 45 ∧ ∃ r', x' = 45 :: r') := by
    rintro ⟨rfl, r', rfl⟩
    rcases e3 with ⟨_, he⟩ | ⟨y, he, _⟩
    · exact h2 ⟨rfl, r', by simpa using he⟩
    · exact h2 ⟨rfl, r' ++ 10 :: y, by simpa using he⟩
  have hsk := sk_tok c x' h1 hs
  have htl : tl (c :: r) = tl (c :: x') := by
    rcases e3 with ⟨_, he⟩ | ⟨y, he, _⟩
    · rw [he]
    · rw [he]; exact tl_stop c x' 10 y (.inr rfl)
  have hle := tl_le (c :: x')
  have htake : (c :: r).take (tl (c :: r)) = (c :: x').take (tl (c :: x')) := by
    rw [htl]
    rcases e3 with ⟨_, he⟩ | ⟨y, he, _⟩
    · rw [he]
    · rw [he, List.take_append_of_le_length hle]
  have hdrop : spl ((c :: r).drop (tl (c :: r))) = (c :: x').drop (tl (c :: x')) :: t' := by
    rw [htl]
    have hno : (10 : UInt8) ∉ (c :: x').drop (tl (c :: x')) := fun hm => e2 (List.mem_of_mem_drop hm)
    rcases e3 with ⟨rfl, he⟩ | ⟨y, he, hy⟩
    · rw [he]; exact spl_one _ hno
    · rw [he, List.drop_append_of_le_length hle, spl_join, spl_one _ hno, hy]; rfl
  have hO : rawO n a (c :: r) = match (raw n a (c :: x')).2 with
      | some e => ((raw n a (c :: x')).1, some e)
      | none => ((raw n a (c :: x')).1 ++ (rawLs (num (n + 1) t')).1, (rawLs (num (n + 1) t')).2) := by
    unfold rawO; rw [e5]
  have hO2 : rawO n (a + tl (c :: r)) ((c :: r).drop (tl (c :: r))) = match (raw n (a + tl (c :: r)) ((c :: x').drop (tl (c :: x')))).2 with
      | some e => ((raw n (a + tl (c :: r)) ((c :: x').drop (tl (c :: x')))).1, some e)
      | none => ((raw n (a + tl (c :: r)) ((c :: x').drop (tl (c :: x')))).1 ++ (rawLs (num (n + 1) t')).1, (rawLs (num (n + 1) t')).2) := by
    unfold rawO; rw [hdrop]
  rw [hO, hO2, htake, htl]
  cases hk : tk ((c :: x').take (tl (c :: x'))) with
  | none => rw [raw_bad n a c x' hsk hk]
  | some x =>
    rw [raw_tok n a c x' hsk hk]
    cases (raw n (a + tl (c :: x')) ((c :: x').drop (tl (c :: x')))).2 <;> rfl
end Go.Proofs.YtnajffpllhckkaaDoor
