/-
  Without what was put the tokens are as they were: the mathematics of LayoutKeeps. No program in it.
-/
import Derived.Test.YtnifnbndkbmdcaaDoorFitMath
namespace Go.Proofs.YtnifnbndkbmdcaaDoor
open Go.RowKit
set_option linter.unusedVariables false

/-- A token that is not one of those that are put. -/
def keepT (t : Tok) : Bool := !(t.kd == 4 && (t.tx == [123] || t.tx == [125] || t.tx == [59]))
/-- .. nor any bracket. -/
def nobr (t : Tok) : Prop := ¬ (t.kd = 4 ∧ (t.tx = [123] ∨ t.tx = [125] ∨ t.tx = [59] ∨ t.tx = [40] ∨ t.tx = [41]))
theorem bare_kp {t : Tok} (h : nobr t) : keepT t = true := by
  unfold keepT nobr at *
  by_cases hk : t.kd = 4
  · have h1 : ¬ t.tx = [123] := fun e => h ⟨hk, .inl e⟩
    have h2 : ¬ t.tx = [125] := fun e => h ⟨hk, .inr (.inl e)⟩
    have h3 : ¬ t.tx = [59] := fun e => h ⟨hk, .inr (.inr (.inl e))⟩
    simp [h1, h2, h3]
  · simp [hk]
theorem bare_opens {t : Tok} (h : nobr t) : opensK t = false := by
  have o1 : isK t [40] = false := by cases e : isK t [40] with | false => rfl | true => exact absurd ⟨(isK_iff.1 e).1, .inr (.inr (.inr (.inl (isK_iff.1 e).2)))⟩ h
  have o2 : isK t [123] = false := by cases e : isK t [123] with | false => rfl | true => exact absurd ⟨(isK_iff.1 e).1, .inl (isK_iff.1 e).2⟩ h
  unfold opensK; rw [o1, o2]; rfl
theorem bare_closes {t : Tok} (h : nobr t) : closesK t = false := by
  have o1 : isK t [41] = false := by cases e : isK t [41] with | false => rfl | true => exact absurd ⟨(isK_iff.1 e).1, .inr (.inr (.inr (.inr (isK_iff.1 e).2)))⟩ h
  have o2 : isK t [125] = false := by cases e : isK t [125] with | false => rfl | true => exact absurd ⟨(isK_iff.1 e).1, .inr (.inl (isK_iff.1 e).2)⟩ h
  unfold closesK; rw [o1, o2]; rfl
theorem bare_start {t : Tok} (h : nobr t) : isK t [123] = false := by
  cases e : isK t [123] with | false => rfl | true => exact absurd ⟨(isK_iff.1 e).1, .inl (isK_iff.1 e).2⟩ h
def allCol (st : List Blk) : Prop := ∀ b ∈ st, b.sg = []
theorem kp_put (c : UInt8) (t : Tok) (h : c = 123 ∨ c = 125 ∨ c = 59) : keepT (pt1 c t) = false := by
  rcases h with rfl | rfl | rfl <;> rfl
theorem filt_snoc (o : List Tok) (t : Tok) : (o ++ [t]).filter keepT = o.filter keepT ++ (if keepT t then [t] else []) := by
  rw [List.filter_append]; congr 1
  cases h : keepT t <;> simp [h]
theorem end_keep (may : Int → Bool) (t : Tok) (st : List Blk) : ∀ o, allCol st → allCol (endM may t st o).1 ∧ (endM may t st o).2.filter keepT = o.filter keepT := by
  induction st with
  | nil => intro o h; exact ⟨h, rfl⟩
  | cons b r ih =>
    intro o h
    unfold endM
    split
    · have h2 := ih (o ++ [⟨4, [125], 0, t.ln, t.co⟩]) (fun x hx => h x (by simp [hx]))
      refine ⟨h2.1, h2.2.trans ?_⟩
      rw [filt_snoc, show keepT ⟨4, [125], 0, t.ln, t.co⟩ = false from rfl]; simp
    · exact ⟨h, rfl⟩
theorem line_keep (t : Tok) (st : List Blk) (o : List Tok) (h : allCol st) : allCol (lineM t st o).1 ∧ (lineM t st o).2.filter keepT = o.filter keepT := by
  have h2 := end_keep (fun c => decide (t.co < c)) t st o h
  unfold lineM
  simp only
  refine ⟨h2.1, ?_⟩
  split
  · rw [filt_snoc, kp_put 59 t (.inr (.inr rfl))]; simp [h2.2]
  · exact h2.2
theorem beh_keep {t : Tok} (ht : nobr t) (rest : List Tok) (st : List Blk) (o : List Tok) (h : allCol st) : allCol (behM t rest st o false).1 ∧ (behM t rest st o false).2.1.filter keepT = o.filter keepT := by
  have two : ((o ++ [pt1 123 t]) ++ [pt1 125 t]).filter keepT = o.filter keepT := by
    rw [filt_snoc, filt_snoc, kp_put 123 t (.inl rfl), kp_put 125 t (.inr (.inl rfl))]; simp
  unfold behM
  rw [bare_opens ht]
  simp only [Bool.false_eq_true, if_false]
  split
  · unfold indM
    split
    · exact ⟨h, two⟩
    · split
      · exact ⟨h, rfl⟩
      · split
        · rename_i n _ _ _
          refine ⟨fun b hb => ?_, ?_⟩
          · rcases List.mem_cons.1 hb with rfl | hb
            · rfl
            · exact h b hb
          · simp only
            rw [filt_snoc, kp_put 123 n (.inl rfl)]; simp
        · exact ⟨h, two⟩
  · exact ⟨h, rfl⟩
theorem go_keepM (r : List Tok) : ∀ (prev : Option Tok) (s : Sm), allCol s.1 → (∀ t ∈ r, nobr t) → ∃ s', goM prev r s = .ok s' ∧ allCol s'.1 ∧ s'.2.1.filter keepT = s.2.1.filter keepT ++ r := by
  induction r with
  | nil => intro prev s h _; exact ⟨s, rfl, h, by simp⟩
  | cons t r ih =>
    intro prev s h hb
    have ht := hb t (by simp)
    have hm : ∃ q, mid (over prev t) t s = some q ∧ allCol q.1 ∧ q.2.filter keepT = s.2.1.filter keepT := by
      unfold mid
      simp only
      rw [bare_closes ht]
      simp only [Bool.false_eq_true, if_false]
      refine ⟨_, rfl, ?_⟩
      split
      · exact line_keep t s.1 s.2.1 h
      · exact ⟨h, rfl⟩
    obtain ⟨q, hq, h1, h2⟩ := hm
    obtain ⟨h3, h4⟩ := beh_keep ht r q.1 (q.2 ++ [t]) h1
    obtain ⟨s', h5, h6, h7⟩ := ih (some t) (behM t r q.1 (q.2 ++ [t]) false) h3 (fun x hx => hb x (by simp [hx]))
    refine ⟨s', ?_, h6, ?_⟩
    · unfold goM stepM; rw [hq]; exact h5
    · rw [h7, h4, filt_snoc, bare_kp ht, h2]; simp
theorem end_all_col (t : Tok) (st : List Blk) : ∀ o, allCol st → (endM every t st o).1 = [] := by
  induction st with
  | nil => intro o h; rfl
  | cons b r ih =>
    intro o h
    rw [endM_go (by rw [h b (by simp)]; rfl)]
    exact ih _ (fun x hx => h x (by simp [hx]))
/-- Without what was put the tokens are as they were. -/
theorem lay_keeps (l : List Tok) (h : ∀ t ∈ l, nobr t) : ∃ m, layM l = (m, (0, 0), 0) ∧ m.filter keepT = l ∧ chk [] m = some [] := by
  have hex : ∃ m, layM l = (m, (0, 0), 0) ∧ m.filter keepT = l := by
    cases l with
    | nil => exact ⟨[], rfl, rfl⟩
    | cons t r =>
      rw [lay_cons]
      generalize (t :: r).getLast (by simp) = u
      have hs : start t = ([⟨[], max t.co 1⟩], [pt1 123 t], true) := by unfold start; rw [bare_start (h t (by simp))]; rfl
      obtain ⟨s', h1, h2, h3⟩ := go_keepM (t :: r) none (start t) (by rw [hs]; intro b hb; rw [List.mem_singleton.1 hb]) h
      rw [h1]
      have he := end_all_col u s'.1 s'.2.1 h2
      refine ⟨_, fin_nil he, ?_⟩
      rw [(end_keep every u s'.1 s'.2.1 h2).2, h3, hs]
      show [pt1 123 t].filter keepT ++ (t :: r) = t :: r
      rw [List.filter_cons, kp_put 123 t (.inl rfl)]; simp
  obtain ⟨m, hm, hf⟩ := hex
  refine ⟨m, hm, hf, ?_⟩
  rcases lay_fits l with ⟨m', h1, h2⟩ | ⟨a, b, h1⟩
  · rw [hm] at h1; cases h1; exact h2
  · rw [hm] at h1; simp at h1
end Go.Proofs.YtnifnbndkbmdcaaDoor
