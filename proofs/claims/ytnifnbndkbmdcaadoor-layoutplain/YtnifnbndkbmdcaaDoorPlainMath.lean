/-
  What has its brackets stays as it is: the mathematics of LayoutPlain. No program in it.
-/
import Derived.Test.YtnifnbndkbmdcaaDoorLay
namespace Go.Proofs.YtnifnbndkbmdcaaDoor
open Go.RowKit
set_option linter.unusedVariables false

/-- of, do and dos stand ahead of a bracket alone. -/
def plainL : List Tok → Prop
  | [] => True
  | t :: r => (beginsK t = true → ∃ n r', r = n :: r' ∧ isK n [123] = true) ∧ plainL r
def noCol (st : List Blk) : Prop := ∀ b ∈ st, b.sg ≠ []
theorem end_noCol {st : List Blk} (h : noCol st) (may : Int → Bool) (t : Tok) (o : List Tok) : endM may t st o = (st, o) := by
  cases st with
  | nil => rfl
  | cons b r => exact endM_stop (by have := h b (by simp); rw [beq_eq_false_iff_ne.2 this]; rfl)
theorem line_noCol {st : List Blk} (h : noCol st) (t : Tok) (o : List Tok) : lineM t st o = (st, o) := by
  unfold lineM
  rw [end_noCol h]
  cases st with
  | nil => simp [top]
  | cons b r => have := h b (by simp); simp [top, this]
theorem opens_tx {t : Tok} (h : opensK t = true) : t.tx = [40] ∨ t.tx = [123] := by
  unfold opensK isK at h
  simp at h
  rcases h with h | h
  · exact .inl h.2
  · exact .inr h.2
theorem beh_plain {t : Tok} {r : List Tok} (hp : beginsK t = true → ∃ n r', r = n :: r' ∧ isK n [123] = true) {st : List Blk} (h : noCol st) (o : List Tok) : ∃ st', noCol st' ∧ behM t r st o false = (st', o, false) := by
  unfold behM
  cases ho : opensK t
  · cases hb : beginsK t
    · exact ⟨st, h, rfl⟩
    · obtain ⟨n, r', rfl, hn⟩ := hp hb
      refine ⟨st, h, ?_⟩
      simp [indM, hn]
  · refine ⟨⟨t.tx, (top st).cl⟩ :: st, ?_, rfl⟩
    intro b hb
    rcases List.mem_cons.1 hb with rfl | hb
    · rcases opens_tx ho with e | e <;> simp [e]
    · exact h b hb
theorem pop_noCol {s : List UInt8} {st : List Blk} (h : noCol st) {o : List Tok} {r : List Blk × List Tok} (hr : popM s st o = some r) : noCol r.1 ∧ r.2 = o := by
  unfold popM at hr
  split at hr
  · cases hr
    exact ⟨fun b hb => h b (List.mem_of_mem_tail hb), rfl⟩
  · cases hr
theorem mid_noCol {nl : Bool} {t : Tok} {st : List Blk} {o : List Tok} (h : noCol st) {r : List Blk × List Tok} (hr : mid nl t (st, o, false) = some r) : noCol r.1 ∧ r.2 = o := by
  unfold mid at hr
  simp only at hr
  rw [line_noCol h, ite_self] at hr
  split at hr
  · unfold fitM at hr
    rw [end_noCol h] at hr
    split at hr
    · exact pop_noCol h hr
    · exact pop_noCol h hr
  · cases hr; exact ⟨h, rfl⟩
theorem go_plain (r : List Tok) : ∀ (prev : Option Tok) (st : List Blk) (o : List Tok), noCol st → plainL r → (∃ u, goM prev r (st, o, false) = .error u) ∨ ∃ st', noCol st' ∧ goM prev r (st, o, false) = .ok (st', o ++ r, false) := by
  induction r with
  | nil => intro prev st o h _; exact .inr ⟨st, h, by simp [goM]⟩
  | cons t r ih =>
    intro prev st o h hp
    unfold goM stepM
    cases hm : mid (over prev t) t (st, o, false) with
    | none => exact .inl ⟨t, rfl⟩
    | some q =>
      obtain ⟨h1, h2⟩ := mid_noCol h hm
      obtain ⟨st', h3, h4⟩ := beh_plain hp.1 h1 (q.2 ++ [t])
      simp only
      rw [h4, h2]
      rcases ih (some t) st' (o ++ [t]) h3 hp.2 with ⟨u, hu⟩ | ⟨st2, h5, h6⟩
      · exact .inl ⟨u, hu⟩
      · exact .inr ⟨st2, h5, by rw [h6]; simp⟩
/-- What has its brackets stays as it is, or has one that does not fit. -/
theorem lay_plain (t : Tok) (r : List Tok) (ht : isK t [123] = true) (hp : plainL (t :: r)) : (∃ a b, layM (t :: r) = ([], (a, b), 30)) ∨ layM (t :: r) = (t :: r, (0, 0), 0) := by
  have hs : start t = ([], [], false) := by unfold start; rw [ht]; rfl
  rw [show layM (t :: r) = resM ((t :: r).getLast (by simp)) (goM none (t :: r) (start t)) from rfl, hs]
  rcases go_plain (t :: r) none [] [] (fun b hb => by cases hb) hp with ⟨u, hu⟩ | ⟨st, h1, h2⟩
  · rw [hu]; exact .inl ⟨_, _, rfl⟩
  · rw [h2]
    unfold resM finM
    simp only
    rw [end_noCol h1]
    cases st with
    | nil => exact .inr (by simp)
    | cons b r => exact .inl ⟨_, _, rfl⟩
end Go.Proofs.YtnifnbndkbmdcaaDoor
