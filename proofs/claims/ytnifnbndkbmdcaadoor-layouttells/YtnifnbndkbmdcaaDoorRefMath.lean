/-
  What the document's answer and layout.Layout have in common: the mathematics of LayoutTells. No program in it.
-/
import Derived.Test.YtnifnbndkbmdcaaDoorRefA
namespace Go.Proofs.YtnifnbndkbmdcaaDoor
open Go.RowKit
set_option linter.unusedVariables false

/-- Blocks as they come to be: a column's is one of 1 on; a bracket's keeps the column of those below. -/
def wf : List Blk → Prop
  | [] => True
  | b :: r => wf r ∧ ((b.sg = [] ∧ 0 < b.cl) ∨ ((b.sg = [40] ∨ b.sg = [123]) ∧ b.cl = (top r).cl))
theorem wf_top (st : List Blk) (h : wf st) : 0 ≤ (top st).cl := by
  induction st with
  | nil => exact Int.le_refl _
  | cons b r ih =>
    rcases h.2 with ⟨_, h2⟩ | ⟨_, h2⟩
    · exact Int.le_of_lt h2
    · show 0 ≤ b.cl; rw [h2]; exact ih h.1
theorem code_col {b : Blk} (h : b.sg = []) : code b = b.cl := by unfold code; rw [if_pos h]
theorem code_round {b : Blk} (h : b.sg = [40]) : code b = -1 := by unfold code; rw [h]; rfl
theorem code_curly {b : Blk} (h : b.sg = [123]) : code b = 0 := by unfold code; rw [h]; rfl
/-- The column of the last block of a column. -/
def colR : List Blk → Int
  | [] => 0
  | b :: r => if 0 < code b then code b else colR r
theorem colR_top (st : List Blk) (h : wf st) : colR st = (top st).cl := by
  induction st with
  | nil => rfl
  | cons b r ih =>
    unfold colR
    rcases h.2 with ⟨h1, h2⟩ | ⟨h1, h2⟩
    · rw [code_col h1, if_pos h2]; rfl
    · have hc : ¬ 0 < code b := by
        rcases h1 with h1 | h1
        · rw [code_round h1]; decide
        · rw [code_curly h1]; decide
      rw [if_neg hc, ih h.1]
      show _ = b.cl
      rw [h2]
/-- The last block is one of a column just if the document's number is above 0. -/
theorem lastI_pos (st : List Blk) (h : wf st) : 0 < lastI st ↔ ∃ b r, st = b :: r ∧ b.sg = [] ∧ lastI st = b.cl := by
  cases st with
  | nil => simp [lastI]
  | cons b r =>
    constructor
    · intro hp
      rcases h.2 with ⟨h1, h2⟩ | ⟨h1, h2⟩
      · exact ⟨b, r, rfl, h1, code_col h1⟩
      · exfalso
        have hp' : 0 < code b := hp
        rcases h1 with h1 | h1
        · rw [code_round h1] at hp'; omega
        · rw [code_curly h1] at hp'; omega
    · rintro ⟨b', r', he, h1, h2⟩
      cases he
      rcases h.2 with ⟨_, h3⟩ | ⟨h3, _⟩
      · rw [h2]; exact h3
      · rcases h3 with h3 | h3 <;> (rw [h1] at h3; cases h3)
theorem lastI_round (st : List Blk) (h : wf st) : lastI st = -1 ↔ ((top st).sg == [40]) = true := by
  cases st with
  | nil => simp [lastI, top]
  | cons b r =>
    show code b = -1 ↔ (b.sg == [40]) = true
    rcases h.2 with ⟨h1, h2⟩ | ⟨h1 | h1, h2⟩
    · rw [code_col h1, h1]; constructor
      · intro e; omega
      · intro e; cases e
    · rw [code_round h1, h1]; simp
    · rw [code_curly h1, h1]; simp
theorem lastI_curly (st : List Blk) (h : wf st) : lastI st = 0 ↔ ((top st).sg == [123]) = true := by
  cases st with
  | nil => simp [lastI, top]
  | cons b r =>
    show code b = 0 ↔ (b.sg == [123]) = true
    rcases h.2 with ⟨h1, h2⟩ | ⟨h1 | h1, h2⟩
    · rw [code_col h1, h1]; constructor
      · intro e; omega
      · intro e; cases e
    · rw [code_round h1, h1]; simp
    · rw [code_curly h1, h1]; simp
theorem wf_tail {st : List Blk} (h : wf st) : wf st.tail := by
  cases st with
  | nil => exact h
  | cons b r => exact h.1
theorem wf_end (may : Int → Bool) (t : Tok) (st : List Blk) : ∀ o, wf st → wf (endM may t st o).1 := by
  induction st with
  | nil => intro o h; exact h
  | cons b r ih =>
    intro o h
    unfold endM
    split
    · exact ih _ h.1
    · exact h
theorem wf_line (t : Tok) (st : List Blk) (o : List Tok) (h : wf st) : wf (lineM t st o).1 := wf_end _ t st o h
theorem wf_pop {s : List UInt8} {st : List Blk} {o : List Tok} {r : List Blk × List Tok} (h : wf st) (hr : popM s st o = some r) : wf r.1 := by
  unfold popM at hr
  split at hr
  · cases hr; exact wf_tail h
  · cases hr
theorem wf_mid {nl : Bool} {t : Tok} {s : Sm} {r : List Blk × List Tok} (h : wf s.1) (hr : mid nl t s = some r) : wf r.1 := by
  unfold mid at hr
  simp only at hr
  have hq : wf (if (nl && !s.2.2) = true then lineM t s.1 s.2.1 else (s.1, s.2.1)).1 := by
    split
    · exact wf_line t _ _ h
    · exact h
  generalize (if (nl && !s.2.2) = true then lineM t s.1 s.2.1 else (s.1, s.2.1)) = q at *
  split at hr
  · unfold fitM at hr
    split at hr
    · exact wf_pop (wf_end every t q.1 q.2 hq) hr
    · exact wf_pop hq hr
  · cases hr; exact hq
theorem wf_ind (t : Tok) (rest : List Tok) (st : List Blk) (o : List Tok) (f : Bool) (h : wf st) : wf (indM t rest st o f).1 := by
  have ht := wf_top st h
  unfold indM
  split
  · exact h
  · split
    · exact h
    · split
      · exact ⟨h, .inl ⟨rfl, by simp only; omega⟩⟩
      · exact h
theorem wf_beh (t : Tok) (rest : List Tok) (st : List Blk) (o : List Tok) (f : Bool) (h : wf st) : wf (behM t rest st o f).1 := by
  unfold behM
  split
  · rename_i ho
    refine ⟨h, .inr ⟨?_, rfl⟩⟩
    unfold opensK isK at ho; simp at ho
    rcases ho with ho | ho
    · exact .inl ho.2
    · exact .inr ho.2
  · split
    · exact wf_ind t rest st o f h
    · exact h
theorem wf_start (t : Tok) : wf (start t).1 := by
  unfold start
  split
  · trivial
  · exact ⟨trivial, .inl ⟨rfl, by simp only; omega⟩⟩
end Go.Proofs.YtnifnbndkbmdcaaDoor
