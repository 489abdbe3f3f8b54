/-
  Brackets in what was told fit; without what was put the tokens are as they were: the mathematics of LayoutFits and LayoutKeeps. No program in it.
-/
import Derived.Test.YtnifnbndkbmdcaaDoorLay
namespace Go.Proofs.YtnifnbndkbmdcaaDoor
open Go.RowKit
set_option linter.unusedVariables false

/-- What a token does to the brackets that are open. -/
def chk1 (stk : List (List UInt8)) (t : Tok) : Option (List (List UInt8)) :=
  if t.kd = 4 then
    if t.tx = [40] ∨ t.tx = [123] then some (t.tx :: stk)
    else if t.tx = [41] then (match stk with | [] => none | s :: r => if s = [40] then some r else none)
    else if t.tx = [125] then (match stk with | [] => none | s :: r => if s = [40] then none else some r)
    else some stk
  else some stk
def chk (stk : List (List UInt8)) : List Tok → Option (List (List UInt8))
  | [] => some stk
  | t :: r => (chk1 stk t).bind fun s => chk s r
theorem chk_append (a b : List Tok) : ∀ stk, chk stk (a ++ b) = (chk stk a).bind fun s => chk s b := by
  induction a with
  | nil => intro stk; rfl
  | cons t r ih =>
    intro stk
    show (chk1 stk t).bind _ = ((chk1 stk t).bind _).bind _
    cases chk1 stk t with
    | none => rfl
    | some s => exact ih s
theorem chk_snoc {o : List Tok} {s : List (List UInt8)} (h : chk [] o = some s) (t : Tok) : chk [] (o ++ [t]) = chk1 s t := by
  rw [chk_append, h]
  show (chk1 s t).bind _ = _
  cases chk1 s t <;> rfl
def sgn (b : Blk) : List UInt8 := if b.sg = [] then [123] else b.sg
def Good (st : List Blk) : Prop := ∀ b ∈ st, b.sg = [] ∨ b.sg = [40] ∨ b.sg = [123]
def Inv (st : List Blk) (o : List Tok) : Prop := Good st ∧ chk [] o = some (st.map sgn)
theorem endM_inv (may : Int → Bool) (t : Tok) (st : List Blk) : ∀ o, Inv st o → Inv (endM may t st o).1 (endM may t st o).2 := by
  induction st with
  | nil => intro o h; exact h
  | cons b r ih =>
    intro o h
    unfold endM
    split
    · rename_i hb
      simp only [Bool.and_eq_true, beq_iff_eq] at hb
      refine ih _ ⟨fun x hx => h.1 x (by simp [hx]), ?_⟩
      rw [chk_snoc h.2]
      simp [chk1, sgn, hb.1]
    · exact h
theorem lineM_inv (t : Tok) (st : List Blk) (o : List Tok) (h : Inv st o) : Inv (lineM t st o).1 (lineM t st o).2 := by
  have h2 := endM_inv (fun c => decide (t.co < c)) t st o h
  unfold lineM
  simp only
  split
  · refine ⟨h2.1, ?_⟩
    rw [chk_snoc h2.2]
    simp [chk1, pt1]
  · exact h2
theorem isK_iff {t : Tok} {l : List UInt8} : isK t l = true ↔ t.kd = 4 ∧ t.tx = l := by unfold isK; simp
theorem pop_inv {s : List UInt8} {st : List Blk} {o : List Tok} {r : List Blk × List Tok} (hs : s ≠ []) (h : Inv st o) (hr : popM s st o = some r) : ∃ b, st = b :: r.1 ∧ b.sg = s ∧ r.2 = o := by
  unfold popM at hr
  split at hr
  · rename_i hb
    cases hr
    cases st with
    | nil => simp [top] at hb; exact absurd hb.symm (by simpa using hs)
    | cons b r => exact ⟨b, rfl, by simpa [top] using hb, rfl⟩
  · cases hr
/-- One token told, with its bracket's block closed. -/
theorem mid_inv {nl : Bool} {t : Tok} {s : Sm} {r : List Blk × List Tok} (h : Inv s.1 s.2.1) (hr : mid nl t s = some r) :
    Good r.1 ∧ chk [] (r.2 ++ [t]) = some (if opensK t then t.tx :: r.1.map sgn else r.1.map sgn) := by
  unfold mid at hr
  simp only at hr
  have hI : Inv (if (nl && !s.2.2) = true then lineM t s.1 s.2.1 else (s.1, s.2.1)).1 (if (nl && !s.2.2) = true then lineM t s.1 s.2.1 else (s.1, s.2.1)).2 := by
    split
    · exact lineM_inv t _ _ h
    · exact h
  generalize (if (nl && !s.2.2) = true then lineM t s.1 s.2.1 else (s.1, s.2.1)) = q at *
  by_cases hc : closesK t = true
  · rw [if_pos hc] at hr
    have ho : opensK t = false := by
      unfold closesK at hc
      unfold opensK
      cases h1 : isK t [41] with
      | true => have := isK_iff.1 h1; simp [isK, this]
      | false =>
        rw [h1] at hc
        have := isK_iff.1 (show isK t [125] = true by simpa using hc); simp [isK, this]
    rw [ho]
    unfold fitM at hr
    split at hr
    · rename_i h41
      have hE := endM_inv every t q.1 q.2 hI
      obtain ⟨b, hb1, hb2, hb3⟩ := pop_inv (by decide) hE hr
      have ht := isK_iff.1 h41
      refine ⟨fun x hx => hE.1 x (by rw [hb1]; simp [hx]), ?_⟩
      rw [hb3, chk_snoc hE.2, hb1]
      simp [chk1, ht, sgn, hb2]
    · rename_i h41
      have h125 : isK t [125] = true := by unfold closesK at hc; simpa [h41] using hc
      obtain ⟨b, hb1, hb2, hb3⟩ := pop_inv (by decide) hI hr
      have ht := isK_iff.1 h125
      refine ⟨fun x hx => hI.1 x (by rw [hb1]; simp [hx]), ?_⟩
      rw [hb3, chk_snoc hI.2, hb1]
      simp [chk1, ht, sgn, hb2]
  · rw [if_neg hc] at hr
    cases hr
    refine ⟨hI.1, ?_⟩
    rw [chk_snoc hI.2]
    unfold chk1
    have hc1 : ¬ (t.kd = 4 ∧ t.tx = [41]) := fun e => hc (by unfold closesK; rw [isK_iff.2 e]; rfl)
    have hc2 : ¬ (t.kd = 4 ∧ t.tx = [125]) := fun e => hc (by unfold closesK; rw [isK_iff.2 e]; simp)
    by_cases hk : t.kd = 4
    · have e1 : ¬ t.tx = [41] := fun e => hc1 ⟨hk, e⟩
      have e2 : ¬ t.tx = [125] := fun e => hc2 ⟨hk, e⟩
      by_cases hop : t.tx = [40] ∨ t.tx = [123]
      · have : opensK t = true := by
          unfold opensK
          rcases hop with e | e
          · rw [isK_iff.2 ⟨hk, e⟩]; rfl
          · rw [isK_iff.2 ⟨hk, e⟩]; simp
        rw [if_pos hk, if_pos hop, this]; rfl
      · have : opensK t = false := by
          have o1 : isK t [40] = false := by cases h : isK t [40] with | false => rfl | true => exact absurd (.inl (isK_iff.1 h).2) hop
          have o2 : isK t [123] = false := by cases h : isK t [123] with | false => rfl | true => exact absurd (.inr (isK_iff.1 h).2) hop
          unfold opensK; rw [o1, o2]; rfl
        rw [if_pos hk, if_neg hop, if_neg e1, if_neg e2, this]; rfl
    · have : opensK t = false := by
        have o1 : isK t [40] = false := by cases h : isK t [40] with | false => rfl | true => exact absurd (isK_iff.1 h).1 hk
        have o2 : isK t [123] = false := by cases h : isK t [123] with | false => rfl | true => exact absurd (isK_iff.1 h).1 hk
        unfold opensK; rw [o1, o2]; rfl
      rw [if_neg hk, this]; rfl
theorem ind_inv (t : Tok) (rest : List Tok) (st : List Blk) (o : List Tok) (f : Bool) (h : Inv st o) : Inv (indM t rest st o f).1 (indM t rest st o f).2.1 := by
  have h1 : chk [] (o ++ [pt1 123 t]) = some ([123] :: st.map sgn) := by rw [chk_snoc h.2]; simp [chk1, pt1]
  have h2 : chk [] ((o ++ [pt1 123 t]) ++ [pt1 125 t]) = some (st.map sgn) := by rw [chk_snoc h1]; simp [chk1, pt1]
  unfold indM
  split
  · exact ⟨h.1, h2⟩
  · split
    · exact h
    · split
      · rename_i n _ _ _
        refine ⟨fun b hb => ?_, ?_⟩
        · rcases List.mem_cons.1 hb with rfl | hb
          · exact .inl rfl
          · exact h.1 b hb
        · simp only
          rw [chk_snoc h.2]; simp [chk1, pt1, sgn]
      · exact ⟨h.1, h2⟩
theorem step_inv {nl : Bool} {t : Tok} {rest : List Tok} {s s' : Sm} (h : Inv s.1 s.2.1) (hs : stepM nl t rest s = some s') : Inv s'.1 s'.2.1 := by
  unfold stepM at hs
  split at hs
  · cases hs
  · rename_i r hr
    obtain ⟨h1, h2⟩ := mid_inv h hr
    cases hs
    unfold behM
    cases ho : opensK t
    · rw [ho] at h2
      simp only [Bool.false_eq_true, if_false] at h2 ⊢
      split
      · exact ind_inv _ _ _ _ _ ⟨h1, h2⟩
      · exact ⟨h1, h2⟩
    · rw [ho] at h2
      simp only [if_true] at h2 ⊢
      have htx : t.tx = [40] ∨ t.tx = [123] := by
        unfold opensK isK at ho; simp at ho
        rcases ho with h | h
        · exact .inl h.2
        · exact .inr h.2
      refine ⟨fun b hb => ?_, ?_⟩
      · rcases List.mem_cons.1 hb with rfl | hb
        · exact .inr htx
        · exact h1 b hb
      · rw [h2]; rcases htx with e | e <;> simp [sgn, e]
theorem go_inv (r : List Tok) : ∀ (prev : Option Tok) (s s' : Sm), Inv s.1 s.2.1 → goM prev r s = .ok s' → Inv s'.1 s'.2.1 := by
  induction r with
  | nil => intro prev s s' h hs; cases hs; exact h
  | cons t r ih =>
    intro prev s s' h hs
    unfold goM at hs
    split at hs
    · cases hs
    · rename_i q hq
      exact ih _ _ _ (step_inv h hq) hs
theorem start_inv (t : Tok) : Inv (start t).1 (start t).2.1 := by
  unfold start
  split
  · exact ⟨fun b hb => (by cases hb), rfl⟩
  · refine ⟨fun b hb => ?_, ?_⟩
    · rw [List.mem_singleton.1 hb]; exact .inl rfl
    · simp [chk, chk1, pt1, sgn]
theorem lay_cons (t : Tok) (r : List Tok) : layM (t :: r) = resM ((t :: r).getLast (by simp)) (goM none (t :: r) (start t)) := rfl
theorem fin_nil {u : Tok} {s : Sm} (h : (endM every u s.1 s.2.1).1 = []) : finM u s = ((endM every u s.1 s.2.1).2, (0, 0), 0) := by
  unfold finM; split
  · rfl
  · rename_i e; rw [h] at e; cases e
theorem fin_cons {u : Tok} {s : Sm} {b : Blk} {q : List Blk} (h : (endM every u s.1 s.2.1).1 = b :: q) : finM u s = ([], (u.ln, u.co), 30) := by
  unfold finM; split
  · rename_i e; rw [h] at e; cases e
  · rfl
/-- What Layout tells: brackets that fit, or an error. -/
theorem lay_fits (l : List Tok) : (∃ m, layM l = (m, (0, 0), 0) ∧ chk [] m = some []) ∨ ∃ a b, layM l = ([], (a, b), 30) := by
  cases l with
  | nil => exact .inl ⟨[], rfl, rfl⟩
  | cons t r =>
    rw [lay_cons]
    generalize (t :: r).getLast (by simp) = u
    cases hg : goM none (t :: r) (start t) with
    | error u => exact .inr ⟨_, _, rfl⟩
    | ok s =>
      have hI := go_inv _ _ _ _ (start_inv t) hg
      show (∃ m, finM u s = (m, (0, 0), 0) ∧ chk [] m = some []) ∨ ∃ a b, finM u s = ([], (a, b), 30)
      have hE := endM_inv every u s.1 s.2.1 hI
      cases he : (endM every u s.1 s.2.1).1 with
      | nil =>
        rw [fin_nil he]
        rw [he] at hE
        exact .inl ⟨_, rfl, hE.2⟩
      | cons b q => rw [fin_cons he]; exact .inr ⟨_, _, rfl⟩
theorem endM_ge (may : Int → Bool) (t : Tok) (st : List Blk) (o : List Tok) : o.length ≤ (endM may t st o).2.length := by
  have h1 := endM_sum may t st o
  have h2 := endM_len may t st o
  omega
theorem mid_ge {nl : Bool} {t : Tok} {s : Sm} {r : List Blk × List Tok} (h : mid nl t s = some r) : s.2.1.length ≤ r.2.length := by
  unfold mid at h
  simp only at h
  have hq : s.2.1.length ≤ (if (nl && !s.2.2) = true then lineM t s.1 s.2.1 else (s.1, s.2.1)).2.length := by
    split
    · have := endM_ge (fun c => decide (t.co < c)) t s.1 s.2.1
      unfold lineM; simp only
      split <;> simp <;> omega
    · exact Nat.le_refl _
  generalize (if (nl && !s.2.2) = true then lineM t s.1 s.2.1 else (s.1, s.2.1)) = q at *
  split at h
  · unfold fitM at h
    have := endM_ge every t q.1 q.2
    split at h
    · unfold popM at h
      split at h
      · cases h; exact Nat.le_trans hq this
      · cases h
    · unfold popM at h
      split at h
      · cases h; exact hq
      · cases h
  · cases h; exact hq
theorem beh_ge (t : Tok) (rest : List Tok) (st : List Blk) (o : List Tok) (f : Bool) : o.length ≤ (behM t rest st o f).2.1.length := by
  unfold behM
  split
  · exact Nat.le_refl _
  · split
    · unfold indM
      split
      · simp only [List.length_append]; omega
      · split
        · exact Nat.le_refl _
        · split <;> simp only [List.length_append] <;> omega
    · exact Nat.le_refl _
theorem go_ge (r : List Tok) : ∀ (prev : Option Tok) (s s' : Sm), goM prev r s = .ok s' → s.2.1.length + r.length ≤ s'.2.1.length := by
  induction r with
  | nil => intro prev s s' hs; cases hs; simp
  | cons t r ih =>
    intro prev s s' hs
    unfold goM at hs
    split at hs
    · cases hs
    · rename_i q hq
      unfold stepM at hq
      split at hq
      · cases hq
      · rename_i x hx
        cases hq
        have h1 := ih _ _ _ hs
        have h2 := mid_ge hx
        have h3 := beh_ge t r x.1 (x.2 ++ [t]) false
        simp at h3 ⊢; omega
theorem lay_more (l m : List Tok) (h : layM l = (m, (0, 0), 0)) : l.length ≤ m.length := by
  cases l with
  | nil => simp
  | cons t r =>
    rw [lay_cons] at h
    generalize (t :: r).getLast (by simp) = u at h
    cases hg : goM none (t :: r) (start t) with
    | error u => rw [hg] at h; simp [resM] at h
    | ok s =>
      rw [hg] at h
      have h1 := go_ge _ _ _ _ hg
      have h2 := endM_ge every u s.1 s.2.1
      have h3 : finM u s = (m, (0, 0), 0) := h
      cases he : (endM every u s.1 s.2.1).1 with
      | nil => rw [fin_nil he] at h3; cases h3; omega
      | cons b q => rw [fin_cons he] at h3; simp at h3
end Go.Proofs.YtnifnbndkbmdcaaDoor
