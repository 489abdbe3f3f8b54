/-
  THE WALK OF put, WHOLE: its contract at any weight.
-/
import Derived.Test.YtebcdjlhmoffjaaDoorRound1
import Derived.Test.YtebcdjlhmoffjaaDoorRound2
import Derived.Test.YtebcdjlhmoffjaaDoorRound3
namespace Go.Proofs.YtebcdjlhmoffjaaDoor
open Go.RowKit
set_option linter.unusedVariables false
set_option linter.unusedSimpArgs false
theorem ptw_pos (x : Pt) : 1 ≤ ptw x := by
  rcases x with (s | s | s | l | e | e | l | s | f | d | d | p) | ⟨s, l⟩
  · exact Nat.le_refl _
  · exact Nat.le_refl _
  · exact Nat.le_refl _
  · show 1 ≤ l.length + 1; omega
  · show 1 ≤ tw e + 3; omega
  · show 1 ≤ tw e; rw [tw_eq]; omega
  · show 1 ≤ 3 + (l.map sw).sum; omega
  · show 1 ≤ sw s; rw [sw_eq]; omega
  · show 1 ≤ 5 + (f.ar.map sw).sum; omega
  · show 1 ≤ 6 + d.ps.length + (d.fs.map fun f => fmw f + 1).sum; omega
  · show 1 ≤ 3 + tw d.bd; omega
  · show 1 ≤ 4 + (p.ds.map fun d => dtw d + 1).sum + (p.fs.map fun d => dfw d + 1).sum; omega
  · show 1 ≤ 1 + (l.map fun p => p0w p + 1).sum; omega
theorem ptw_le {ps : List Pt} {i : Nat} {x : Pt} (h : ps[i]? = some x) : ptw x ≤ ptsw ps := by
  induction ps generalizing i with
  | nil => simp at h
  | cons a r ih =>
    have e : ptsw (a :: r) = ptw a + ptsw r := by simp [ptsw]
    rw [e]
    cases i with
    | zero => cases h; omega
    | succ i => have := ih (by simpa using h); omega
theorem round_any {n : Nat} (IH : ∀ k, k < n → PutOK k) {P : Nat → Prop} {t : Nat} {st : St} {lv : Nat} {ps : List Pt} {p : Option Addr} {c : Nat} {w w1 : World} {i : Nat} {a : Act} {o : List UInt8} {tg : Bool} {x : Pt} (hw : ptsw ps ≤ n) (hlv : lv ≤ 30) (hG : GP P w) (hs : SlOK p ps.length c) (hM : AM (PV P w) P w p ps) (hJ : putJ P t st lv ps p c w i a w1) (hst : ptsA lv (ps.take i) st = some (o, tg)) (hp : ps[i]? = some x)
    (J : Act → World → Prop) (Q : Exit → Act → World → Prop) (hJ' : ∀ a' w', putJ P t st lv ps p c w (i + 1) a' w' → J a' w') : (behindLabel Tryd.f35.body).wp Tryd.prog (Exit.jump 0 J Q) a w1 := by
  have h1 := ptw_pos x
  have h2 := ptw_le hp
  have IH := IH (ptw x - 1) (by omega)
  have hw : ptw x ≤ ptw x - 1 + 1 := by omega
  rcases x with (s | s | s | l | e | e | l | s | f | d | d | q) | ⟨s, l⟩
  · exact round_str IH hlv hG hs hM hJ hst s hp hw J Q hJ'
  · exact round_opn IH hlv hG hs hM hJ hst s hp hw J Q hJ'
  · exact round_cls IH hlv hG hs hM hJ hst s hp hw J Q hJ'
  · exact round_strs IH hlv hG hs hM hJ hst l hp hw J Q hJ'
  · exact round_atom IH hlv hG hs hM hJ hst e hp hw J Q hJ'
  · exact round_expr IH hlv hG hs hM hJ hst e hp hw J Q hJ'
  · exact round_sigs IH hlv hG hs hM hJ hst l hp hw J Q hJ'
  · exact round_sig IH hlv hG hs hM hJ hst s hp hw J Q hJ'
  · exact round_form IH hlv hG hs hM hJ hst f hp hw J Q hJ'
  · exact round_data IH hlv hG hs hM hJ hst d hp hw J Q hJ'
  · exact round_def IH hlv hG hs hM hJ hst d hp hw J Q hJ'
  · exact round_prog IH hlv hG hs hM hJ hst q hp hw J Q hJ'
  · exact round_row IH hlv hG hs hM hJ hst s l hp hw J Q hJ'
set_option maxRecDepth 100000 in
set_option maxHeartbeats 1000000 in
/-- The last round: all parts are put, or there is no text. -/
theorem round_stop {P : Nat → Prop} {t : Nat} {st : St} {lv : Nat} {ps : List Pt} {p : Option Addr} {c : Nat} {w w1 : World} {i : Nat} {a : Act} (hn63 : ps.length ≤ 9223372036854775807) (hJ : putJ P t st lv ps p c w i a w1) (hst : ptsA lv (ps.take i) st = none ∨ i = ps.length)
    (J : Act → World → Prop) (Q : Exit → Act → World → Prop) (hQ : ∀ a', a'.defers = [] → TX P t (ptsA lv ps st) lv w1 → KP P w w1 → Q .ret a' w1) : (behindLabel Tryd.f35.body).wp Tryd.prog (Exit.jump 0 J Q) a w1 := by
  obtain ⟨T, rfl⟩ := putJ_lit hJ
  obtain ⟨hi, _, _, _, _, _, hT, hK⟩ := hJ
  obtain ⟨x4, c4, f4, c5, f5, hx4, htl⟩ := hT.level
  have hall : ptsA lv ps st = ptsA lv (ps.drop i) (ptsA lv (ps.take i) st) := by
    unfold ptsA; rw [← List.foldl_append, List.take_append_drop]
  have hT2 : TX P t (ptsA lv ps st) lv w1 := by
    rcases hst with h | h
    · rw [hall, h, ptsA_none]; rw [h] at hT; exact hT
    · rw [h, List.take_length] at hT; exact hT
  unfold behindLabel Tryd.f35
  dsimp only
  have HQ := hide fun a' h => hQ a' h hT2 hK
  generalize hm : ps.length = m at *
  cases hb : (ptsA lv (ps.take i) st == none)
  · have him : i = m := by
      rcases hst with h | h
      · rw [h] at hb; cases hb
      · exact h
    rw [hb] at c5
    have hii : (i : Int) = m := by omega
    clear hQ hT2 hT hK hall hx4 hst hb
    subst him
    go_wp2_with fail
    exact HQ.out _ rfl
  · rw [hb] at c5
    clear hQ hT2 hT hK hall hx4 hst hb
    go_wp2_with fail
    exact HQ.out _ rfl
set_option maxRecDepth 100000 in
theorem put_all (n : Nat) : PutOK n := by
  induction n using Nat.strongRecOn with
  | _ n ih =>
    intro P t st lv ps p c w hw hlv hs hM hG hT
    have hn63 : ps.length ≤ 9223372036854775807 := Nat.le_trans hs.1 hs.2.1
    have main : ∀ (i : Nat) (a : Act) (w1 : World) (J : Act → World → Prop) (Q : Exit → Act → World → Prop), putJ P t st lv ps p c w i a w1 → (∀ a' w', putJ P t st lv ps p c w (i + 1) a' w' → J a' w') → (∀ a', a'.defers = [] → TX P t (ptsA lv ps st) lv w1 → KP P w w1 → Q .ret a' w1) → (behindLabel Tryd.f35.body).wp Tryd.prog (Exit.jump 0 J Q) a w1 := by
      intro i a w1 J Q hJ hJ' hQ
      cases hst : ptsA lv (ps.take i) st with
      | none => exact round_stop hn63 hJ (.inl hst) J Q hQ
      | some q =>
        rcases Nat.lt_or_ge i ps.length with hi | hi
        · exact round_any ih hw hlv hG hs hM hJ (o := q.1) (tg := q.2) hst (x := ps[i]) (by simp) J Q hJ'
        · exact round_stop hn63 hJ (.inr (by have := hJ.1; omega)) J Q hQ
    go_enter Tryd.func35, Tryd.ntmps35
    have hfin : ∀ w1 a', a'.defers = [] → TX P t (ptsA lv ps st) lv w1 → KP P w w1 → bodyPost Tryd.prog Tryd.f35 (fun e w' => e = .returned (.tuple #[]) ∧ TX P t (ptsA lv ps st) lv w' ∧ KP P w w') .ret a' w1 := by
      intro w1 a' h1 h2 h3
      exact bodyPost_ret (v := .tuple #[]) (results_none (by rfl) _ _ _) h1 ⟨rfl, h2, h3⟩
    refine wp_scope_jumps (rest := Code.seq .skip (behindLabel Tryd.f35.body)) 0 (fun a' w' => ∃ i, putJ P t st lv ps p c w i a' w') (fun a' _ => ps.length - (intOf (a'.tmps.getD 4 undef)).toNat) rfl ?_ ?_
    · go_wp2
      rename_i Q1 K1 hK1
      refine wp_label ?_
      refine hK1 _ _ ?_
      exact main 0 _ w _ _ ⟨Nat.zero_le _, rfl, rfl, rfl, rfl, rfl, hT, KP.refl _ _⟩ (fun a' w' h => ⟨1, h⟩) (hfin w)
    · rintro a' w' ⟨i, hJ⟩
      refine wp_seq_k fun K hK => ?_
      refine wp_skip ?_
      refine hK _ _ ?_
      by_cases hi : i < ps.length
      · refine main i a' w' _ _ hJ (fun a2 w2 h => ⟨⟨i + 1, h⟩, ?_⟩) (hfin w')
        rw [h.2.2.2.2.2.1, hJ.2.2.2.2.2.1]
        simp [intOf]
        omega
      · exact round_stop hn63 hJ (.inr (by have := hJ.1; omega)) _ _ (hfin w')
end Go.Proofs.YtebcdjlhmoffjaaDoor
