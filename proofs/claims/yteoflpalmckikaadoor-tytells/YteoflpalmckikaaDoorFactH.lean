/-
  FACTS THAT ARE HOLES, AS ROWS OF A LIST THAT IS MADE.
-/
import Derived.Test.YteoflpalmckikaaDoorApplyP
import Derived.Test.YteoflpalmckikaaDoorNamesM
namespace Go.Proofs.YteoflpalmckikaaDoor
open Go.RowKit
set_option linter.unusedVariables false
set_option linter.unusedSimpArgs false
/-- A fact's cells, if it is a hole. -/
def fcell (f : Int × Ty) : List Value := [.int .i64 f.1, .string ⟨#[]⟩, .int .i64 f.2.n, .slice none 0 0]
def frow (l : List (Int × Ty)) : List Value := l.flatMap fcell
theorem frow_len (l : List (Int × Ty)) : (frow l).length = l.length * 4 := by
  induction l with
  | nil => rfl
  | cons a r ih =>
    unfold frow at *
    rw [List.flatMap_cons, List.length_append, ih, List.length_cons]
    show 4 + _ = _
    omega
theorem frow_snoc (l : List (Int × Ty)) (f : Int × Ty) : frow (l ++ [f]) = frow l ++ fcell f := by unfold frow; simp
theorem frow_at {l : List (Int × Ty)} {i : Nat} {f : Int × Ty} (h : l[i]? = some f) {j : Nat} {d : Value} (hj : (fcell f)[j]? = some d) : (frow l)[i * 4 + j]? = some d := by
  induction l generalizing i with
  | nil => simp at h
  | cons a r ih =>
    unfold frow at *
    rw [List.flatMap_cons]
    cases i with
    | zero =>
      simp at h
      subst h
      rw [List.getElem?_append_left (by have := (List.getElem?_eq_some_iff.1 hj).1; omega)]
      simpa using hj
    | succ i =>
      rw [List.getElem?_append_right (by show 4 ≤ _; omega)]
      have := ih (i := i) (by simpa using h)
      rw [show (i + 1) * 4 + j - (fcell a).length = i * 4 + j by show (i + 1) * 4 + j - 4 = _; omega]
      exact this
theorem frow_rm {W : World} {base n c : Nat} {p : Option Addr} {l : List (Int × Ty)} (h : W.ownsRow base 34 4 (.slice p n c) n (frow l)) (hl : l.length = n) (hb : ∀ f ∈ l, (-9223372036854775808 ≤ f.1 ∧ f.1 ≤ 9223372036854775807) ∧ ∃ x : Int, f.2 = hole x ∧ (-9223372036854775808 ≤ x ∧ x ≤ 9223372036854775807)) : RM 4 (fun b => b < W.heap.size) W (FaIn (fun b => b < W.heap.size) W) p l := by
  cases hc : l with
  | nil => exact .inl rfl
  | cons a r =>
    rw [← hc]
    have hn : 0 < n := by rw [← hl, hc]; simp
    have h' := h
    rcases h with ⟨e1, ⟨e2, e3⟩ | ⟨g, cap, cur, hv, hbs, hg, r1, r2, r3⟩⟩
    · omega
    · cases hv
      refine .inr ⟨g, 0, rfl, (Array.getElem?_eq_some_iff.1 hg).1, fun i t ht => ⟨fcell t, rfl, fun j d hd => ?_, ?_⟩⟩
      · rw [Nat.zero_add]
        exact row_cell h' (frow_at ht hd)
      · obtain ⟨hb1, x, hx, hb2⟩ := hb t (List.mem_of_getElem? ht)
        refine ⟨[.string ⟨#[]⟩, .int .i64 t.2.n, .slice none 0 0], rfl, hb1, ?_⟩
        rw [hx]
        exact hole_in _ W x hb2
end Go.Proofs.YteoflpalmckikaaDoor
