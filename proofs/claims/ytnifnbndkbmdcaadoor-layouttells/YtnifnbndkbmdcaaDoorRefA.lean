/-
  THE DOCUMENT's ANSWER (dawdlerref03): what it has, over the same model; the walks of key, last, shut.
-/
import Derived.Test.YtnifnbndkbmdcaaDoorFitMath
namespace Go.Proofs.YtnifnbndkbmdcaaDoor
open Go.RowKit
set_option linter.unusedVariables false

/-- Numbers from p on. -/
def IMem (w : World) (p : Option Addr) (l : List Int) : Prop := l = [] ∨ ∃ b o, p = some ⟨b, o, none⟩ ∧ b < w.heap.size ∧ ∀ i x, l[i]? = some x → w.cell? ⟨b, o + i, none⟩ = some (.int .i64 x)
theorem IMem.below {w w' : World} {n : Nat} {p : Option Addr} {l : List Int} (h : IMem w p l) (hn : w.heap.size ≤ n) (hb : Below n w w') : IMem w' p l := by
  rcases h with rfl | ⟨b, o, hp, hbk, hm⟩
  · exact .inl rfl
  · exact .inr ⟨b, o, hp, Nat.lt_of_lt_of_le hbk hb.size, fun i x hx => (hb.cell (p := ⟨b, o + i, none⟩) (Nat.lt_of_lt_of_le hbk hn)).trans (hm i x hx)⟩
/-- A block as the document's answer has it. -/
def code (b : Blk) : Int := if b.sg = [] then b.cl else if b.sg = [123] then 0 else -1
def ints (st : List Blk) : List Int := st.reverse.map code
theorem ints_len (st : List Blk) : (ints st).length = st.length := by simp [ints]
theorem ints_cons (b : Blk) (st : List Blk) : ints (b :: st) = ints st ++ [code b] := by simp [ints]
def lastI (st : List Blk) : Int := match st with | [] => -2 | b :: _ => code b
/-- A state in memory. -/
structure RS (w : World) (po : Option Addr) (co : Nat) (pi : Option Addr) (ci : Nat) (o : List Tok) (st : List Blk) : Prop where
  out : TMem w po o
  opn : IMem w pi (ints st)
  cap : st.length ≤ ci
  no : po = none → co = 0
  ni : pi = none → ci = 0
theorem RS.below {w w' : World} {po : Option Addr} {co : Nat} {pi : Option Addr} {ci : Nat} {o : List Tok} {st : List Blk} (h : RS w po co pi ci o st) (hb : Below w.heap.size w w') : RS w' po co pi ci o st := ⟨h.out.below (Nat.le_refl _) hb, h.opn.below (Nat.le_refl _) hb, h.cap, h.no, h.ni⟩
theorem rkey_any (t : Tok) (l : List UInt8) (w : World) : Calls Tryd.prog 22 #[tv t, .string (S l)] w fun e w' => e = .returned (.bool (isK t l)) ∧ Below w.heap.size w w' := by
  have h1 := S_list t.tx
  have h2 := S_list l
  unfold isK tv
  generalize S t.tx = s at *
  generalize S l = u at *
  generalize t.kd = k at *
  by_cases h : k = 4
  · subst h
    go_enter Tryd.func22, Tryd.ntmps22
    go_wp2
    go_ret
    exact ⟨rfl, (Below.refl _ _).alloc (Nat.le_refl _) _⟩
  · have h4 : (k == 4) = false := by simpa using h
    go_enter Tryd.func22, Tryd.ntmps22
    go_wp2
    go_ret
    exact ⟨by simp [h], (Below.refl _ _).alloc (Nat.le_refl _) _⟩
theorem ints_last (b : Blk) (st : List Blk) : (ints (b :: st))[st.length]? = some (code b) := by
  rw [ints_cons, List.getElem?_append_right (by rw [ints_len]; exact Nat.le_refl _), ints_len]; simp
set_option maxRecDepth 20000 in
theorem last_ref (o : List Tok) (st : List Blk) (po : Option Addr) (co : Nat) (pi : Option Addr) (ci : Nat) (w : World) (hR : RS w po co pi ci o st) (hn : st.length ≤ 1000000) :
    Calls Tryd.prog 28 #[.agg #[.slice po o.length co, .slice pi st.length ci]] w fun e w' => e = .returned (.int .i64 (lastI st)) ∧ Below w.heap.size w w' := by
  cases st with
  | nil =>
    unfold lastI
    simp only [List.length_nil]
    go_enter Tryd.func28, Tryd.ntmps28
    go_wp2_with fail
    go_ret
    exact ⟨rfl, (Below.refl _ _).alloc (Nat.le_refl _) _⟩
  | cons b st =>
    rcases hR.opn with he | ⟨g, og, rfl, hg, hm⟩
    · have := ints_len (b :: st); rw [he] at this; simp at this
    have c0 := hm st.length (code b) (ints_last b st)
    have c1 : ∀ x : Obj, (w.alloc x).cell? ⟨g, og + st.length, none⟩ = some (.int .i64 (code b)) := fun x => (World.cell?_of_block (Below.heap_alloc w x g hg)).trans c0
    unfold lastI
    simp only [List.length_cons] at hn ⊢
    clear hR hm
    generalize code b = cb at *
    generalize st.length = n at *
    go_enter Tryd.func28, Tryd.ntmps28
    go_wp2_with fail
    go_ret
    exact ⟨rfl, (Below.refl _ _).alloc (Nat.le_refl _) _⟩
set_option maxRecDepth 20000 in
theorem shut_ref (o : List Tok) (b : Blk) (st : List Blk) (po : Option Addr) (co : Nat) (pi : Option Addr) (ci : Nat) (w : World) (hR : RS w po co pi ci o (b :: st)) (hn : st.length ≤ 1000000) :
    Calls Tryd.prog 29 #[.agg #[.slice po o.length co, .slice pi (st.length + 1) ci]] w fun e w' => e = .returned (.agg #[.slice po o.length co, .slice pi st.length ci]) ∧ RS w' po co pi ci o st ∧ Below w.heap.size w w' := by
  have hcap := hR.cap
  simp only [List.length_cons] at hcap
  have hR2 : RS w po co pi ci o st := by
    refine ⟨hR.out, ?_, by omega, hR.no, hR.ni⟩
    rcases hR.opn with he | ⟨g, og, hp, hg, hm⟩
    · have := ints_len (b :: st); rw [he] at this; simp at this
    · refine .inr ⟨g, og, hp, hg, fun i x hx => hm i x ?_⟩
      rw [ints_cons, List.getElem?_append_left (List.getElem?_eq_some_iff.1 hx).1]; exact hx
  have HR := hide hR2
  rcases hR.opn with he | ⟨g, og, rfl, hg, hm⟩
  · have := ints_len (b :: st); rw [he] at this; simp at this
  clear hR hR2 hm
  generalize hN : st.length = n at *
  go_enter Tryd.func29, Tryd.ntmps29
  go_wp2_with fail
  exact bodyPost_ret (v := .agg #[.slice po o.length co, .slice (some ⟨g, og, none⟩) n ci]) (by simp only [results, Tryd.results29]; go_simp) rfl ⟨rfl, HR.out.below (((Below.refl _ w).alloc (Nat.le_refl _) _).alloc (by simp) _), ((Below.refl _ w).alloc (Nat.le_refl _) _).alloc (by simp) _⟩
end Go.Proofs.YtnifnbndkbmdcaaDoor
