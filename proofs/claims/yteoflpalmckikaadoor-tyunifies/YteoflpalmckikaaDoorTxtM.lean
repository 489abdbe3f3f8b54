/-
  TEXTS OF TYPES: their sizes; a string's row; the table that strconv.Itoa reads.
-/
import Derived.Test.YteoflpalmckikaaDoorApplyP
import Derived.Test.YteoflpalmckikaaDoorShelf
import Derived.Lib.ItoaLen
import Derived.Lib.Join
namespace Go.Proofs.YteoflpalmckikaaDoor
open Go.RowKit
set_option linter.unusedVariables false
set_option linter.unusedSimpArgs false
theorem S_add (a b : List UInt8) : S a ++ S b = S (a ++ b) := by
  apply ByteArray.ext
  rw [ByteArray.data_append]
  simp [S]
theorem info9 : (Tryd.prog.info? 9).map (fun i => (i.zero, i.size, i.bytes)) = some (some (.string ⟨#[]⟩), 1, 16) := by kernel_rfl
/-- The table that strconv.Itoa reads. -/
def GT (w : World) : Prop := Lib.TabIs Tryd.prog w "internal/strconv.uint64pow10" .u64 Lib.pow10Tab
theorem GT.below {w w' : World} (h : GT w) (k : Below w.heap.size w w') : GT w' := by
  unfold GT Lib.TabIs World.var? at h ⊢
  cases hg : Tryd.prog.globalNamed "internal/strconv.uint64pow10" with
  | none => rw [hg] at h; cases h
  | some g =>
    rw [hg] at h
    simp only [Option.bind_some] at h ⊢
    have hl : g < w.heap.size := by
      cases hc : w.heap[g]? with
      | none => rw [hc] at h; simp at h
      | some o => exact (Array.getElem?_eq_some_iff.1 hc).1
    rw [k.block g hl]
    exact h
theorem below_grow (w : World) (k : Nat) (os : Array Obj) : Below w.heap.size w (Sort.grow (w.drewN k) os) := by
  refine ⟨rfl, rfl, rfl, by simp [Sort.grow, World.drewN], fun b hb => ?_⟩
  show (w.heap ++ os)[b]? = _
  rw [Array.getElem?_append_left hb]
theorem itoa_any (n : Int) (h0 : -9223372036854775808 ≤ n) (h1 : n ≤ 9223372036854775807) {w : World} (hg : GT w) : Calls Tryd.prog 55 #[.int .i64 n] w fun e w' => e = .returned (.string (S (Lib.itoa n))) ∧ Below w.heap.size w w' := by
  refine (Tryd.strconv_Itoa n h0 h1 w hg).mono ?_
  rintro e w' ⟨rfl, k, os, rfl⟩
  exact ⟨rfl, below_grow w k os⟩
theorem flat_le2 {f : Ty → List UInt8} {l : List Ty} (h : ∀ k ∈ l, (f k).length + 1 ≤ 32 * tsz k) : (l.flatMap fun k => 32 :: f k).length ≤ 32 * (l.map tsz).sum := by
  induction l with
  | nil => simp
  | cons k r ih =>
    rw [List.flatMap_cons, List.length_append, List.map_cons, List.sum_cons, List.length_cons]
    have h1 := h k List.mem_cons_self
    have h2 := ih fun q hq => h q (List.mem_cons_of_mem _ hq)
    omega
theorem atT_len {t : Ty} : (atT t).length ≤ (txT t).length + 2 := by
  unfold atT
  split
  · omega
  · simp
/-- Sizes of texts. -/
theorem txT_len {P : Nat → Prop} {w : World} (t : Ty) : ∀ {cs}, TyIn P w t cs → allT ok1 t = true → (txT t).length + 3 ≤ 32 * tsz t := by
  induction t using Ty.ind with
  | _ t ih =>
    intro cs h ho
    obtain ⟨pk, ck, _, _, hn, _, hm⟩ := (TyIn_iff _ _ _ _).1 h
    obtain ⟨ho1, hok⟩ := allT_kid ho
    have hk : ∀ k ∈ t.ar, (atT k).length + 1 ≤ 32 * tsz k := fun k hk => by
      rcases hm with hm | ⟨b, o, _, _, hm⟩
      · rw [hm] at hk; cases hk
      · obtain ⟨i, hi, rfl⟩ := List.getElem_of_mem hk
        obtain ⟨ds, _, _, h3⟩ := hm i t.ar[i] (List.getElem?_eq_getElem hi)
        have := ih _ hk h3 (hok _ hk)
        have := atT_len (t := t.ar[i])
        omega
    have hsz := tsz_eq t
    by_cases hn' : t.nm.isEmpty = true
    · by_cases h26 : t.n < 26
      · rw [txT_let t hn' h26, hsz]
        simp only [List.length_singleton]
        omega
      · rw [txT_num t hn' h26, hsz, List.length_cons]
        have := Lib.itoa_length_le t.n hn.1 hn.2
        omega
    · have hne : t.nm.isEmpty = false := by simpa using hn'
      obtain ⟨hl20, _⟩ := ok1_node t ho1 hne
      by_cases hf : t.nm = [45, 62] ∧ t.ar.length = 2
      · obtain ⟨hf1, hf2⟩ := hf
        obtain ⟨a, b, hab⟩ : ∃ a b, t.ar = [a, b] := by
          match ht : t.ar with
          | [a, b] => exact ⟨a, b, rfl⟩
          | [] => rw [ht] at hf2; cases hf2
          | [_] => rw [ht] at hf2; cases hf2
          | _ :: _ :: _ :: _ => rw [ht] at hf2; simp at hf2
        rw [txT_fun t hf1 a b hab, hsz, hab]
        have h1 := hk a (by rw [hab]; simp)
        have h2 := hk b (by rw [hab]; simp)
        simp only [List.length_append, List.map_cons, List.map_nil, List.sum_cons, List.sum_nil, List.length_cons, List.length_nil]
        omega
      · rw [txT_app t hne hf, hsz, List.length_append]
        have := flat_le2 (f := atT) hk
        omega
theorem join_sp (x : List UInt8) (l : List (List UInt8)) : Lib.join (x :: l) [32] = x ++ l.flatMap fun y => 32 :: y := by
  rw [Lib.join_cons]
  unfold Lib.joinTail
  rw [List.flatMap_def]
  rfl
end Go.Proofs.YteoflpalmckikaaDoor
