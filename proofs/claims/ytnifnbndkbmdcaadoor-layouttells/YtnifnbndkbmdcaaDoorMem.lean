/-
  BYTES IN MEMORY, and the library's calls that lex makes of them: bytes.HasPrefix at two signs, bytes.Cut at a byte 10, string(..) of bytes.
-/
import Derived.Test.YtnifnbndkbmdcaaDoorLeaf
import Derived.Test.YtnifnbndkbmdcaaDoorBase
import Derived.Test.YtnifnbndkbmdcaaDoorShelf
import Derived.Lib.SlBytesConst
import Derived.Laws.BytesArg
namespace Go.Proofs.YtnifnbndkbmdcaaDoor
open Go.RowKit
set_option linter.unusedVariables false

/-- The bytes l lie from p on. -/
def Mem (w : World) (p : Option Addr) (l : List UInt8) : Prop := l = [] ∨ ∃ b o, p = some ⟨b, o, none⟩ ∧ b < w.heap.size ∧ ∀ i x, l[i]? = some x → w.cell? ⟨b, o + i, none⟩ = some (.int .u8 x.toNat)
def nums (l : List UInt8) : List Int := l.map fun x => (x.toNat : Int)
theorem nums_len (l : List UInt8) : (nums l).length = l.length := by simp [nums]
theorem nums_bytes (l : List UInt8) : Lib.bytesOf (nums l) = l := by
  unfold Lib.bytesOf nums; rw [List.map_map]; conv => rhs; rw [← List.map_id l]
  apply List.map_congr_left; intro x _; simp
theorem nums_str (l : List UInt8) : strOfNums (nums l) = S l := by
  unfold strOfNums S; have := nums_bytes l; unfold Lib.bytesOf at this; rw [this]
theorem nums_getD (l : List UInt8) (i : Nat) (h : i < l.length) : (nums l).getD i 0 = (l[i].toNat : Int) := by
  simp [nums, h]
theorem Mem.nil (w : World) (p : Option Addr) : Mem w p [] := .inl rfl
theorem Mem.in {w : World} {p : Option Addr} {l : List UInt8} (h : Mem w p l) : Lib.BytesIn w p l.length (nums l) := by
  intro hn
  rcases h with rfl | ⟨b, o, hp, _, hc⟩
  · simp at hn
  · exact ⟨b, o, hp, fun i hi => by rw [nums_getD l i hi]; exact hc i _ (by simp [hi])⟩
theorem Mem.drop {w : World} {p : Option Addr} {l : List UInt8} (h : Mem w p l) (j c : Nat) (hc : l.length ≤ c) : Mem w (if c = j then p else p.map fun x => x.add j) (l.drop j) := by
  rcases h with rfl | ⟨b, o, rfl, hb, hm⟩
  · exact .inl (by simp)
  · by_cases hd : l.drop j = []
    · exact .inl hd
    · have hj : j < l.length := by
        apply Classical.byContradiction; intro hn
        exact hd (List.drop_eq_nil_of_le (by omega))
      rw [if_neg (by omega)]
      exact .inr ⟨b, o + j, by simp [Addr.add], hb, fun i x hx => by rw [Nat.add_assoc]; exact hm (j + i) x (by rw [← List.getElem?_drop]; exact hx)⟩
theorem Mem.take {w : World} {p : Option Addr} {l : List UInt8} (h : Mem w p l) (j : Nat) : Mem w p (l.take j) := by
  rcases h with rfl | ⟨b, o, hp, hb, hm⟩
  · exact .inl (by simp)
  · exact .inr ⟨b, o, hp, hb, fun i x hx => by
      rw [List.getElem?_take] at hx
      split at hx
      · exact hm i x hx
      · cases hx⟩
theorem Mem.below {w w' : World} {n : Nat} {p : Option Addr} {l : List UInt8} (h : Mem w p l) (hn : w.heap.size ≤ n) (hb : Below n w w') : Mem w' p l := by
  rcases h with rfl | ⟨b, o, hp, hbk, hm⟩
  · exact .inl rfl
  · exact .inr ⟨b, o, hp, Nat.lt_of_lt_of_le hbk hb.size, fun i x hx => (hb.cell (p := ⟨b, o + i, none⟩) (Nat.lt_of_lt_of_le hbk hn)).trans (hm i x hx)⟩
theorem Mem.alloc {w : World} {p : Option Addr} {l : List UInt8} (h : Mem w p l) (o : Obj) : Mem (w.alloc o) p l :=
  h.below (Nat.le_refl _) ((Below.refl _ w).alloc (Nat.le_refl _) o)
theorem Mem.str {w : World} {p : Option Addr} {l : List UInt8} (h : Mem w p l) (hl : l ≠ []) (c : Nat) : (convert 34 9 (.slice p l.length c)).run Tryd.prog w = .ok (.string (S l)) w := by
  rcases h with rfl | ⟨b, o, rfl, _, hm⟩
  · exact absurd rfl hl
  · have := run_convert_bytes_arg (P := Tryd.prog) w 34 5 Tryd.underlying34 Tryd.underlying5 b o l.length c (nums l) (nums_len l) (fun i hi => by rw [nums_getD l i hi]; exact hm i _ (by simp [hi])) 9 Tryd.underlying9
    rw [nums_str] at this
    exact this

theorem pre_two (l : List UInt8) : Lib.hasPrefix l [45, 45] = (l.take 2 == [45, 45]) := by
  unfold Lib.hasPrefix
  match l with
  | [] => rfl
  | [a] => simp [List.isPrefixOf]
  | a :: b :: r =>
    simp only [List.isPrefixOf, List.take_succ_cons, List.take_zero, List.cons_beq_cons]
    rw [Bool.beq_comm (a := (45 : UInt8)) (b := a), Bool.beq_comm (a := (45 : UInt8)) (b := b)]
    rfl
theorem hasPre (w : World) (p : Option Addr) (m d : Nat) (l : List UInt8) (hl : l.length = m) (hd : m ≤ d) (hm : Mem w p l) :
    Calls Tryd.prog 49 #[.slice p m d, .slice (some ⟨w.heap.size, 0, none⟩) 2 2] (w.alloc (.cells #[.int .u8 45, .int .u8 45] 5 (2, 3))) fun e w' =>
      e = .returned (.bool (l.take 2 == [45, 45])) ∧ w' = w.alloc (.cells #[.int .u8 45, .int .u8 45] 5 (2, 3)) := by
  have h2 : Lib.BytesIn (w.alloc (.cells #[.int .u8 45, .int .u8 45] 5 (2, 3))) (some ⟨w.heap.size, 0, none⟩) 2 [45, 45] := by
    intro _
    refine ⟨w.heap.size, 0, rfl, fun i hi => ?_⟩
    have : i = 0 ∨ i = 1 := by omega
    rcases this with rfl | rfl
    · rw [Nat.zero_add, World.cell?_alloc_mark]; rfl
    · rw [Nat.zero_add, World.cell?_alloc_mark]; rfl
  have h1 := (hm.alloc (.cells #[.int .u8 45, .int .u8 45] 5 (2, 3))).in
  rw [hl] at h1
  have h := Tryd.bytes_HasPrefix_all p (some ⟨w.heap.size, 0, none⟩) m d 2 2 (nums l) [45, 45] _ (by rw [nums_len, hl]) rfl hd h1 h2
  rw [nums_bytes, show Lib.bytesOf [45, 45] = [45, 45] from rfl, pre_two] at h
  exact h
end Go.Proofs.YtnifnbndkbmdcaaDoor
