/-
  WHERE A TEXT's TOKENS ARE: bounds on lines and columns. Plain lists.
-/
import Derived.Test.YtnajffpllhckkaaDoorMath3
namespace Go.Proofs.YtnajffpllhckkaaDoor

def inB (n m : Int) (a b : Nat) (e : Int × Int) : Prop := n ≤ e.1 ∧ e.1 ≤ m ∧ (a : Int) < e.2 ∧ e.2 ≤ (b : Int)
theorem rawL_bd (n : Int) : ∀ (f a : Nat) (l : List UInt8), (∀ t ∈ (rawL n f a l).1, inB n n a (a + l.length) (pl t)) ∧ (∀ e, (rawL n f a l).2 = some e → inB n n a (a + l.length) e)
  | 0, a, l => ⟨fun t h => by simp [rawL] at h, fun e h => by simp [rawL] at h⟩
  | f + 1, a, l => by
    unfold rawL
    have hk := sk_le l
    cases hs : sk l with
    | nil => exact ⟨fun t h => by simp at h, fun e h => by simp at h⟩
    | cons c r =>
      rw [hs] at hk
      simp only [List.length_cons] at hk
      simp only
      have hp := tl_pos c r
      have hl := tl_le (c :: r)
      simp only [List.length_cons] at hl
      cases tk ((c :: r).take (tl (c :: r))) with
      | none =>
        refine ⟨fun t h => by simp at h, fun e h => ?_⟩
        simp only [Option.some.injEq] at h
        subst h
        exact ⟨Int.le_refl _, Int.le_refl _, by show (a : Int) < _; omega, by show _ ≤ ((a + l.length : Nat) : Int); omega⟩
      | some x =>
        have ih := rawL_bd n f (a + (l.length - (r.length + 1)) + tl (c :: r)) ((c :: r).drop (tl (c :: r)))
        have hd : ((c :: r).drop (tl (c :: r))).length = r.length + 1 - tl (c :: r) := by simp
        rw [hd] at ih
        have mono : ∀ e, inB n n (a + (l.length - (r.length + 1)) + tl (c :: r)) (a + (l.length - (r.length + 1)) + tl (c :: r) + (r.length + 1 - tl (c :: r))) e → inB n n a (a + l.length) e := fun e ⟨h1, h2, h3, h4⟩ => ⟨h1, h2, by omega, by omega⟩
        refine ⟨fun t h => ?_, fun e h => mono e (ih.2 e h)⟩
        simp only [List.mem_cons] at h
        rcases h with rfl | h
        · exact ⟨Int.le_refl _, Int.le_refl _, by show (a : Int) < ((a + (l.length - (r.length + 1)) : Nat) : Int) + 1; omega, by show ((a + (l.length - (r.length + 1)) : Nat) : Int) + 1 ≤ ((a + l.length : Nat) : Int); omega⟩
        · exact mono _ (ih.1 t h)
theorem raw_bd (n : Int) (l : List UInt8) : (∀ t ∈ (raw n 0 l).1, inB n n 0 l.length (pl t)) ∧ (∀ e, (raw n 0 l).2 = some e → inB n n 0 l.length e) := by
  have := rawL_bd n l.length 0 l
  rw [Nat.zero_add] at this
  exact this
theorem rawLs_bd (M : Nat) : ∀ (n : Int) (L : List (List UInt8)), (∀ x ∈ L, x.length ≤ M) → (∀ t ∈ (rawLs (num n L)).1, inB n (n + L.length) 0 M (pl t)) ∧ (∀ e, (rawLs (num n L)).2 = some e → inB n (n + L.length) 0 M e)
  | n, [], _ => ⟨fun t h => by simp [rawLs, num] at h, fun e h => by simp [rawLs, num] at h⟩
  | n, h :: t, hM => by
    have ih := rawLs_bd M (n + 1) t (fun x hx => hM x (List.mem_cons_of_mem _ hx))
    have hb := raw_bd n h
    have hh := hM h (List.mem_cons_self ..)
    simp only [num, rawLs, List.length_cons]
    have m1 : ∀ e, inB n n 0 h.length e → inB n (n + ((t.length + 1 : Nat) : Int)) 0 M e := fun e ⟨h1, h2, h3, h4⟩ => ⟨h1, by omega, h3, by omega⟩
    have m2 : ∀ e, inB (n + 1) (n + 1 + t.length) 0 M e → inB n (n + ((t.length + 1 : Nat) : Int)) 0 M e := fun e ⟨h1, h2, h3, h4⟩ => ⟨by omega, by omega, h3, h4⟩
    cases hr : (raw n 0 h).2 with
    | some e' => exact ⟨fun t ht => m1 _ (hb.1 t ht), fun e he => by simp only [Option.some.injEq] at he; subst he; exact m1 _ (hb.2 _ hr)⟩
    | none =>
      refine ⟨fun u hu => ?_, fun e he => m2 _ (ih.2 e he)⟩
      simp only [List.mem_append] at hu
      rcases hu with hu | hu
      · exact m1 _ (hb.1 u hu)
      · exact m2 _ (ih.1 u hu)
theorem spl_mem : ∀ (l : List UInt8), ∀ x ∈ spl l, x.length ≤ l.length
  | [], x, hx => by simp [spl] at hx; simp [hx]
  | c :: r, x, hx => by
    have ih := spl_mem r
    simp only [spl] at hx
    split at hx
    · simp only [List.mem_cons] at hx
      rcases hx with rfl | hx
      · simp
      · have := ih x hx; simp; omega
    · cases h : spl r with
      | nil => exact absurd h (spl_ne r)
      | cons h' t =>
        rw [h] at hx ih
        simp only [List.mem_cons] at hx
        rcases hx with rfl | hx
        · have := ih h' (List.mem_cons_self ..); simp; omega
        · have := ih x (List.mem_cons_of_mem _ hx); simp; omega
/-- Where a text's tokens are. -/
theorem lexM_bd (l : List UInt8) : (∀ t ∈ (lexM l).1, inB 1 (l.length + 2) 0 l.length (pl t)) ∧ (∀ e, (lexM l).2 = some e → inB 1 (l.length + 2) 0 l.length e) := by
  have hb := rawLs_bd l.length 1 (spl l) (spl_mem l)
  have hc : l.count 10 ≤ l.length := List.count_le_length
  have hn := spl_len l
  have mono : ∀ e, inB 1 (1 + (spl l).length) 0 l.length e → inB 1 (l.length + 2) 0 l.length e := fun e ⟨h1, h2, h3, h4⟩ => ⟨h1, by omega, h3, h4⟩
  unfold lexM cap
  cases h1 : (rawLs (num 1 (spl l))).1[2000]? with
  | some t => exact ⟨fun t h => by simp at h, fun e h => by simp only [Option.some.injEq] at h; subst h; exact mono _ (hb.1 t (List.mem_of_getElem? h1))⟩
  | none =>
    cases h2 : (rawLs (num 1 (spl l))).2 with
    | some e' => exact ⟨fun t h => by simp at h, fun e h => by simp only [Option.some.injEq] at h; subst h; exact mono _ (hb.2 _ h2)⟩
    | none => exact ⟨fun t h => mono _ (hb.1 t h), fun e h => by simp at h⟩
end Go.Proofs.YtnajffpllhckkaaDoor
