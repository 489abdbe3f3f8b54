/-
  TYPES, as Lean's own data: how many parts, how deep, whether one may be, its holes, what is put in their places, its text. No program in it.
-/
import Derived.Lib.ItoaNum
namespace Go.Proofs.YteoflpalmckikaaDoor
set_option linter.unusedVariables false
set_option linter.unusedSimpArgs false

/-- A type: a name, a number, and what it is of. -/
structure Ty where
  nm : List UInt8
  n : Int
  ar : List Ty
theorem Ty.kid_lt (t : Ty) : ∀ k ∈ t.ar, SizeOf.sizeOf k < SizeOf.sizeOf t := by
  intro k hk
  cases t
  have := List.sizeOf_lt_of_mem hk
  simp at *
  omega
def Ty.fold {α : Type} (f : Ty → List (Ty × α) → α) (t : Ty) : α := f t (t.ar.attach.map fun k => (k.1, Ty.fold f k.1))
  termination_by SizeOf.sizeOf t
  decreasing_by exact Ty.kid_lt t k.1 k.2
theorem Ty.fold_eq {α : Type} (f : Ty → List (Ty × α) → α) (t : Ty) : t.fold f = f t (t.ar.map fun k => (k, k.fold f)) := by
  rw [Ty.fold]
  congr 1
  exact List.attach_map_val (f := fun k => (k, Ty.fold f k))
theorem Ty.ind {p : Ty → Prop} (h : ∀ t : Ty, (∀ k ∈ t.ar, p k) → p t) (t : Ty) : p t := by
  have H : ∀ n, ∀ t : Ty, SizeOf.sizeOf t ≤ n → p t := by
    intro n
    induction n with
    | zero => intro t ht; cases t; simp at ht
    | succ n ih => exact fun t ht => h t fun k hk => ih k (by have := t.kid_lt k hk; omega)
  exact H _ t (Nat.le_refl _)
/-- How many parts. -/
def tsz (t : Ty) : Nat := t.fold fun t l => 1 + (l.map fun k => k.2).sum
theorem tsz_eq (t : Ty) : tsz t = 1 + (t.ar.map tsz).sum := by
  unfold tsz
  rw [Ty.fold_eq]
  simp only [List.map_map]
  rfl
/-- How deep. -/
def tdp (t : Ty) : Nat := t.fold fun t l => 1 + (l.foldl (fun n k => max n k.2) 0)
theorem tdp_eq (t : Ty) : tdp t = 1 + t.ar.foldl (fun n k => max n (tdp k)) 0 := by
  unfold tdp
  rw [Ty.fold_eq, List.foldl_map]
theorem tsz_pos (t : Ty) : 1 ≤ tsz t := by rw [tsz_eq]; omega
theorem tdp_pos (t : Ty) : 1 ≤ tdp t := by rw [tdp_eq]; omega
theorem fm_le {α : Type} (f : α → Nat) (l : List α) (a d : Nat) : l.foldl (fun n k => max n (f k)) a ≤ d ↔ a ≤ d ∧ ∀ k ∈ l, f k ≤ d := by
  induction l generalizing a with
  | nil => simp
  | cons x r ih =>
    rw [List.foldl_cons, ih]
    simp only [List.mem_cons, forall_eq_or_imp]
    constructor
    · rintro ⟨h1, h2⟩; exact ⟨by omega, by omega, h2⟩
    · rintro ⟨h1, h2, h3⟩; exact ⟨by omega, h3⟩
theorem tdp_le (t : Ty) (d : Nat) : tdp t ≤ d + 1 ↔ ∀ k ∈ t.ar, tdp k ≤ d := by
  rw [tdp_eq]
  have := fm_le tdp t.ar 0 d
  constructor
  · intro h; exact (this.1 (by omega)).2
  · intro h; have := this.2 ⟨Nat.zero_le _, h⟩; omega
theorem tdp_kid {t k : Ty} (h : k ∈ t.ar) : tdp k + 1 ≤ tdp t := by
  have h1 : tdp t = (tdp t - 1) + 1 := by have := tdp_pos t; omega
  have := (tdp_le t (tdp t - 1)).1 (by omega) k h
  omega
/-- Does each part do it? -/
def allT (p : Ty → Bool) (t : Ty) : Bool := t.fold fun t l => p t && l.all fun k => k.2
theorem allT_eq (p : Ty → Bool) (t : Ty) : allT p t = (p t && t.ar.all (allT p)) := by
  unfold allT
  rw [Ty.fold_eq]
  simp only [List.all_map]
  rfl
/-- A hole, or one with a name, by itself. -/
def ok1 (t : Ty) : Bool := if t.nm.isEmpty then decide (0 ≤ t.n) && t.ar.isEmpty else decide (t.nm.length ≤ 20) && decide (t.n = 0)
def chk (t : Ty) : Bool := allT ok1 t && decide (tdp t ≤ 60) && decide (tsz t ≤ 2000)
theorem chk_iff (t : Ty) : chk t = true ↔ allT ok1 t = true ∧ tdp t ≤ 60 ∧ tsz t ≤ 2000 := by
  unfold chk
  simp [Bool.and_eq_true, and_assoc]
def hole (n : Int) : Ty := ⟨[], n, []⟩
/-- What is in the holes' places. -/
def sub (s : Int → Ty) (t : Ty) : Ty := t.fold fun t l => if t.nm.isEmpty then s t.n else ⟨t.nm, 0, l.map fun k => k.2⟩
theorem sub_eq (s : Int → Ty) (t : Ty) : sub s t = if t.nm.isEmpty then s t.n else ⟨t.nm, 0, t.ar.map (sub s)⟩ := by
  unfold sub
  rw [Ty.fold_eq]
  simp only [List.map_map]
  rfl
theorem sub_hole (s : Int → Ty) (n : Int) : sub s (hole n) = s n := by rw [sub_eq]; rfl
theorem sub_node (s : Int → Ty) (t : Ty) (h : t.nm.isEmpty = false) : sub s t = ⟨t.nm, 0, t.ar.map (sub s)⟩ := by rw [sub_eq, h]; rfl
theorem sub_at (s : Int → Ty) (t : Ty) (h : t.nm.isEmpty = true) : sub s t = s t.n := by rw [sub_eq, h]; rfl
theorem sub_sub (s r : Int → Ty) (t : Ty) : sub r (sub s t) = sub (fun n => sub r (s n)) t := by
  induction t using Ty.ind with
  | _ t ih =>
    cases h : t.nm.isEmpty
    · rw [sub_node _ _ h, sub_node _ _ h, sub_node _ _ (by exact h)]
      simp only [List.map_map]
      congr 1
      exact List.map_congr_left fun k hk => ih k hk
    · rw [sub_at _ _ h, sub_at _ _ h]
/-- All its holes, from the left. -/
def hls (t : Ty) : List Int := t.fold fun t l => if t.nm.isEmpty then [t.n] else l.flatMap fun k => k.2
theorem hls_eq (t : Ty) : hls t = if t.nm.isEmpty then [t.n] else t.ar.flatMap hls := by
  unfold hls
  rw [Ty.fold_eq]
  simp only [List.flatMap_map]
theorem hls_node (t : Ty) (h : t.nm.isEmpty = false) : hls t = t.ar.flatMap hls := by rw [hls_eq, h]; rfl
theorem hls_at (t : Ty) (h : t.nm.isEmpty = true) : hls t = [t.n] := by rw [hls_eq, h]; rfl
theorem hls_hole (n : Int) : hls (hole n) = [n] := hls_at _ rfl
theorem sub_congr {s r : Int → Ty} (t : Ty) : (∀ n ∈ hls t, s n = r n) → sub s t = sub r t := by
  induction t using Ty.ind with
  | _ t ih =>
    intro hs
    cases h : t.nm.isEmpty
    · rw [sub_node _ _ h, sub_node _ _ h]
      congr 1
      refine List.map_congr_left fun k hk => ih k hk fun n hn => hs n ?_
      rw [hls_node _ h]
      exact List.mem_flatMap.2 ⟨k, hk, hn⟩
    · rw [sub_at _ _ h, sub_at _ _ h]
      exact hs _ (by rw [hls_at _ h]; simp)
theorem sub_inj {s r : Int → Ty} (t : Ty) : sub s t = sub r t → ∀ n ∈ hls t, s n = r n := by
  induction t using Ty.ind with
  | _ t ih =>
    intro hs n hn
    cases h : t.nm.isEmpty
    · rw [sub_node _ _ h, sub_node _ _ h] at hs
      simp only [Ty.mk.injEq, true_and] at hs
      rw [hls_node _ h] at hn
      obtain ⟨k, hk, hn⟩ := List.mem_flatMap.1 hn
      exact ih k hk (List.map_inj_left.1 hs k hk) n hn
    · rw [sub_at _ _ h, sub_at _ _ h] at hs
      rw [hls_at _ h] at hn
      simp at hn
      subst hn
      exact hs
theorem fm_congr {α β : Type} {f g : α → List β} {l : List α} (h : ∀ x ∈ l, f x = g x) : l.flatMap f = l.flatMap g := by
  rw [List.flatMap_def, List.flatMap_def, List.map_congr_left h]
theorem hls_sub (s : Int → Ty) (t : Ty) : hls (sub s t) = (hls t).flatMap fun n => hls (s n) := by
  induction t using Ty.ind with
  | _ t ih =>
    cases h : t.nm.isEmpty
    · rw [sub_node _ _ h, hls_node _ (by exact h), hls_node _ h]
      simp only [List.flatMap_map, List.flatMap_assoc]
      exact fm_congr fun k hk => ih k hk
    · rw [sub_at _ _ h, hls_at _ h]; simp
theorem ok1_hole (t : Ty) (ho : ok1 t = true) (h : t.nm.isEmpty = true) : 0 ≤ t.n ∧ t.ar = [] ∧ t = hole t.n := by
  unfold ok1 at ho
  rw [h] at ho
  simp at ho
  refine ⟨ho.1, ho.2, ?_⟩
  cases t
  simp at h ho
  simp [hole, h, ho.2]
theorem ok1_node (t : Ty) (ho : ok1 t = true) (h : t.nm.isEmpty = false) : t.nm.length ≤ 20 ∧ t.n = 0 := by
  unfold ok1 at ho
  rw [h] at ho
  simpa using ho
theorem allT_kid {p : Ty → Bool} {t : Ty} (h : allT p t = true) : p t = true ∧ ∀ k ∈ t.ar, allT p k = true := by
  rw [allT_eq] at h
  simpa using h
theorem sub_id (t : Ty) : allT ok1 t = true → sub hole t = t := by
  induction t using Ty.ind with
  | _ t ih =>
    intro ho
    obtain ⟨h1, h2⟩ := allT_kid ho
    cases h : t.nm.isEmpty
    · rw [sub_node _ _ h]
      obtain ⟨_, hn⟩ := ok1_node t h1 h
      have e : t.ar.map (sub hole) = t.ar := by
        conv => rhs; rw [← List.map_id t.ar]
        exact List.map_congr_left fun k hk => ih k hk (h2 k hk)
      rw [e]
      cases t
      simp at hn ⊢
      exact hn.symm
    · rw [sub_at _ _ h]
      exact (ok1_hole t h1 h).2.2.symm
theorem sub_ok {s : Int → Ty} (t : Ty) : allT ok1 t = true → (∀ n ∈ hls t, allT ok1 (s n) = true) → allT ok1 (sub s t) = true := by
  induction t using Ty.ind with
  | _ t ih =>
    intro ho hs
    obtain ⟨h1, h2⟩ := allT_kid ho
    cases h : t.nm.isEmpty
    · rw [sub_node _ _ h, allT_eq]
      obtain ⟨hl, hn⟩ := ok1_node t h1 h
      have e : ok1 ⟨t.nm, 0, t.ar.map (sub s)⟩ = true := by
        unfold ok1
        simp [h, hl]
      rw [e]
      simp only [Bool.true_and, List.all_map, List.all_eq_true]
      intro k hk
      exact ih k hk (h2 k hk) fun n hn => hs n (by rw [hls_node _ h]; exact List.mem_flatMap.2 ⟨k, hk, hn⟩)
    · rw [sub_at _ _ h]
      exact hs _ (by rw [hls_at _ h]; simp)
theorem hls_pos (t : Ty) : allT ok1 t = true → ∀ n ∈ hls t, 0 ≤ n := by
  induction t using Ty.ind with
  | _ t ih =>
    intro ho n hn
    obtain ⟨h1, h2⟩ := allT_kid ho
    cases h : t.nm.isEmpty
    · rw [hls_node _ h] at hn
      obtain ⟨k, hk, hn⟩ := List.mem_flatMap.1 hn
      exact ih k hk (h2 k hk) n hn
    · rw [hls_at _ h] at hn
      simp at hn
      subst hn
      exact (ok1_hole t h1 h).1
theorem sum_le_sum {α : Type} {f g : α → Nat} (l : List α) (h : ∀ x ∈ l, f x ≤ g x) : (l.map f).sum ≤ (l.map g).sum := by
  induction l with
  | nil => simp
  | cons a r ih =>
    simp only [List.map_cons, List.sum_cons]
    have h1 := h a (by simp)
    have h2 := ih fun x hx => h x (by simp [hx])
    omega
/-- What is put makes nothing less. -/
theorem sub_sz {s : Int → Ty} (t : Ty) : allT ok1 t = true → tsz t ≤ tsz (sub s t) := by
  induction t using Ty.ind with
  | _ t ih =>
    intro ho
    obtain ⟨h1, h2⟩ := allT_kid ho
    cases h : t.nm.isEmpty
    · rw [sub_node _ _ h, tsz_eq, tsz_eq]
      simp only [List.map_map]
      have := sum_le_sum (f := tsz) (g := tsz ∘ sub s) t.ar fun k hk => ih k hk (h2 k hk)
      omega
    · rw [tsz_eq, (ok1_hole t h1 h).2.1]
      have := tsz_pos (sub s t)
      simpa using this
theorem sub_dp {s : Int → Ty} (t : Ty) : allT ok1 t = true → tdp t ≤ tdp (sub s t) := by
  induction t using Ty.ind with
  | _ t ih =>
    intro ho
    obtain ⟨h1, h2⟩ := allT_kid ho
    cases h : t.nm.isEmpty
    · rw [sub_node _ _ h]
      have e : ∀ d, tdp (⟨t.nm, 0, t.ar.map (sub s)⟩ : Ty) ≤ d + 1 → tdp t ≤ d + 1 := by
        intro d hd
        rw [tdp_le] at hd ⊢
        intro k hk
        exact Nat.le_trans (ih k hk (h2 k hk)) (hd _ (List.mem_map.2 ⟨k, hk, rfl⟩))
      have hp := tdp_pos (⟨t.nm, 0, t.ar.map (sub s)⟩ : Ty)
      have := e (tdp (⟨t.nm, 0, t.ar.map (sub s)⟩ : Ty) - 1) (by omega)
      omega
    · rw [tdp_eq, (ok1_hole t h1 h).2.1]
      have := tdp_pos (sub s t)
      simpa using this
/-- A number, if it is not there. -/
def addI (l : List Int) (n : Int) : List Int := if n ∈ l then l else l ++ [n]
/-- Holes, each once, by their first place, behind others. -/
def hsA (l : List Int) (t : Ty) : List Int := (hls t).foldl addI l
def hs (t : Ty) : List Int := hsA [] t
theorem hsA_node (l : List Int) (t : Ty) (h : t.nm.isEmpty = false) : hsA l t = t.ar.foldl hsA l := by
  unfold hsA
  rw [hls_node _ h]
  generalize t.ar = r
  induction r generalizing l with
  | nil => rfl
  | cons a r ih => simp only [List.flatMap_cons, List.foldl_append, List.foldl_cons]; rw [ih]
theorem hsA_at (l : List Int) (t : Ty) (h : t.nm.isEmpty = true) : hsA l t = addI l t.n := by
  unfold hsA
  rw [hls_at _ h]
  rfl
theorem addI_mem (l : List Int) (n m : Int) : m ∈ addI l n ↔ m ∈ l ∨ m = n := by
  unfold addI
  split
  · rename_i h
    constructor
    · exact .inl
    · rintro (h1 | rfl)
      · exact h1
      · exact h
  · simp
theorem foldl_mem (r l : List Int) (m : Int) : m ∈ r.foldl addI l ↔ m ∈ l ∨ m ∈ r := by
  induction r generalizing l with
  | nil => simp
  | cons a r ih => rw [List.foldl_cons, ih, addI_mem]; simp [or_assoc]
theorem hs_mem (t : Ty) (m : Int) : m ∈ hs t ↔ m ∈ hls t := by
  unfold hs hsA
  rw [foldl_mem]; simp
theorem addI_nodup {l : List Int} (h : l.Nodup) (n : Int) : (addI l n).Nodup := by
  unfold addI
  split
  · exact h
  · rename_i hn
    rw [List.nodup_append]
    refine ⟨h, by simp, fun a ha b hb e => ?_⟩
    simp at hb
    subst hb; subst e
    exact hn ha
theorem foldl_nodup (r : List Int) {l : List Int} (h : l.Nodup) : (r.foldl addI l).Nodup := by
  induction r generalizing l with
  | nil => exact h
  | cons a r ih => exact ih (addI_nodup h a)
theorem hs_nodup (t : Ty) : (hs t).Nodup := foldl_nodup _ List.nodup_nil
theorem addI_len (l : List Int) (n : Int) : l.length ≤ (addI l n).length ∧ (addI l n).length ≤ l.length + 1 := by
  unfold addI
  split <;> simp
theorem hls_len (t : Ty) : (hls t).length ≤ tsz t := by
  induction t using Ty.ind with
  | _ t ih =>
    rw [tsz_eq]
    cases h : t.nm.isEmpty
    · rw [hls_node _ h, List.length_flatMap]
      have := sum_le_sum (f := fun k => (hls k).length) (g := tsz) t.ar ih
      omega
    · rw [hls_at _ h]; simp
theorem foldl_len (r l : List Int) : (r.foldl addI l).length ≤ l.length + r.length := by
  induction r generalizing l with
  | nil => simp
  | cons a r ih =>
    rw [List.foldl_cons]
    have h1 := ih (addI l a)
    have h2 := addI_len l a
    simp only [List.length_cons]
    omega
theorem hs_len (t : Ty) : (hs t).length ≤ tsz t := by
  have h1 := foldl_len (hls t) []
  have h2 := hls_len t
  unfold hs hsA
  simp at h1
  omega
/-- The first place of a number. -/
def plc (l : List Int) (n : Int) : Int := (l.idxOf n : Nat)
def canon (t : Ty) : Ty := sub (fun n => hole (plc (hs t) n)) t
/-- What the first fact of a hole says. -/
def look (l : List (Int × Ty)) (n : Int) : Ty := match l.find? (fun f => f.1 == n) with | some f => f.2 | none => hole n
/-- P8.2. -/
def applyM (l : List (Int × Ty)) (t : Ty) : Ty := if chk t && l.all (fun f => decide (0 ≤ f.1) && chk f.2) then sub (look l) t else ⟨[], 0, []⟩
/-- A text. -/
def atomW (k : Ty × List UInt8) : List UInt8 := if k.1.ar.isEmpty then k.2 else 40 :: (k.2 ++ [41])
def txF (t : Ty) (l : List (Ty × List UInt8)) : List UInt8 :=
  if t.nm.isEmpty then (if t.n < 26 then [UInt8.ofNat (97 + t.n.toNat)] else 116 :: Lib.itoa t.n)
  else if t.nm = [45, 62] ∧ l.length = 2 then atomW (l.getD 0 (t, [])) ++ ([32, 45, 62, 32] ++ atomW (l.getD 1 (t, [])))
  else t.nm ++ l.flatMap fun k => 32 :: atomW k
def txT (t : Ty) : List UInt8 := t.fold txF
theorem txT_eq (t : Ty) : txT t = txF t (t.ar.map fun k => (k, txT k)) := Ty.fold_eq _ t
def atT (t : Ty) : List UInt8 := if t.ar.isEmpty then txT t else 40 :: (txT t ++ [41])
theorem txT_let (t : Ty) (h : t.nm.isEmpty = true) (h2 : t.n < 26) : txT t = [UInt8.ofNat (97 + t.n.toNat)] := by rw [txT_eq, txF, if_pos h, if_pos h2]
theorem txT_num (t : Ty) (h : t.nm.isEmpty = true) (h2 : ¬ t.n < 26) : txT t = 116 :: Lib.itoa t.n := by rw [txT_eq, txF, if_pos h, if_neg h2]
theorem txT_fun (t : Ty) (h : t.nm = [45, 62]) (a b : Ty) (h2 : t.ar = [a, b]) : txT t = atT a ++ ([32, 45, 62, 32] ++ atT b) := by
  rw [txT_eq, txF, if_neg (by rw [h]; simp), if_pos ⟨h, by rw [h2]; rfl⟩, h2]
  rfl
theorem txT_app (t : Ty) (h : t.nm.isEmpty = false) (h2 : ¬ (t.nm = [45, 62] ∧ t.ar.length = 2)) : txT t = t.nm ++ t.ar.flatMap fun k => 32 :: atT k := by
  rw [txT_eq, txF, if_neg (by rw [h]; simp), if_neg (by rw [List.length_map]; exact h2), List.flatMap_map]
  rfl
/-- Two types, part by part. -/
theorem Ty.ext_iff' (a b : Ty) : a = b ↔ a.nm = b.nm ∧ a.n = b.n ∧ a.ar = b.ar := by cases a; cases b; simp
end Go.Proofs.YteoflpalmckikaaDoor
