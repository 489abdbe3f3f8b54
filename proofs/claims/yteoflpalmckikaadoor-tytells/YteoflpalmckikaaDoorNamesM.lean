/-
  WHAT A TYPE, ITS HOLES NAMED BY FIRST PLACES, IS: its holes are 0, 1, and so on; it does not hang on the holes' numbers. No program in it.
-/
import Derived.Test.YteoflpalmckikaaDoorLawM
namespace Go.Proofs.YteoflpalmckikaaDoor
set_option linter.unusedVariables false
set_option linter.unusedSimpArgs false
/-- A type with other numbers for its holes. -/
def ren (φ : Int → Int) (t : Ty) : Ty := sub (fun n => hole (φ n)) t
theorem ren_hls (φ : Int → Int) (t : Ty) : hls (ren φ t) = (hls t).map φ := by
  unfold ren
  rw [hls_sub]
  induction hls t with
  | nil => rfl
  | cons a r ih => rw [List.flatMap_cons, ih, hls_hole]; rfl
theorem addI_map (φ : Int → Int) (l : List Int) (n : Int) (h : ∀ m ∈ l, φ m = φ n → m = n) : addI (l.map φ) (φ n) = (addI l n).map φ := by
  unfold addI
  by_cases hn : n ∈ l
  · rw [if_pos hn, if_pos (List.mem_map_of_mem hn)]
  · rw [if_neg hn, if_neg ?_]
    · simp
    · intro hm
      obtain ⟨m, h1, h2⟩ := List.mem_map.1 hm
      exact hn (h m h1 h2 ▸ h1)
theorem foldl_map_addI (φ : Int → Int) (r : List Int) : ∀ l : List Int, (∀ m n, (m ∈ l ∨ m ∈ r) → (n ∈ l ∨ n ∈ r) → φ m = φ n → m = n) → (r.map φ).foldl addI (l.map φ) = (r.foldl addI l).map φ := by
  induction r with
  | nil => intro l _; rfl
  | cons a r ih =>
    intro l h
    rw [List.map_cons, List.foldl_cons, List.foldl_cons, addI_map φ l a fun m hm e => h m a (.inl hm) (.inr (by simp)) e]
    refine ih _ fun m n hm hn e => h m n ?_ ?_ e
    · rw [addI_mem] at hm
      rcases hm with (hm | rfl) | hm
      · exact .inl hm
      · exact .inr (by simp)
      · exact .inr (by simp [hm])
    · rw [addI_mem] at hn
      rcases hn with (hn | rfl) | hn
      · exact .inl hn
      · exact .inr (by simp)
      · exact .inr (by simp [hn])
def InjOn (φ : Int → Int) (l : List Int) : Prop := ∀ m n, m ∈ l → n ∈ l → φ m = φ n → m = n
theorem ren_hs (φ : Int → Int) (t : Ty) (h : InjOn φ (hls t)) : hs (ren φ t) = (hs t).map φ := by
  unfold hs hsA
  rw [ren_hls]
  exact foldl_map_addI φ _ [] fun m n hm hn e => h m n (by simpa using hm) (by simpa using hn) e
theorem plc_at {l : List Int} (hl : l.Nodup) {i : Nat} (hi : i < l.length) : plc l l[i] = i := by
  unfold plc
  rw [List.Nodup.idxOf_getElem hl i hi]
theorem plc_get {l : List Int} {n : Int} (hn : n ∈ l) : ∃ i, ∃ h : i < l.length, l[i] = n ∧ plc l n = i := by
  have h := List.idxOf_lt_length_of_mem hn
  exact ⟨l.idxOf n, h, List.getElem_idxOf h, rfl⟩
theorem plc_inj {l : List Int} {m n : Int} (hm : m ∈ l) (hn : n ∈ l) (h : plc l m = plc l n) : m = n := by
  obtain ⟨i, h1, h2, h3⟩ := plc_get hm
  obtain ⟨j, k1, k2, k3⟩ := plc_get hn
  have e : i = j := by omega
  subst e
  rw [← h2, ← k2]
theorem plc_map (φ : Int → Int) (l : List Int) : ∀ n, n ∈ l → (∀ m ∈ l, φ m = φ n → m = n) → plc (l.map φ) (φ n) = plc l n := by
  unfold plc
  induction l with
  | nil => intro n hn; cases hn
  | cons a r ih =>
    intro n hn h
    rw [List.map_cons, List.idxOf_cons, List.idxOf_cons]
    by_cases e : a = n
    · subst e; simp
    · have e2 : (φ a == φ n) = false := by
        rw [beq_eq_false_iff_ne]
        exact fun h1 => e (h a (by simp) h1)
      have e3 : (a == n) = false := by rw [beq_eq_false_iff_ne]; exact e
      rw [e2, e3]
      have := ih n (by simpa [Ne.symm e] using hn) fun m hm => h m (by simp [hm])
      simp only [cond_false]
      omega
theorem canon_ren (t : Ty) : canon t = ren (plc (hs t)) t := rfl
theorem canon_of_ren (φ : Int → Int) (t : Ty) (h : InjOn φ (hls t)) : canon (ren φ t) = canon t := by
  rw [canon_ren, canon_ren, ren_hs φ t h]
  conv => lhs; unfold ren
  rw [sub_sub]
  unfold ren
  refine sub_congr t fun n hn => ?_
  rw [sub_hole]
  congr 1
  refine plc_map φ _ n ((hs_mem t n).2 hn) fun m hm e => h m n ((hs_mem t m).1 hm) hn e
theorem plc_injOn (t : Ty) : InjOn (plc (hs t)) (hls t) := fun m n hm hn e => plc_inj ((hs_mem t m).2 hm) ((hs_mem t n).2 hn) e
theorem canon_canon (t : Ty) : canon (canon t) = canon t := by
  conv => lhs; rw [canon_ren t]
  exact canon_of_ren _ t (plc_injOn t)
theorem canon_hs (t : Ty) : hs (canon t) = (hs t).map (plc (hs t)) := ren_hs _ t (plc_injOn t)
theorem canon_hs_len (t : Ty) : (hs (canon t)).length = (hs t).length := by rw [canon_hs]; simp
theorem canon_hs_at (t : Ty) {i : Nat} (h : i < (hs (canon t)).length) : (hs (canon t))[i] = i := by
  have e := canon_hs t
  have h2 : i < (hs t).length := by rw [canon_hs_len] at h; exact h
  have : (hs (canon t))[i]? = some (i : Int) := by
    rw [e, List.getElem?_map, List.getElem?_eq_getElem h2]
    simp [plc_at (hs_nodup t) h2]
  rw [List.getElem?_eq_getElem h] at this
  simpa using this
theorem ren_sz (φ : Int → Int) (t : Ty) : allT ok1 t = true → tsz (ren φ t) = tsz t := by
  induction t using Ty.ind with
  | _ t ih =>
    intro ho
    obtain ⟨h1, h2⟩ := allT_kid ho
    unfold ren at *
    cases h : t.nm.isEmpty
    · rw [sub_node _ _ h, tsz_eq, tsz_eq]
      simp only [List.map_map]
      congr 2
      exact List.map_congr_left fun k hk => ih k hk (h2 k hk)
    · rw [sub_at _ _ h, tsz_eq, tsz_eq, (ok1_hole t h1 h).2.1]; rfl
theorem ren_dp (φ : Int → Int) (t : Ty) (d : Nat) : allT ok1 t = true → tdp t ≤ d → tdp (ren φ t) ≤ d := by
  induction t using Ty.ind generalizing d with
  | _ t ih =>
    intro ho hd
    obtain ⟨h1, h2⟩ := allT_kid ho
    have hp := tdp_pos t
    obtain ⟨e, rfl⟩ : ∃ e, d = e + 1 := ⟨d - 1, by omega⟩
    rw [tdp_le] at hd
    unfold ren at *
    rw [tdp_le]
    cases h : t.nm.isEmpty
    · rw [sub_node _ _ h]
      intro k hk
      obtain ⟨c, hc, rfl⟩ := List.mem_map.1 hk
      exact ih c hc e (h2 c hc) (hd c hc)
    · rw [sub_at _ _ h]
      intro k hk
      cases hk
theorem ren_chk (φ : Int → Int) (t : Ty) (h : chk t = true) (hp : ∀ n ∈ hls t, 0 ≤ φ n) : chk (ren φ t) = true := by
  obtain ⟨h1, h2, h3⟩ := (chk_iff t).1 h
  rw [chk_iff]
  refine ⟨sub_ok t h1 fun n hn => ?_, ren_dp φ t 60 h1 h2, by rw [ren_sz φ t h1]; exact h3⟩
  exact ((chk_iff _).1 (chk_hole (hp n hn))).1
theorem canon_chk (t : Ty) (h : chk t = true) : chk (canon t) = true := ren_chk _ t h fun n hn => by unfold plc; omega
/-- Facts of holes: the first ones of a list, each by a number of its own. -/
def genF (g : Nat → Int) (l : List Int) (i : Nat) : List (Int × Ty) := (l.take i).zipIdx.map fun x => (x.1, hole (g x.2))
theorem genF_zero (g : Nat → Int) (l : List Int) : genF g l 0 = [] := by simp [genF]
theorem genF_succ (g : Nat → Int) (l : List Int) {i : Nat} (h : i < l.length) : genF g l (i + 1) = genF g l i ++ [(l[i], hole (g i))] := by
  unfold genF
  rw [List.take_succ_eq_append_getElem h, List.zipIdx_append]
  simp [List.length_take, Nat.min_eq_left (Nat.le_of_lt h)]
theorem genF_len (g : Nat → Int) (l : List Int) (i : Nat) (h : i ≤ l.length) : (genF g l i).length = i := by
  unfold genF
  simp [Nat.min_eq_left h]
theorem genF_mem {g : Nat → Int} {l : List Int} {i : Nat} {f : Int × Ty} (h : f ∈ genF g l i) : f.1 ∈ l ∧ ∃ k, k < l.length ∧ f.2 = hole (g k) := by
  unfold genF at h
  obtain ⟨x, hx, rfl⟩ := List.mem_map.1 h
  obtain ⟨n, k⟩ := x
  have h1 := List.mem_zipIdx hx
  simp only [Nat.zero_le, Nat.zero_add, Nat.sub_zero, true_and] at h1
  obtain ⟨h2, h3⟩ := h1
  rw [List.length_take] at h2
  refine ⟨?_, k, by omega, rfl⟩
  show n ∈ l
  rw [h3]
  exact List.mem_of_mem_take (List.getElem_mem _)
theorem find_zip (g : Nat → Int) (l : List Int) (n : Int) (hn : n ∈ l) : ∀ k : Nat, (l.zipIdx k |>.map fun x => (x.1, hole (g x.2))).find? (fun f => f.1 == n) = some (n, hole (g (k + l.idxOf n))) := by
  induction l with
  | nil => cases hn
  | cons a r ih =>
    intro k
    rw [List.zipIdx_cons, List.map_cons, List.find?_cons, List.idxOf_cons]
    by_cases e : a = n
    · subst e; simp
    · have e3 : (a == n) = false := by rw [beq_eq_false_iff_ne]; exact e
      rw [e3]
      simp only [cond_false]
      rw [ih (by simpa [Ne.symm e] using hn) (k + 1)]
      congr 4
      omega
theorem genF_look (g : Nat → Int) (l : List Int) {n : Int} (hn : n ∈ l) : look (genF g l l.length) n = hole (g (l.idxOf n)) := by
  unfold genF
  rw [List.take_length]
  have h := find_zip g l n hn 0
  unfold look
  rw [h]
  simp
/-- The document's Canon. -/
theorem genF_canon (t : Ty) : sub (look (genF (fun k => (k : Int)) (hs t) (hs t).length)) t = canon t := sub_congr t fun n hn => genF_look _ (hs t) ((hs_mem t n).2 hn)
/-- The facts of TyNames: the holes, each by a number of its own, falling. -/
def nmF (by' : Int) (l : List Int) (i : Nat) : List (Int × Ty) := genF (fun k => by' + l.length - k) l i
theorem nmF_look (by' : Int) (l : List Int) {n : Int} (hn : n ∈ l) : look (nmF by' l l.length) n = hole (by' + l.length - plc l n) := genF_look _ l hn
theorem nmF_all (by' : Int) (l : List Int) (i : Nat) (hb : 0 ≤ by') (hl : ∀ n ∈ l, 0 ≤ n) : ∀ f ∈ nmF by' l i, 0 ≤ f.1 ∧ chk f.2 = true := by
  intro f hf
  obtain ⟨h1, k, h2, h3⟩ := genF_mem hf
  refine ⟨hl _ h1, ?_⟩
  rw [h3]
  exact chk_hole (by omega)
/-- TyNames: with other numbers it is named alike. -/
theorem names_math (t : Ty) (by' : Int) (h : chk t = true) (hb : 0 ≤ by') : canon (applyM (nmF by' (hs t) (hs t).length) t) = canon t := by
  rw [applyM_ok h (nmF_all by' _ _ hb fun n hn => chk_pos h n ((hs_mem t n).1 hn))]
  have e : sub (look (nmF by' (hs t) (hs t).length)) t = ren (fun n => by' + (hs t).length - plc (hs t) n) t := by
    unfold ren
    exact sub_congr t fun n hn => nmF_look by' (hs t) ((hs_mem t n).2 hn)
  rw [e]
  refine canon_of_ren _ t fun m n hm hn e => ?_
  exact plc_injOn t m n hm hn (by omega)
theorem names_chk (t : Ty) (by' : Int) (h : chk t = true) (hb : 0 ≤ by') : chk (applyM (nmF by' (hs t) (hs t).length) t) = true := by
  rw [applyM_ok h (nmF_all by' _ _ hb fun n hn => chk_pos h n ((hs_mem t n).1 hn))]
  have e : sub (look (nmF by' (hs t) (hs t).length)) t = ren (fun n => by' + (hs t).length - plc (hs t) n) t := by
    unfold ren
    exact sub_congr t fun n hn => nmF_look by' (hs t) ((hs_mem t n).2 hn)
  rw [e]
  refine ren_chk _ t h fun n hn => ?_
  obtain ⟨i, h1, _, h3⟩ := plc_get ((hs_mem t n).2 hn)
  simp only [h3]
  omega
theorem canonV_canon (t : Ty) (h : chk t = true) : (if chk (canon t) then canon (canon t) else ⟨[], 0, []⟩) = canon t := by rw [canon_chk t h, canon_canon]; rfl
end Go.Proofs.YteoflpalmckikaaDoor
