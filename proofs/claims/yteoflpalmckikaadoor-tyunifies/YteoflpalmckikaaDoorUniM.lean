/-
  FACTS, HOLE BY HOLE (as the document's answer keeps them): what they come to all together; one more of them; one of them by another hole. No program in it.
  WHAT ALL FACTS COME TO, SORTED, IS WHAT IS TOLD. No program in it.
  TWO TYPES BY FACTS, one step of the document's One: what is so at its ends. No program in it.
-/
import Derived.Test.YteoflpalmckikaaDoorLawM
import Derived.Test.YteoflpalmckikaaDoorBase
namespace Go.Proofs.YteoflpalmckikaaDoor
set_option linter.unusedVariables false
set_option linter.unusedSimpArgs false
/-- What keeps all facts. -/
def Sol (r : Int → Ty) (l : List (Int × Ty)) : Prop := ∀ f ∈ l, r f.1 = sub r f.2
/-- Facts that come to s: e is the last hole of each hole, p how far it is. -/
structure Inv (H : List Int) (l : List (Int × Ty)) (s : Int → Ty) (e : Int → Int) (p : Int → Nat) : Prop where
  nd : (l.map fun f => f.1).Nodup
  fixd : ∀ f ∈ l, s f.1 = sub s f.2
  idl : ∀ n, (∀ f ∈ l, f.1 ≠ n) → s n = hole n
  lnk : ∀ f ∈ l, ∀ m, f.2 = hole m → e f.1 = e m ∧ p m < p f.1
  fin : ∀ n, (∀ f ∈ l, f.1 = n → f.2.nm.isEmpty = false) → e n = n
  low : ∀ n m, s n = hole m → m ≤ n
  ok : ∀ f ∈ l, allT ok1 f.2 = true ∧ f.1 ∈ H ∧ ∀ m ∈ hls f.2, m ∈ H
  pos : ∀ n ∈ H, 0 ≤ n
theorem tsz_mem_le {s : Int → Ty} (t : Ty) : ∀ j ∈ hls t, tsz (s j) ≤ tsz (sub s t) := by
  induction t using Ty.ind with
  | _ t ih =>
    intro j hj
    cases h : t.nm.isEmpty
    · rw [hls_node _ h] at hj
      obtain ⟨k, hk, hj⟩ := List.mem_flatMap.1 hj
      have h1 := ih k hk j hj
      rw [sub_node _ _ h, tsz_eq ⟨t.nm, 0, t.ar.map (sub s)⟩]
      simp only [List.map_map]
      obtain ⟨q, hq, rfl⟩ := List.getElem_of_mem hk
      have h2 := sum_take (tsz ∘ sub s) hq
      have h3 := sum_take_le (tsz ∘ sub s) t.ar (q + 1)
      simp only [Function.comp] at h2 h3 ⊢
      omega
    · rw [hls_at _ h] at hj
      simp at hj
      subst hj
      rw [sub_at _ _ h]
      exact Nat.le_refl _
theorem tsz_kid_lt {t k : Ty} (hk : k ∈ t.ar) : tsz k < tsz t := by
  rw [tsz_eq t]
  obtain ⟨q, hq, rfl⟩ := List.getElem_of_mem hk
  have h2 := sum_take tsz hq
  have h3 := sum_take_le tsz t.ar (q + 1)
  omega
theorem tsz_mem_lt {s : Int → Ty} (t : Ty) (h : t.nm.isEmpty = false) {j : Int} (hj : j ∈ hls t) : tsz (s j) < tsz (sub s t) := by
  rw [hls_node _ h] at hj
  obtain ⟨k, hk, hj⟩ := List.mem_flatMap.1 hj
  have h1 := tsz_mem_le (s := s) k j hj
  have h2 : sub s k ∈ (sub s t).ar := by rw [sub_node _ _ h]; exact List.mem_map_of_mem hk
  have := tsz_kid_lt h2
  omega
theorem ok_hole {t : Ty} (ho : allT ok1 t = true) (h : t.nm.isEmpty = true) : t = hole t.n := (ok1_hole t (allT_kid ho).1 h).2.2
section
variable {H : List Int} {l : List (Int × Ty)} {s : Int → Ty} {e : Int → Int} {p : Int → Nat}
theorem Inv.ind (h : Inv H l s e p) {Q : Int → Prop} (hq : ∀ n, (∀ f ∈ l, f.1 = n → ∀ j ∈ hls f.2, Q j) → Q n) (n : Int) : Q n := by
  have main : ∀ (a b : Nat) (n : Int), tsz (s n) ≤ a → p n ≤ b → Q n := by
    intro a
    induction a with
    | zero => intro b n ha; have := tsz_pos (s n); omega
    | succ a iha =>
      intro b
      induction b with
      | zero =>
        intro n ha hb
        refine hq n fun f hf hfn j hj => ?_
        cases he : f.2.nm.isEmpty
        · have h1 := tsz_mem_lt (s := s) f.2 he hj
          rw [← h.fixd f hf, hfn] at h1
          exact iha _ j (by omega) (Nat.le_refl _)
        · have h1 := ok_hole (h.ok f hf).1 he
          have h2 := (h.lnk f hf _ h1).2
          rw [hfn] at h2
          omega
      | succ b ihb =>
        intro n ha hb
        refine hq n fun f hf hfn j hj => ?_
        cases he : f.2.nm.isEmpty
        · have h1 := tsz_mem_lt (s := s) f.2 he hj
          rw [← h.fixd f hf, hfn] at h1
          exact iha _ j (by omega) (Nat.le_refl _)
        · have h1 := ok_hole (h.ok f hf).1 he
          have h2 := (h.lnk f hf _ h1).2
          have h3 := h.fixd f hf
          rw [h1, sub_hole] at h3
          rw [h1, hls_hole] at hj
          simp at hj
          subst hj
          rw [hfn] at h2 h3
          exact ihb _ (by rw [← h3]; exact ha) (by omega)
  exact main _ _ n (Nat.le_refl _) (Nat.le_refl _)
theorem mem_or (l : List (Int × Ty)) (n : Int) : (∃ f ∈ l, f.1 = n) ∨ ∀ f ∈ l, f.1 ≠ n := by
  by_cases h : ∃ f ∈ l, f.1 = n
  · exact .inl h
  · exact .inr fun f hf e => h ⟨f, hf, e⟩
theorem Inv.uniq (h : Inv H l s e p) {f g : Int × Ty} (hf : f ∈ l) (hg : g ∈ l) (e1 : f.1 = g.1) : f = g := by
  have hn := h.nd
  clear h
  induction l with
  | nil => cases hf
  | cons a r ih =>
    rw [List.map_cons, List.nodup_cons] at hn
    rcases List.mem_cons.1 hf with hf1 | hf1 <;> rcases List.mem_cons.1 hg with hg1 | hg1
    · rw [hf1, hg1]
    · exact absurd (List.mem_map.2 ⟨g, hg1, by rw [← e1, hf1]⟩) hn.1
    · exact absurd (List.mem_map.2 ⟨f, hf1, by rw [e1, hg1]⟩) hn.1
    · exact ih hf1 hg1 hn.2
theorem Inv.look (h : Inv H l s e p) {f : Int × Ty} (hf : f ∈ l) : look l f.1 = f.2 := by
  rcases look_cases (l := l) f.1 with ⟨g, hg, e1, e2⟩ | ⟨hn, _⟩
  · rw [e2, h.uniq hg hf e1]
  · exact absurd rfl (hn f hf)
/-- No hole in what it comes to has a fact. -/
theorem Inv.free (h : Inv H l s e p) (n : Int) : ∀ k ∈ hls (s n), ∀ f ∈ l, f.1 ≠ k := by
  refine h.ind (Q := fun n => ∀ k ∈ hls (s n), ∀ f ∈ l, f.1 ≠ k) (fun n ih k hk => ?_) n
  rcases mem_or l n with ⟨f, hf, hn⟩ | hn
  · rw [← hn, h.fixd f hf, hls_sub] at hk
    obtain ⟨j, hj, hk⟩ := List.mem_flatMap.1 hk
    exact ih f hf hn j hj k hk
  · rw [h.idl n hn, hls_hole] at hk
    simp at hk
    subst hk
    exact hn
/-- What keeps all facts is what they come to, and then that. -/
theorem Inv.gen (h : Inv H l s e p) {r : Int → Ty} (hr : Sol r l) (n : Int) : r n = sub r (s n) := by
  refine h.ind (Q := fun n => r n = sub r (s n)) (fun n ih => ?_) n
  rcases mem_or l n with ⟨f, hf, hn⟩ | hn
  · rw [← hn, h.fixd f hf, sub_sub, hr f hf]
    exact sub_congr _ fun j hj => ih f hf hn j hj
  · rw [h.idl n hn, sub_hole]
theorem Inv.sol (h : Inv H l s e p) : Sol s l := h.fixd
theorem Inv.gen2 (h : Inv H l s e p) {r : Int → Ty} (hr : Sol r l) (t : Ty) : sub r (sub s t) = sub r t := by
  rw [sub_sub]
  exact sub_congr _ fun n _ => (h.gen hr n).symm
theorem Inv.okS (h : Inv H l s e p) {n : Int} : 0 ≤ n → allT ok1 (s n) = true := by
  refine h.ind (Q := fun n => 0 ≤ n → allT ok1 (s n) = true) (fun n ih hn0 => ?_) n
  rcases mem_or l n with ⟨f, hf, hn⟩ | hn
  · rw [← hn, h.fixd f hf]
    exact sub_ok _ (h.ok f hf).1 fun j hj => ih f hf hn j hj (h.pos j ((h.ok f hf).2.2 j hj))
  · rw [h.idl n hn, allT_eq]
    simp [hole, ok1, hn0]
theorem Inv.inH (h : Inv H l s e p) {n : Int} : n ∈ H → ∀ k ∈ hls (s n), k ∈ H := by
  refine h.ind (Q := fun n => n ∈ H → ∀ k ∈ hls (s n), k ∈ H) (fun n ih hn0 k hk => ?_) n
  rcases mem_or l n with ⟨f, hf, hn⟩ | hn
  · rw [← hn, h.fixd f hf, hls_sub] at hk
    obtain ⟨j, hj, hk⟩ := List.mem_flatMap.1 hk
    exact ih f hf hn j hj ((h.ok f hf).2.2 j hj) k hk
  · rw [h.idl n hn, hls_hole] at hk
    simp at hk
    subst hk
    exact hn0
/-- The last hole: no other hole is told of it. -/
theorem Inv.last (h : Inv H l s e p) (n : Int) : (∀ f ∈ l, f.1 = e n → f.2.nm.isEmpty = false) ∧ s n = s (e n) ∧ (n ∈ H → e n ∈ H) := by
  refine h.ind (Q := fun n => (∀ f ∈ l, f.1 = e n → f.2.nm.isEmpty = false) ∧ s n = s (e n) ∧ (n ∈ H → e n ∈ H)) (fun n ih => ?_) n
  by_cases hh : ∀ f ∈ l, f.1 = n → f.2.nm.isEmpty = false
  · rw [h.fin n hh]
    exact ⟨hh, rfl, id⟩
  · obtain ⟨f, hf⟩ := Classical.not_forall.1 hh
    obtain ⟨hf, hf2⟩ := Classical.not_imp.1 hf
    obtain ⟨hn, hx⟩ := Classical.not_imp.1 hf2
    have hx' : f.2.nm.isEmpty = true := by simpa using hx
    have h1 := ok_hole (h.ok f hf).1 hx'
    have h2 := (h.lnk f hf _ h1).1
    rw [hn] at h2
    have h3 := h.fixd f hf
    rw [h1, sub_hole, hn] at h3
    have hj : f.2.n ∈ hls f.2 := by rw [hls_at _ hx']; simp
    obtain ⟨i1, i2, i3⟩ := ih f hf hn _ hj
    rw [h2]
    exact ⟨i1, h3.trans i2, fun _ => i3 ((h.ok f hf).2.2 _ hj)⟩
theorem Inv.ee (h : Inv H l s e p) (n : Int) : e (e n) = e n := h.fin _ (h.last n).1
theorem Inv.genE (h : Inv H l s e p) {r : Int → Ty} (hr : Sol r l) (n : Int) : r n = r (e n) := by
  rw [h.gen hr n, (h.last n).2.1, ← h.gen hr]
/-- A type, hole by hole, as long as that is a hole. -/
def rootT (e : Int → Int) (t : Ty) : Ty := if t.nm.isEmpty then hole (e t.n) else t
/-- A type, hole by hole. -/
def walkT (l : List (Int × Ty)) (e : Int → Int) (t : Ty) : Ty := if t.nm.isEmpty then look l (e t.n) else t
theorem Inv.walk (h : Inv H l s e p) {r : Int → Ty} (hr : Sol r l) (t : Ty) : sub r (walkT l e t) = sub r t := by
  unfold walkT
  cases hh : t.nm.isEmpty
  · rfl
  · rw [sub_at _ _ hh, if_pos rfl, h.genE hr t.n]
    rcases look_cases (l := l) (e t.n) with ⟨g, hg, e1, e2⟩ | ⟨_, e2⟩
    · rw [e2, ← e1, hr g hg]
    · rw [e2, sub_hole]
/-- A walked type is no hole, or a hole of which nothing is told. -/
theorem Inv.walked (h : Inv H l s e p) (t : Ty) : (walkT l e t).nm.isEmpty = false ∨ (∃ k, walkT l e t = hole k ∧ (∀ f ∈ l, f.1 ≠ k) ∧ e k = k ∧ t.nm.isEmpty = true ∧ k = e t.n) := by
  unfold walkT
  cases hh : t.nm.isEmpty
  · exact .inl hh
  · rw [if_pos rfl]
    rcases look_cases (l := l) (e t.n) with ⟨g, hg, e1, e2⟩ | ⟨hn, e2⟩
    · rw [e2]
      exact .inl ((h.last t.n).1 g hg e1)
    · exact .inr ⟨e t.n, e2, hn, h.ee _, rfl, rfl⟩
theorem Inv.walkH (h : Inv H l s e p) {t : Ty} (ht : ∀ m ∈ hls t, m ∈ H) : ∀ m ∈ hls (walkT l e t), m ∈ H := by
  unfold walkT
  cases hh : t.nm.isEmpty
  · exact ht
  · rw [if_pos rfl]
    have h1 := (h.last t.n).2.2 (ht _ (by rw [hls_at _ hh]; simp))
    rcases look_cases (l := l) (e t.n) with ⟨g, hg, e1, e2⟩ | ⟨hn, e2⟩
    · rw [e2]; exact (h.ok g hg).2.2
    · rw [e2, hls_hole]; simpa using h1
theorem Inv.walkO (h : Inv H l s e p) {t : Ty} (ht : ∀ m ∈ hls t, m ∈ H) (ho : allT ok1 t = true) : allT ok1 (walkT l e t) = true := by
  unfold walkT
  cases hh : t.nm.isEmpty
  · exact ho
  · rw [if_pos rfl]
    have h1 := h.pos _ ((h.last t.n).2.2 (ht _ (by rw [hls_at _ hh]; simp)))
    rcases look_cases (l := l) (e t.n) with ⟨g, hg, e1, e2⟩ | ⟨hn, e2⟩
    · rw [e2]; exact (h.ok g hg).1
    · rw [e2]; exact (chk_iff _).1 (chk_hole h1) |>.1
end
/-- How many holes are not told of. -/
def openN (H : List Int) (l : List (Int × Ty)) : Nat := (H.filter fun n => l.all fun f => f.1 != n).length
theorem openN_le {H : List Int} {l l' : List (Int × Ty)} (h : ∀ f ∈ l, ∃ g ∈ l', g.1 = f.1) : openN H l' ≤ openN H l := by
  unfold openN
  induction H with
  | nil => simp
  | cons a r ih =>
    rw [List.filter_cons, List.filter_cons]
    by_cases h1 : (l'.all fun f => f.1 != a) = true
    · have h2 : (l.all fun f => f.1 != a) = true := by
        rw [List.all_eq_true] at h1 ⊢
        intro f hf
        obtain ⟨g, hg, e⟩ := h f hf
        rw [← e]
        exact h1 g hg
      rw [if_pos h1, if_pos h2]
      simpa using ih
    · rw [if_neg h1]
      split
      · simp only [List.length_cons]; omega
      · exact ih
theorem openN_eq {H : List Int} {l l' : List (Int × Ty)} (h : ∀ f ∈ l, ∃ g ∈ l', g.1 = f.1) : openN H l' = openN H l → ∀ n ∈ H, (∀ f ∈ l, f.1 ≠ n) → ∀ f ∈ l', f.1 ≠ n := by
  unfold openN
  induction H with
  | nil => intro _ n hn; cases hn
  | cons a r ih =>
    intro he n hn hno
    have hle := openN_le (H := r) h
    unfold openN at hle
    rw [List.filter_cons, List.filter_cons] at he
    by_cases h1 : (l'.all fun f => f.1 != a) = true
    · have h2 : (l.all fun f => f.1 != a) = true := by
        rw [List.all_eq_true] at h1 ⊢
        intro f hf
        obtain ⟨g, hg, e⟩ := h f hf
        rw [← e]
        exact h1 g hg
      rw [if_pos h1, if_pos h2] at he
      simp only [List.length_cons, Nat.add_right_cancel_iff] at he
      rcases List.mem_cons.1 hn with rfl | hn
      · rw [List.all_eq_true] at h1
        intro f hf
        simpa using h1 f hf
      · exact ih he n hn hno
    · rw [if_neg h1] at he
      by_cases h2 : (l.all fun f => f.1 != a) = true
      · rw [if_pos h2] at he
        simp only [List.length_cons] at he
        omega
      · rw [if_neg h2] at he
        rcases List.mem_cons.1 hn with rfl | hn
        · exfalso
          apply h2
          rw [List.all_eq_true]
          intro f hf
          simpa using hno f hf
        · exact ih he n hn hno
theorem openN_lt {H : List Int} {l : List (Int × Ty)} {k : Int} {y : Ty} (hk : k ∈ H) (hn : ∀ f ∈ l, f.1 ≠ k) : openN H (l ++ [(k, y)]) < openN H l := by
  have h1 : openN H (l ++ [(k, y)]) ≤ openN H l := openN_le fun f hf => ⟨f, by simp [hf], rfl⟩
  rcases Nat.lt_or_ge (openN H (l ++ [(k, y)])) (openN H l) with h | h
  · exact h
  · have := openN_eq (H := H) (l := l) (l' := l ++ [(k, y)]) (fun f hf => ⟨f, by simp [hf], rfl⟩) (by omega) k hk hn (k, y) (by simp)
    exact absurd rfl this
section
variable {H : List Int} {l : List (Int × Ty)} {s : Int → Ty} {e : Int → Int} {p : Int → Nat}
/-- With no hole more told of, it comes to the same. -/
theorem Inv.same {l' : List (Int × Ty)} {s' : Int → Ty} {e' : Int → Int} {p' : Int → Nat} (h : Inv H l s e p) (h' : Inv H l' s' e' p') (hs : Sol s' l) (hd : ∀ n ∈ H, (∀ f ∈ l, f.1 ≠ n) → ∀ f ∈ l', f.1 ≠ n) {t : Ty} (ht : ∀ m ∈ hls t, m ∈ H) : sub s' t = sub s t := by
  refine sub_congr _ fun n hn => ?_
  have hH := ht n hn
  rw [h.gen hs n]
  conv => rhs; rw [← sub_id (s n) (h.okS (h.pos n hH))]
  exact sub_congr _ fun k hk => h'.idl k (hd k (h.inH hH k hk) (h.free n k hk))
/-- No hole is within what is told of it. -/
theorem Inv.occurs (h : Inv H l s e p) {k : Int} {y : Ty} (hy : y.nm.isEmpty = false) (hk : k ∈ hls (sub s y)) {r : Int → Ty} (hr : Sol r l) : r k ≠ sub r y := by
  intro he
  have h1 : (sub s y).nm.isEmpty = false := by rw [sub_node _ _ hy]; exact hy
  have h2 := tsz_mem_lt (s := r) (sub s y) h1 hk
  rw [h.gen2 hr y, ← he] at h2
  omega
/-- One fact more. -/
theorem Inv.bind (h : Inv H l s e p) {k : Int} {y : Ty} (hk : ∀ f ∈ l, f.1 ≠ k) (hkH : k ∈ H) (hyo : allT ok1 y = true) (hyH : ∀ m ∈ hls y, m ∈ H) (hno : k ∉ hls (sub s y))
    (hy : y.nm.isEmpty = false ∨ ∃ j, y = hole j ∧ (∀ f ∈ l, f.1 ≠ j) ∧ j < k) : ∃ s' e' p', Inv H (l ++ [(k, y)]) s' e' p' := by
  have hek : e k = k := h.fin k fun f hf e1 => absurd e1 (hk f hf)
  have hsk : s k = hole k := h.idl k hk
  obtain ⟨τ, hτ⟩ : ∃ τ : Int → Ty, τ = fun n => if n = k then sub s y else hole n := ⟨_, rfl⟩
  have hτk : τ k = sub s y := by rw [hτ]; simp
  have hτn : ∀ n, n ≠ k → τ n = hole n := fun n hn => by rw [hτ]; simp [hn]
  have hτy : sub τ (sub s y) = sub s y := by
    have hoy : allT ok1 (sub s y) = true := sub_ok _ hyo fun n hn => h.okS (h.pos n (hyH n hn))
    conv => rhs; rw [← sub_id _ hoy]
    exact sub_congr _ fun n hn => hτn n fun e1 => hno (e1 ▸ hn)
  have hsub : ∀ t, sub (fun n => sub τ (s n)) t = sub τ (sub s t) := fun t => (sub_sub s τ t).symm
  have hnd : ((l ++ [(k, y)]).map fun f => f.1).Nodup := by
    rw [List.map_append, List.map_singleton, List.nodup_append]
    refine ⟨h.nd, by simp, fun a ha b hb e1 => ?_⟩
    simp at hb
    obtain ⟨f, hf, rfl⟩ := List.mem_map.1 ha
    exact hk f hf (e1.trans hb)
  have hfix : ∀ f ∈ l ++ [(k, y)], (fun n => sub τ (s n)) f.1 = sub (fun n => sub τ (s n)) f.2 := by
    intro f hf
    rw [hsub]
    rcases List.mem_append.1 hf with hf | hf
    · rw [← h.fixd f hf]
    · obtain rfl := List.mem_singleton.1 hf
      show sub τ (s k) = sub τ (sub s y)
      rw [hsk, sub_hole, hτk, hτy]
  have hidl : ∀ n, (∀ f ∈ l ++ [(k, y)], f.1 ≠ n) → (fun n => sub τ (s n)) n = hole n := by
    intro n hn
    have h1 := h.idl n fun f hf => hn f (by simp [hf])
    show sub τ (s n) = hole n
    rw [h1, sub_hole, hτn n fun e1 => hn (k, y) (by simp) e1.symm]
  have hlow : ∀ n m, (fun n => sub τ (s n)) n = hole m → m ≤ n := by
    intro n m hm
    obtain ⟨h1, h2⟩ := sub_is_hole hm
    have h3 : s n = hole (s n).n := by
      rcases mem_or l n with ⟨f, hf, hfn⟩ | hn
      · exact ok_hole (h.okS (h.pos n (hfn ▸ (h.ok f hf).2.1))) h1
      · rw [h.idl n hn]; rfl
    have h4 := h.low n _ h3
    by_cases h5 : (s n).n = k
    · rw [h5, hτk] at h2
      obtain ⟨g1, g2⟩ := sub_is_hole h2
      rcases hy with hy | ⟨j, rfl, hj, hjk⟩
      · rw [hy] at g1; cases g1
      · have g3 : s j = hole m := g2
        rw [h.idl j hj] at g3
        have := hole_inj g3
        omega
    · rw [hτn _ h5] at h2
      have := hole_inj h2
      omega
  have hok : ∀ f ∈ l ++ [(k, y)], allT ok1 f.2 = true ∧ f.1 ∈ H ∧ ∀ m ∈ hls f.2, m ∈ H := by
    intro f hf
    rcases List.mem_append.1 hf with hf | hf
    · exact h.ok f hf
    · obtain rfl := List.mem_singleton.1 hf
      exact ⟨hyo, hkH, hyH⟩
  rcases hy with hy | ⟨j, rfl, hj, hjk⟩
  · refine ⟨_, e, p, hnd, hfix, hidl, ?_, ?_, hlow, hok, h.pos⟩
    · intro f hf m hm
      rcases List.mem_append.1 hf with hf | hf
      · exact h.lnk f hf m hm
      · obtain rfl := List.mem_singleton.1 hf
        rw [show y = hole m from hm] at hy
        cases hy
    · intro n hn
      exact h.fin n fun f hf => hn f (by simp [hf])
  · have hej : e j = j := h.fin j fun f hf e1 => absurd e1 (hj f hf)
    refine ⟨_, fun n => if e n = k then j else e n, fun n => if e n = k then p n + p j + 1 else p n, hnd, hfix, hidl, ?_, ?_, hlow, hok, h.pos⟩
    · intro f hf m hm
      rcases List.mem_append.1 hf with hf | hf
      · obtain ⟨h1, h2⟩ := h.lnk f hf m hm
        simp only [h1]
        refine ⟨trivial, ?_⟩
        split <;> omega
      · obtain rfl := List.mem_singleton.1 hf
        have : m = j := (hole_inj hm).symm
        subst this
        have hne : ¬ m = k := by omega
        simp only [hek, hej, if_true, if_neg hne, true_and]
        omega
    · intro n hn
      have hnk : n ≠ k := fun e1 => by
        have := hn (k, hole j) (by simp) e1.symm
        cases this
      have h1 := h.fin n fun f hf => hn f (by simp [hf])
      simp only [h1, if_neg hnk]
/-- Another hole told of one, that is the same. -/
theorem Inv.turn (h : Inv H l s e p) {v w : Int} {t : Ty} (hv : (v, t) ∈ l) (ht : t.nm.isEmpty = false) (hw : e w = w) (hwH : w ∈ H) (hne : v ≠ w) (hs : s v = s w) {l' : List (Int × Ty)} (hl : l' = l.map fun f => if f.1 = v then (v, hole w) else f) : (∃ e' p', Inv H l' s e' p') ∧ ∀ r, Sol r l' ↔ Sol r l := by
  have hev : e v = v := h.fin v fun f hf e1 => by rw [h.uniq hf hv e1]; exact ht
  have hm : ∀ f ∈ l', f = (v, hole w) ∨ (f ∈ l ∧ f.1 ≠ v) := by
    intro f hf
    rw [hl] at hf
    obtain ⟨g, hg, rfl⟩ := List.mem_map.1 hf
    by_cases h1 : g.1 = v
    · rw [if_pos h1]; exact .inl rfl
    · rw [if_neg h1]; exact .inr ⟨hg, h1⟩
  have hm2 : (v, hole w) ∈ l' := by
    rw [hl]
    exact List.mem_map.2 ⟨(v, t), hv, by simp⟩
  have hm3 : ∀ f ∈ l, f.1 ≠ v → f ∈ l' := fun f hf h1 => by
    rw [hl]
    exact List.mem_map.2 ⟨f, hf, by simp [h1]⟩
  have hfst : (l'.map fun f => f.1) = l.map fun f => f.1 := by
    rw [hl, List.map_map]
    refine List.map_congr_left fun f hf => ?_
    by_cases h1 : f.1 = v
    · simp [h1]
    · simp [h1]
  have hinv : Inv H l' s (fun n => if e n = v then w else e n) (fun n => if e n = v then p n + p w + 1 else p n) := by
    refine ⟨by rw [hfst]; exact h.nd, ?_, ?_, ?_, ?_, h.low, ?_, h.pos⟩
    · intro f hf
      rcases hm f hf with rfl | ⟨hf, _⟩
      · show s v = sub s (hole w)
        rw [sub_hole, hs]
      · exact h.fixd f hf
    · intro n hn
      refine h.idl n fun f hf e1 => ?_
      by_cases h1 : f.1 = v
      · exact hn _ hm2 (h1.symm.trans e1)
      · exact hn f (hm3 f hf h1) e1
    · intro f hf m hfm
      rcases hm f hf with rfl | ⟨hf, h1⟩
      · have : w = m := hole_inj hfm
        subst this
        have hne2 : ¬ w = v := fun e1 => hne e1.symm
        simp only [hev, hw, if_true, if_neg hne2, true_and]
        omega
      · obtain ⟨h2, h3⟩ := h.lnk f hf m hfm
        simp only [h2]
        refine ⟨trivial, ?_⟩
        split <;> omega
    · intro n hn
      have hnv : n ≠ v := fun e1 => by
        have := hn _ hm2 e1.symm
        cases this
      have h1 := h.fin n fun f hf e1 => hn f (hm3 f hf fun e2 => hnv (e1.symm.trans e2)) e1
      simp only [h1, if_neg hnv]
    · intro f hf
      rcases hm f hf with rfl | ⟨hf, _⟩
      · refine ⟨(chk_iff _).1 (chk_hole (h.pos w hwH)) |>.1, (h.ok _ hv).2.1, ?_⟩
        rw [hls_hole]
        simpa using hwH
      · exact h.ok f hf
  refine ⟨⟨_, _, hinv⟩, fun r => ⟨fun hr f hf => ?_, fun hr f hf => ?_⟩⟩
  · by_cases h1 : f.1 = v
    · rw [hinv.gen hr f.1, h.fixd f hf, sub_sub]
      exact sub_congr _ fun n _ => (hinv.gen hr n).symm
    · exact hr f (hm3 f hf h1)
  · rcases hm f hf with rfl | ⟨hf, _⟩
    · show r v = sub r (hole w)
      rw [sub_hole, h.gen hr v, hs, ← h.gen hr w]
    · exact hr f hf
end
end Go.Proofs.YteoflpalmckikaaDoor
namespace Go.Proofs.YteoflpalmckikaaDoor
set_option linter.unusedVariables false
set_option linter.unusedSimpArgs false
/-- Rising facts with one more at its place. -/
theorem ins_rise {out : List (Int × Ty)} {f : Int × Ty} {k : Nat} (hr : out.Pairwise fun x y => x.1 < y.1) (h1 : ∀ g ∈ out.take k, g.1 < f.1) (h2 : ∀ g, out[k]? = some g → f.1 < g.1) : (out.take k ++ [f] ++ out.drop k).Pairwise fun x y => x.1 < y.1 := by
  have hd : ∀ g ∈ out.drop k, f.1 < g.1 := by
    intro g hg
    obtain ⟨i, hi, rfl⟩ := List.getElem_of_mem hg
    rw [List.length_drop] at hi
    rw [List.getElem_drop]
    have h3 := h2 out[k] (List.getElem?_eq_getElem (by omega))
    rcases Nat.eq_zero_or_pos i with rfl | h0
    · exact h3
    · have := List.pairwise_iff_getElem.1 hr k (k + i) (by omega) (by omega) (by omega)
      omega
  have ht : ∀ x ∈ out.take k, ∀ y ∈ out.drop k, x.1 < y.1 := fun x hx y hy => by
    have := h1 x hx
    have := hd y hy
    omega
  rw [List.append_assoc, List.pairwise_append]
  refine ⟨hr.sublist (List.take_sublist _ _), ?_, ?_⟩
  · rw [List.singleton_append, List.pairwise_cons]
    exact ⟨hd, hr.sublist (List.drop_sublist _ _)⟩
  · intro x hx y hy
    rcases List.mem_cons.1 (by simpa using hy) with rfl | hy
    · exact h1 x hx
    · exact ht x hx y hy
theorem ins_mem {out : List (Int × Ty)} {f g : Int × Ty} {k : Nat} : g ∈ out.take k ++ [f] ++ out.drop k ↔ g ∈ out ∨ g = f := by
  conv => rhs; rw [← List.take_append_drop k out]
  simp only [List.mem_append, List.mem_singleton]
  constructor
  · rintro ((h | h) | h)
    · exact .inl (.inl h)
    · exact .inr h
    · exact .inl (.inr h)
  · rintro ((h | h) | h)
    · exact .inl (.inl h)
    · exact .inr h
    · exact .inl (.inr h)
theorem ins_len {out : List (Int × Ty)} {f : Int × Ty} {k : Nat} (hk : k ≤ out.length) : (out.take k ++ [f] ++ out.drop k).length = out.length + 1 := by
  simp only [List.length_append, List.length_take, List.length_drop, List.length_singleton]
  omega
section
variable {a b : Ty} {l out : List (Int × Ty)} {s : Int → Ty} {e : Int → Int} {p : Int → Nat}
theorem told_look (h : Inv (hls a ++ hls b) l s e p) (hr : out.Pairwise fun x y => x.1 < y.1) (hm : ∀ f, f ∈ out ↔ ∃ g ∈ l, f = (g.1, s g.1)) (n : Int) : look out n = s n := by
  rcases look_cases (l := out) n with ⟨f, hf, e1, e2⟩ | ⟨hn, e2⟩
  · obtain ⟨g, hg, rfl⟩ := (hm f).1 hf
    rw [e2, ← e1]
  · rw [e2, h.idl n]
    intro f hf e3
    exact hn _ ((hm _).2 ⟨f, hf, rfl⟩) e3
theorem told_facts (h : Inv (hls a ++ hls b) l s e p) (hs : ∀ r, Sol r l ↔ sub r a = sub r b) (hr : out.Pairwise fun x y => x.1 < y.1) (hm : ∀ f, f ∈ out ↔ ∃ g ∈ l, f = (g.1, s g.1)) : Told a b out where
  rise := hr
  one := by
    have h1 := fun n => told_look h hr hm n
    rw [sub_congr a fun n _ => h1 n, sub_congr b fun n _ => h1 n]
    exact (hs s).1 h.sol
  theirs := by
    intro f hf
    obtain ⟨g, hg, rfl⟩ := (hm f).1 hf
    exact List.mem_append.1 (h.ok g hg).2.1
  idem := by
    intro f hf m hk g hg
    obtain ⟨f', hf', rfl⟩ := (hm f).1 hf
    obtain ⟨g', hg', rfl⟩ := (hm g).1 hg
    exact h.free f'.1 m hk g' hg'
  least := by
    intro f hf m hfm
    obtain ⟨g, hg, rfl⟩ := (hm f).1 hf
    have h1 := h.low g.1 m hfm
    have h2 := h.free g.1 m (by rw [show s g.1 = hole m from hfm, hls_hole]; simp) g hg
    show m < g.1
    omega
  most := by
    intro r hr f hf
    obtain ⟨g, hg, rfl⟩ := (hm f).1 hf
    exact (h.gen ((hs r).2 hr) g.1).symm
theorem told_great (h : Inv (hls a ++ hls b) l s e p) (hs : ∀ r, Sol r l ↔ sub r a = sub r b) {f : Int × Ty} (hf : f ∈ l) (hno : ¬ (tdp (s f.1) ≤ 60 ∧ tsz (s f.1) ≤ 2000)) : UnifyQ a b [] 80 := by
  refine .inr ⟨rfl, rfl, fun r hr => ⟨f.1, List.mem_append.1 (h.ok f hf).2.1, ?_⟩⟩
  cases hc : chk (r f.1) with
  | false => rfl
  | true =>
    obtain ⟨_, h2, h3⟩ := (chk_iff _).1 hc
    have ho := h.okS (h.pos f.1 (h.ok f hf).2.1)
    have hg := h.gen ((hs r).2 hr) f.1
    rw [hg] at h2 h3
    have h4 := sub_dp (s := r) (s f.1) ho
    have h5 := sub_sz (s := r) (s f.1) ho
    exact absurd ⟨by omega, by omega⟩ hno
end
theorem inv_nil {H : List Int} (hp : ∀ n ∈ H, 0 ≤ n) : Inv H [] hole id (fun _ => 0) := ⟨by simp, by simp, fun _ _ => rfl, by simp, fun _ _ => rfl, fun n m h => by have := hole_inj h; omega, by simp, hp⟩
end Go.Proofs.YteoflpalmckikaaDoor
namespace Go.Proofs.YteoflpalmckikaaDoor
set_option linter.unusedVariables false
set_option linter.unusedSimpArgs false
/-- Facts by which two types are one, beside others. -/
def OneT (H : List Int) (l : List (Int × Ty)) (a b : Ty) (l' : List (Int × Ty)) : Prop := (∃ s e p, Inv H l' s e p) ∧ (∀ q, Sol q l' ↔ Sol q l ∧ sub q a = sub q b) ∧ (∀ f ∈ l, ∃ g ∈ l', g.1 = f.1) ∧ ∀ f ∈ l, f ∈ l' ∨ ∀ q, Sol q l' → tsz (q f.1) ≤ tsz (sub q a)
/-- There are none. -/
def OneN (l : List (Int × Ty)) (a b : Ty) : Prop := ∀ q, Sol q l → sub q a ≠ sub q b
def EqUpto (q : Int → Ty) (X Y : Ty) (i : Nat) : Prop := ∀ j < i, ∀ x y, X.ar[j]? = some x → Y.ar[j]? = some y → sub q x = sub q y
/-- .. of the first Args. -/
def LoopT (H : List Int) (l : List (Int × Ty)) (X Y : Ty) (i : Nat) (li : List (Int × Ty)) : Prop := (∃ s e p, Inv H li s e p) ∧ (∀ q, Sol q li ↔ Sol q l ∧ EqUpto q X Y i) ∧ (∀ f ∈ l, ∃ g ∈ li, g.1 = f.1) ∧ ∀ f ∈ l, f ∈ li ∨ ∃ j x, j < i ∧ X.ar[j]? = some x ∧ ∀ q, Sol q li → tsz (q f.1) ≤ tsz (sub q x)
theorem upto_all {q : Int → Ty} {X Y : Ty} (hX : X.nm.isEmpty = false) (hn : X.nm = Y.nm) (hl : X.ar.length = Y.ar.length) : EqUpto q X Y X.ar.length ↔ sub q X = sub q Y := by
  have hY : Y.nm.isEmpty = false := by rw [← hn]; exact hX
  rw [sub_node _ _ hX, sub_node _ _ hY, hn]
  constructor
  · intro h
    congr 1
    apply List.ext_getElem
    · simp [hl]
    · intro i h1 h2
      simp only [List.getElem_map]
      simp only [List.length_map] at h1 h2
      exact h i h1 _ _ (List.getElem?_eq_getElem h1) (List.getElem?_eq_getElem h2)
  · intro h j hj x y hx hy
    have h1 : X.ar.map (sub q) = Y.ar.map (sub q) := by simpa using h
    have h2 : (X.ar.map (sub q))[j]? = (Y.ar.map (sub q))[j]? := by rw [h1]
    rw [List.getElem?_map, List.getElem?_map, hx, hy] at h2
    simpa using h2
theorem upto_succ {q : Int → Ty} {X Y : Ty} {i : Nat} {x y : Ty} (hx : X.ar[i]? = some x) (hy : Y.ar[i]? = some y) : EqUpto q X Y (i + 1) ↔ EqUpto q X Y i ∧ sub q x = sub q y := by
  constructor
  · intro h
    exact ⟨fun j hj => h j (by omega), h i (by omega) x y hx hy⟩
  · rintro ⟨h1, h2⟩ j hj x' y' hx' hy'
    by_cases e1 : j = i
    · subst e1
      rw [hx] at hx'; rw [hy] at hy'
      cases hx'; cases hy'
      exact h2
    · exact h1 j (by omega) x' y' hx' hy'
section
variable {H : List Int} {l : List (Int × Ty)} {s : Int → Ty} {e : Int → Int} {p : Int → Nat} {a b : Ty}
theorem Inv.sub_root (h : Inv H l s e p) {q : Int → Ty} (hq : Sol q l) (t : Ty) : sub q (rootT e t) = sub q t := by
  unfold rootT
  cases hh : t.nm.isEmpty
  · rfl
  · rw [if_pos rfl, sub_hole, sub_at _ _ hh, ← h.genE hq]
theorem one_early (h : Inv H l s e p) (he : rootT e a = rootT e b) : OneT H l a b l :=
  ⟨⟨s, e, p, h⟩, fun q => ⟨fun hq => ⟨hq, by rw [← h.sub_root hq a, he, h.sub_root hq b]⟩, fun hq => hq.1⟩, fun f hf => ⟨f, hf, rfl⟩, fun f hf => .inl hf⟩
theorem walk_root (h : Inv H l s e p) (t : Ty) : walkT l e (rootT e t) = walkT l e t := by
  unfold rootT walkT
  cases hh : t.nm.isEmpty
  · simp [hh]
  · rw [if_pos rfl]
    show (if ([] : List UInt8).isEmpty then look l (e (e t.n)) else hole (e t.n)) = _
    rw [h.ee]
    rfl
theorem one_bind (h : Inv H l s e p) (ha : ∀ m ∈ hls a, m ∈ H) (hb : ∀ m ∈ hls b, m ∈ H) (hao : allT ok1 a = true) (hbo : allT ok1 b = true) {k : Int} {O : Ty}
    (hx : (walkT l e a = hole k ∧ walkT l e b = O) ∨ (walkT l e b = hole k ∧ walkT l e a = O)) (hk : ∀ f ∈ l, f.1 ≠ k) (hno : k ∉ hls (sub s O)) (hO : O.nm.isEmpty = false ∨ ∃ j, O = hole j ∧ (∀ f ∈ l, f.1 ≠ j) ∧ j < k) : OneT H l a b (l ++ [(k, O)]) := by
  have h1 : k ∈ H ∧ allT ok1 O = true ∧ ∀ m ∈ hls O, m ∈ H := by
    rcases hx with ⟨e1, e2⟩ | ⟨e1, e2⟩
    · exact ⟨by have := h.walkH ha k (by rw [e1, hls_hole]; simp); exact this, by rw [← e2]; exact h.walkO hb hbo, by rw [← e2]; exact h.walkH hb⟩
    · exact ⟨by have := h.walkH hb k (by rw [e1, hls_hole]; simp); exact this, by rw [← e2]; exact h.walkO ha hao, by rw [← e2]; exact h.walkH ha⟩
  refine ⟨h.bind hk h1.1 h1.2.1 h1.2.2 hno hO, fun q => ?_, fun f hf => ⟨f, by simp [hf], rfl⟩, fun f hf => .inl (by simp [hf])⟩
  have h2 : Sol q l → (q k = sub q O ↔ sub q a = sub q b) := fun hq => by
    have g1 := h.walk hq a
    have g2 := h.walk hq b
    rcases hx with ⟨e1, e2⟩ | ⟨e1, e2⟩
    · rw [e1, sub_hole] at g1
      rw [e2] at g2
      rw [g1, g2]
    · rw [e1, sub_hole] at g2
      rw [e2] at g1
      rw [g1, g2]
      exact ⟨fun h => h.symm, fun h => h.symm⟩
  constructor
  · intro hq
    have hq1 : Sol q l := fun f hf => hq f (by simp [hf])
    exact ⟨hq1, (h2 hq1).1 (hq (k, O) (by simp))⟩
  · rintro ⟨hq1, hq2⟩ f hf
    rcases List.mem_append.1 hf with hf | hf
    · exact hq1 f hf
    · obtain rfl := List.mem_singleton.1 hf
      exact (h2 hq1).2 hq2
theorem one_occurs (h : Inv H l s e p) {k : Int} {O : Ty} (hx : (walkT l e a = hole k ∧ walkT l e b = O) ∨ (walkT l e b = hole k ∧ walkT l e a = O)) (hO : O.nm.isEmpty = false ∨ ∃ j, O = hole j ∧ (∀ f ∈ l, f.1 ≠ j) ∧ j < k) (hin : k ∈ hls (sub s O)) : OneN l a b := by
  intro q hq he
  have g1 := h.walk hq a
  have g2 := h.walk hq b
  have hOn : O.nm.isEmpty = false := by
    rcases hO with h1 | ⟨j, rfl, hj, hjk⟩
    · exact h1
    · rw [sub_hole, h.idl j hj, hls_hole] at hin
      simp at hin
      omega
  refine h.occurs hOn hin hq ?_
  rcases hx with ⟨e1, e2⟩ | ⟨e1, e2⟩
  · rw [e1, sub_hole] at g1
    rw [e2] at g2
    rw [g1, g2, he]
  · rw [e1, sub_hole] at g2
    rw [e2] at g1
    rw [g1, g2, he]
theorem one_clash (h : Inv H l s e p) (hX : (walkT l e a).nm.isEmpty = false) (hY : (walkT l e b).nm.isEmpty = false) (hne : (walkT l e a).nm ≠ (walkT l e b).nm ∨ (walkT l e a).ar.length ≠ (walkT l e b).ar.length) : OneN l a b := by
  intro q hq he
  rw [← h.walk hq a, ← h.walk hq b, sub_node _ _ hX, sub_node _ _ hY] at he
  simp only [Ty.mk.injEq, true_and] at he
  rcases hne with h1 | h1
  · exact h1 he.1
  · have := congrArg List.length he.2
    simp at this
    exact h1 this
theorem loop_start (h : Inv H l s e p) (X Y : Ty) : LoopT H l X Y 0 l :=
  ⟨⟨s, e, p, h⟩, fun q => ⟨fun hq => ⟨hq, fun j hj => by omega⟩, fun hq => hq.1⟩, fun f hf => ⟨f, hf, rfl⟩, fun f hf => .inl hf⟩
theorem loop_step {X Y : Ty} {i : Nat} {li l' : List (Int × Ty)} {x y : Ty} (hL : LoopT H l X Y i li) (hx : X.ar[i]? = some x) (hy : Y.ar[i]? = some y) (hO : OneT H li x y l') : LoopT H l X Y (i + 1) l' := by
  obtain ⟨_, h2, h3, h4⟩ := hL
  obtain ⟨g1, g2, g3, g4⟩ := hO
  refine ⟨g1, fun q => ?_, fun f hf => ?_, fun f hf => ?_⟩
  · rw [g2, h2, upto_succ hx hy, and_assoc]
  · obtain ⟨g, hg, e1⟩ := h3 f hf
    obtain ⟨g', hg', e2⟩ := g3 g hg
    exact ⟨g', hg', e2.trans e1⟩
  · rcases h4 f hf with h5 | ⟨j, x', hj, hx', h5⟩
    · rcases g4 f h5 with h6 | h6
      · exact .inl h6
      · exact .inr ⟨i, x, by omega, hx, h6⟩
    · exact .inr ⟨j, x', by omega, hx', fun q hq => h5 q ((g2 q).1 hq).1⟩
theorem loop_none (h : Inv H l s e p) {X Y : Ty} {i : Nat} {li : List (Int × Ty)} {x y : Ty} (hXe : walkT l e a = X) (hYe : walkT l e b = Y) (hX : X.nm.isEmpty = false) (hn : X.nm = Y.nm) (hl : X.ar.length = Y.ar.length) (hi : i < X.ar.length) (hL : LoopT H l X Y i li) (hx : X.ar[i]? = some x) (hy : Y.ar[i]? = some y) (hN : OneN li x y) : OneN l a b := by
  intro q hq he
  rw [← h.walk hq a, ← h.walk hq b, hXe, hYe] at he
  have h1 := (upto_all hX hn hl).2 he
  refine hN q ((hL.2.1 q).2 ⟨hq, fun j hj => h1 j (by omega)⟩) ?_
  exact h1 i hi x y hx hy
theorem loop_meas (h : Inv H l s e p) {X Y : Ty} {i : Nat} {li : List (Int × Ty)} {s' : Int → Ty} {e' : Int → Int} {p' : Int → Nat} (ha : ∀ m ∈ hls a, m ∈ H) (hXe : walkT l e a = X) (hL : LoopT H l X Y i li) (h' : Inv H li s' e' p') {x : Ty} (hX : X.nm.isEmpty = false) (hx : X.ar[i]? = some x) : openN H li < openN H l ∨ (openN H li = openN H l ∧ tsz (sub s' x) < tsz (sub s a)) := by
  have h1 := openN_le (H := H) hL.2.2.1
  rcases Nat.lt_or_ge (openN H li) (openN H l) with h2 | h2
  · exact .inl h2
  · have h3 : openN H li = openN H l := by omega
    refine .inr ⟨h3, ?_⟩
    have hmem := List.mem_of_getElem? hx
    have hxH : ∀ m ∈ hls x, m ∈ H := fun m hm => h.walkH ha m (by rw [hXe, hls_node _ hX]; exact List.mem_flatMap.2 ⟨x, hmem, hm⟩)
    rw [h.same h' ((hL.2.1 s').1 h'.sol).1 (openN_eq hL.2.2.1 h3) hxH, ← h.walk h.sol a, hXe]
    exact tsz_kid_lt (by rw [sub_node _ _ hX]; exact List.mem_map_of_mem hmem)
theorem loop_end (h : Inv H l s e p) {X Y : Ty} {li : List (Int × Ty)} (hXe : walkT l e a = X) (hYe : walkT l e b = Y) (hX : X.nm.isEmpty = false) (hn : X.nm = Y.nm) (hl : X.ar.length = Y.ar.length) (hL : LoopT H l X Y X.ar.length li) : OneT H l a b li := by
  obtain ⟨h1, h2, h3, h4⟩ := hL
  have hs : ∀ q, Sol q li ↔ Sol q l ∧ sub q a = sub q b := fun q => by
    rw [h2, upto_all hX hn hl]
    constructor
    · rintro ⟨g1, g2⟩
      exact ⟨g1, by rw [← h.walk g1 a, ← h.walk g1 b, hXe, hYe]; exact g2⟩
    · rintro ⟨g1, g2⟩
      exact ⟨g1, by rw [← hXe, ← hYe, h.walk g1 a, h.walk g1 b]; exact g2⟩
  refine ⟨h1, hs, h3, fun f hf => ?_⟩
  rcases h4 f hf with h5 | ⟨j, x, hj, hx, h5⟩
  · exact .inl h5
  · refine .inr fun q hq => Nat.le_trans (h5 q hq) ?_
    have hq1 := ((hs q).1 hq).1
    rw [← h.walk hq1 a, hXe]
    exact Nat.le_of_lt (tsz_kid_lt (by rw [sub_node _ _ hX]; exact List.mem_map_of_mem (List.mem_of_getElem? hx)))
theorem loop_turn (h : Inv H l s e p) {X Y : Ty} {li : List (Int × Ty)} (ha : ∀ m ∈ hls a, m ∈ H) (hb : ∀ m ∈ hls b, m ∈ H) (hXe : walkT l e a = X) (hYe : walkT l e b = Y) (hX : X.nm.isEmpty = false) (hn : X.nm = Y.nm) (hl : X.ar.length = Y.ar.length) (hah : a.nm.isEmpty = true) (hbh : b.nm.isEmpty = true) (hne : e a.n ≠ e b.n) (hL : LoopT H l X Y X.ar.length li) {l' : List (Int × Ty)} (hl' : l' = li.map fun f => if f.1 = e a.n then (e a.n, hole (e b.n)) else f) : OneT H l a b l' := by
  have hY : Y.nm.isEmpty = false := by rw [← hn]; exact hX
  have hT := loop_end h hXe hYe hX hn hl hL
  obtain ⟨⟨s', e', p', h'⟩, t2, t3, t4⟩ := hT
  have hfact : ∀ (t Z : Ty), t.nm.isEmpty = true → walkT l e t = Z → Z.nm.isEmpty = false → (e t.n, Z) ∈ l := by
    intro t Z ht hz hzn
    unfold walkT at hz
    rw [if_pos ht] at hz
    rcases look_cases (l := l) (e t.n) with ⟨g, hg, e1, e2⟩ | ⟨_, e2⟩
    · rw [e2] at hz
      rw [← e1, ← hz]
      exact hg
    · rw [e2] at hz
      rw [← hz] at hzn
      cases hzn
  have hvl := hfact a X hah hXe hX
  have hwl := hfact b Y hbh hYe hY
  have hs'l := ((t2 s').1 h'.sol)
  have hkeep : ∀ (k : Int) (Z : Ty), (k, Z) ∈ l → (∀ (j : Nat) (x : Ty), X.ar[j]? = some x → ∀ q, Sol q li → tsz (sub q x) < tsz (q k)) → (k, Z) ∈ li := by
    intro k Z hk hlt
    rcases hL.2.2.2 (k, Z) hk with h5 | ⟨j, x, hj, hx, h5⟩
    · exact h5
    · have g1 := h5 s' h'.sol
      have g2 := hlt j x hx s' h'.sol
      exact absurd g2 (by show ¬ tsz (sub s' x) < tsz (s' k); have g3 : tsz (s' k) ≤ tsz (sub s' x) := g1; omega)
  have hltX : ∀ (j : Nat) (x : Ty), X.ar[j]? = some x → ∀ q, Sol q li → tsz (sub q x) < tsz (sub q X) := fun j x hx q hq => tsz_kid_lt (by rw [sub_node _ _ hX]; exact List.mem_map_of_mem (List.mem_of_getElem? hx))
  have heqXY : ∀ q, Sol q li → sub q X = sub q Y := fun q hq => (upto_all hX hn hl).1 ((hL.2.1 q).1 hq).2
  have hv : (e a.n, X) ∈ li := hkeep _ _ hvl fun j x hx q hq => by
    have := ((hL.2.1 q).1 hq).1 _ hvl
    show tsz (sub q x) < tsz (q (e a.n))
    rw [show q (e a.n) = sub q X from this]
    exact hltX j x hx q hq
  have hw : (e b.n, Y) ∈ li := hkeep _ _ hwl fun j x hx q hq => by
    have := ((hL.2.1 q).1 hq).1 _ hwl
    show tsz (sub q x) < tsz (q (e b.n))
    rw [show q (e b.n) = sub q Y from this, ← heqXY q hq]
    exact hltX j x hx q hq
  have hew : e' (e b.n) = e b.n := h'.fin _ fun f hf e1 => by rw [h'.uniq hf hw e1]; exact hY
  have hwH : e b.n ∈ H := (h.last b.n).2.2 (hb _ (by rw [hls_at _ hbh]; simp))
  have hss : s' (e a.n) = s' (e b.n) := by
    rw [show s' (e a.n) = sub s' X from h'.fixd _ hv, show s' (e b.n) = sub s' Y from h'.fixd _ hw]
    exact heqXY s' h'.sol
  obtain ⟨⟨e2, p2, hI⟩, hS⟩ := h'.turn hv hX hew hwH hne hss hl'
  refine ⟨⟨s', e2, p2, hI⟩, fun q => by rw [hS]; exact t2 q, fun f hf => ?_, fun f hf => ?_⟩
  · obtain ⟨g, hg, e1⟩ := t3 f hf
    refine ⟨if g.1 = e a.n then (e a.n, hole (e b.n)) else g, by rw [hl']; exact List.mem_map_of_mem hg, ?_⟩
    rw [← e1]
    split
    · rename_i h6; exact h6.symm
    · rfl
  · rcases t4 f hf with h5 | h5
    · by_cases h6 : f.1 = e a.n
      · refine .inr fun q hq => ?_
        have hq1 := ((t2 q).1 ((hS q).1 hq)).1
        rw [h6, sub_at _ _ hah, h.genE hq1 a.n]
        exact Nat.le_refl _
      · exact .inl (by rw [hl']; exact List.mem_map.2 ⟨f, h5, by simp [h6]⟩)
    · exact .inr fun q hq => h5 q ((hS q).1 hq)
end
end Go.Proofs.YteoflpalmckikaaDoor
