/-
  FACTS IN A ROW, one more at a time; the least numbers of the web's places; which holes are laid.
-/
import Derived.Test.YteoflpalmckikaaDoorGrowP
import Derived.Test.YteoflpalmckikaaDoorApplyP
namespace Go.Proofs.YteoflpalmckikaaDoor
open Go.RowKit
set_option linter.unusedVariables false
set_option linter.unusedSimpArgs false
theorem info34 : (Tryd.prog.info? 34).map (fun i => (i.zero, i.size, i.bytes)) = some (some (.agg #[.int .i64 0, .string ⟨#[]⟩, .int .i64 0, .slice none 0 0]), 4, 56) := by kernel_rfl
def Kd4 (base : Nat) (v : Value) (w : World) (b : Nat) : Prop := base ≤ b ∧ b < w.heap.size ∧ some b ≠ v.ownBlock
def Row4 (base : Nat) (w : World) (v : Value) (l : List (Int × Ty)) : Prop := ∃ L : List (List Value), L.length = l.length ∧ (∀ ds ∈ L, ds.length = 4) ∧ w.ownsRow base 34 4 v l.length L.flatten ∧ ∀ (i : Nat) f, l[i]? = some f → ∃ ds, L[i]? = some ds ∧ FaIn (Kd4 base v w) w f ds
theorem Row4.nil (base : Nat) (w : World) : Row4 base w (.slice none 0 0) [] := ⟨[], rfl, by simp, World.ownsRow_nil _ _ _ _, by simp⟩
theorem Row4.keep {base : Nat} {w w' : World} {v : Value} {l : List (Int × Ty)} (h : Row4 base w v l) (k : KP (fun b => base ≤ b ∧ b < w.heap.size) w w') : Row4 base w' v l := by
  obtain ⟨L, h1, h2, h3, h5⟩ := h
  refine ⟨L, h1, h2, row_keep h3 (fun g hg hl => k.block g ⟨(row_own h3 hg).1, hl⟩), fun i t ht => ?_⟩
  obtain ⟨ds, e1, e2⟩ := h5 i t ht
  exact ⟨ds, e1, FaIn.keep (k.mono fun b hb => ⟨hb.1, hb.2.1⟩) (fun b hb => ⟨hb.1, Nat.lt_of_lt_of_le hb.2.1 k.size, hb.2.2⟩) _ _ e2⟩
theorem Row4.slice {base : Nat} {w : World} {v : Value} {l : List (Int × Ty)} (h : Row4 base w v l) : ∃ p c, v = .slice p l.length c ∧ SlOK p l.length c := by
  obtain ⟨L, h1, h2, h3, h5⟩ := h
  rcases h3 with ⟨e1, ⟨e2, e3⟩ | ⟨g, cap, cur, hv, hb, hg, r1, r2, r⟩⟩
  · exact ⟨none, 0, by rw [e3]; exact e2, by omega, by omega, fun _ => rfl⟩
  · exact ⟨_, _, hv, r1, r2, fun h => by cases h⟩
theorem flat_at4 {L : List (List Value)} (h : ∀ ds ∈ L, ds.length = 4) {i : Nat} {ds : List Value} (hi : L[i]? = some ds) {j : Nat} {d : Value} (hj : ds[j]? = some d) : L.flatten[i * 4 + j]? = some d := by
  induction L generalizing i with
  | nil => simp at hi
  | cons a r ih =>
    have ha := h a (by simp)
    rw [List.flatten_cons]
    cases i with
    | zero =>
      simp at hi
      subst hi
      rw [List.getElem?_append_left (by have := (List.getElem?_eq_some_iff.1 hj).1; omega)]
      simpa using hj
    | succ i =>
      rw [List.getElem?_append_right (by omega), ha]
      have := ih (fun ds hd => h ds (by simp [hd])) (i := i) (by simpa using hi)
      rw [show (i + 1) * 4 + j - 4 = i * 4 + j by omega]
      exact this
theorem Row4.rm {base : Nat} {w : World} {p : Option Addr} {c n : Nat} {l : List (Int × Ty)} (h : Row4 base w (.slice p n c) l) : RM 4 (New base w.heap.size) w (FaIn (New base w.heap.size) w) p l := by
  obtain ⟨L, h1, h2, h3, h5⟩ := h
  cases hl : l with
  | nil => exact .inl rfl
  | cons x r =>
    right
    rw [← hl]
    have hn : 0 < l.length := by rw [hl]; simp
    have h3' := h3
    rcases h3 with ⟨e1, ⟨e2, e3⟩ | ⟨g, cap, cur, hv, hb, hg, r1, r2, r⟩⟩
    · omega
    · cases hv
      refine ⟨g, 0, rfl, ⟨hb, (Array.getElem?_eq_some_iff.1 hg).1⟩, fun i t ht => ?_⟩
      obtain ⟨ds, e5, e6⟩ := h5 i t ht
      refine ⟨ds, h2 ds (List.mem_of_getElem? e5), fun j d hd => ?_, FaIn.keep (KP.refl _ w) (fun b hb => ⟨hb.1, hb.2.1⟩) _ _ e6⟩
      have := row_cell h3' (flat_at4 h2 e5 hd)
      rw [Nat.zero_add]
      exact this
theorem FaIn.four {P : Nat → Prop} {w : World} {f : Int × Ty} {ds : List Value} (h : FaIn P w f ds) : ds.length = 4 ∧ ∀ u ∈ ds, u.oneCell' = true := by
  obtain ⟨es, rfl, _, h2⟩ := h
  obtain ⟨a, b⟩ := h2.three
  exact ⟨by simp [a], fun u hu => by
    rcases List.mem_cons.1 hu with rfl | hu
    · rfl
    · exact b u hu⟩
theorem Row4.push {base : Nat} {W0 W W1 : World} {v : Value} {l : List (Int × Ty)} {t : Int × Ty} {ds : List Value} {g cap : Nat} {L : List (List Value)} (h1 : L.length = l.length) (h2 : ∀ ds ∈ L, ds.length = 4) (h5 : ∀ (i : Nat) t, l[i]? = some t → ∃ ds, L[i]? = some ds ∧ FaIn (Kd4 base v W0) W0 t ds) (hb0 : KP (fun b => base ≤ b ∧ b < W0.heap.size) W0 W) (ht : FaIn (New W0.heap.size W.heap.size) W t ds) (hbase : base ≤ W0.heap.size)
    (hlt : ∀ r, v.ownBlock = some r → r < W0.heap.size) (hown : W1.ownsRow base 34 4 (.slice (some ⟨g, 0, none⟩) (l.length + 1) cap) (l.length + 1) (L.flatten ++ ds)) (hgr : (W.alloc (.cells ds.toArray 34)).grownBy W1 v.ownBlock) (hat : v.ownBlock = some g ∨ g = W.heap.size + 1) :
    Row4 base W1 (.slice (some ⟨g, 0, none⟩) (l ++ [t]).length cap) (l ++ [t]) := by
  have hlen : (l ++ [t]).length = l.length + 1 := by simp
  have hk : KP (fun b => b < W.heap.size ∧ some b ≠ v.ownBlock) W W1 :=
    (KP.alloc W _ fun b hb => hb.1).trans (KP.of_grown hgr fun b hb => ⟨by simp; omega, hb.2⟩)
  have hsz : W.heap.size + 1 ≤ W1.heap.size := by have := hgr.size; simp at this ⊢; omega
  refine ⟨L ++ [ds], by simp [h1], ?_, ?_, ?_⟩
  · intro d hd
    rcases List.mem_append.1 hd with hd | hd
    · exact h2 d hd
    · simp at hd; rw [hd]; exact ht.four.1
  · rw [hlen, List.flatten_append]
    simp only [List.flatten_cons, List.flatten_nil, List.append_nil]
    exact hown
  · intro i s hs
    have hne : ∀ b, some b ≠ v.ownBlock → b < W.heap.size → g ≠ b := by
      intro b hb hl e
      rcases hat with h | h
      · rw [e] at h; exact hb h.symm
      · omega
    rcases Nat.lt_trichotomy i l.length with hi | hi | hi
    · rw [List.getElem?_append_left hi] at hs
      obtain ⟨d, e1, e2⟩ := h5 i s hs
      refine ⟨d, by rw [List.getElem?_append_left (by omega)]; exact e1, ?_⟩
      have k1 : KP (Kd4 base v W0) W0 W1 := (hb0.mono fun b (hb : Kd4 base v W0 b) => ⟨hb.1, hb.2.1⟩).trans (hk.mono fun b hb => ⟨Nat.lt_of_lt_of_le hb.2.1 hb0.size, hb.2.2⟩)
      refine FaIn.keep k1 (fun b hb => ⟨hb.1, Nat.lt_of_lt_of_le hb.2.1 k1.size, fun e => ?_⟩) _ _ e2
      have e' : b = g := by simpa [Value.ownBlock] using e
      exact hne b hb.2.2 (Nat.lt_of_lt_of_le hb.2.1 hb0.size) e'.symm
    · subst hi
      simp at hs
      subst hs
      refine ⟨ds, by rw [← h1]; simp, ?_⟩
      have k1 : KP (New W0.heap.size W.heap.size) W W1 := hk.mono fun b hb => ⟨hb.2, fun e => by have := hlt b e.symm; have := hb.1; omega⟩
      refine FaIn.keep k1 (fun b hb => ⟨Nat.le_trans hbase hb.1, by have := hb.2; omega, fun e => ?_⟩) _ _ ht
      have e' : b = g := by simpa [Value.ownBlock] using e
      exact hne b (fun e2 => by have := hlt b e2.symm; have := hb.1; omega) hb.2 e'.symm
    · rw [List.getElem?_append_right (by omega)] at hs
      have hz : i - l.length ≠ 0 := by omega
      obtain ⟨k, hk'⟩ : ∃ k, i - l.length = k + 1 := ⟨i - l.length - 1, by omega⟩
      rw [hk'] at hs
      simp at hs
section
variable {D B hB fB lB : Nat} {v : Value} {ties : List Nat} {hp : Int → Option Nat} {fc : Nat → Option Shp} {le : Nat → Option Int} {w w' : World}
def updL (f : Nat → Option Int) (i : Nat) (m : Int) : Nat → Option Int := fun j => if j = i then some m else f j
theorem WM.low {m : Int} {i : Nat} {lv : Int → Option Value} (h : WM D B hB fB lB v ties hp fc le w) (l1 : MapI w lB lv) (l2 : ∀ i : Nat, lv i = (le i).map (.int .i64 ·)) (hs : Stored w lB w') (hm : MapI w' lB (updV lv (i : Nat) (.int .i64 m))) : WM D B hB fB lB v ties hp fc (updL le i m) w' ∧ KP (fun b => Wk B hB fB lB v w b ∨ b = fB) w w' := by
  obtain ⟨fv, f1, f2, f3⟩ := h.fac
  have k := hs.ktail
  have hrow : some lB ≠ v.ownBlock := l1.row_ne h.row
  refine ⟨⟨h.base, h.ne, (k B h.cell.lt (l1.ne h.cell).symm).trans h.cell, row_keep h.row fun g hg hl => k g hl fun e => hrow (by rw [← e, hg]), h.hol.keep (k hB h.hol.lt h.ne.2.1), ⟨fv, f1.keep (k fB f1.lt h.ne.2.2), fun j s hj => ?_, f3⟩, ⟨_, hm, fun j => ?_⟩, h.few⟩, ⟨hs.1.os, hs.1.tape, hs.1.output, hs.1.size, fun b hb => k b (hb.elim (fun x => x.1) (fun x => by rw [x]; exact f1.lt)) (hb.elim (fun x => x.2.2.2.2.1) (fun x => by rw [x]; exact h.ne.2.2))⟩⟩
  · obtain ⟨x, e1, e2⟩ := f2 j s hj
    refine ⟨x, e1, e2.keep fun g hg hl hC => k g hl fun e => ?_⟩
    subst e
    obtain ⟨C, hC⟩ := hC
    obtain ⟨es, cl, hb, _⟩ := l1
    rw [hC] at hb
    cases hb
  · unfold updL
    split
    · rename_i e
      rw [e, updV_at]
      rfl
    · rename_i e
      rw [updV_ne _ _ (by omega)]
      exact l2 j
end
/-- The least number at each place that tells, of some rising numbers. -/
def leaF (hp : Int → Option Nat) (ro : Nat → Nat) (l : List Int) : Nat → Option Int := fun i => l.find? fun m => (hp m).map ro == some i
section
variable {hp : Int → Option Nat} {ro : Nat → Nat} {l : List Int} {m : Int} {j : Nat}
theorem leaF_old {x : Int} (hm : hp m = some j) (h : leaF hp ro l (ro j) = some x) : leaF hp ro (l ++ [m]) = leaF hp ro l := by
  funext i
  unfold leaF at *
  rw [List.find?_append]
  by_cases e : ro j = i
  · subst e; rw [h]; rfl
  · have : ([m].find? fun m => (hp m).map ro == some i) = none := by simp [hm, e]
    rw [this, Option.or_none]
theorem leaF_new (hm : hp m = some j) (h : leaF hp ro l (ro j) = none) : leaF hp ro (l ++ [m]) = updL (leaF hp ro l) (ro j) m := by
  funext i
  unfold updL
  unfold leaF at *
  rw [List.find?_append]
  split
  · rename_i e
    subst e
    rw [h]
    simp [hm]
  · rename_i e
    have : ([m].find? fun m => (hp m).map ro == some i) = none := by simp [hm]; exact fun h => e h.symm
    rw [this, Option.or_none]
theorem leaF_low {ns : List Int} (hr : ns.Pairwise fun a b => a < b) {i : Nat} (hm : hp m = some i) (hmn : m ∈ ns) : ∃ k, leaF hp ro ns (ro i) = some k ∧ k ≤ m ∧ k ∈ ns ∧ ∃ j, hp k = some j ∧ ro j = ro i := by
  have hpm : ((hp m).map ro == some (ro i)) = true := by simp [hm]
  cases hf : ns.find? fun m => (hp m).map ro == some (ro i) with
  | none =>
    have := List.find?_eq_none.1 hf m hmn
    exact absurd hpm this
  | some k =>
    obtain ⟨hk, ps, qs, e, hno⟩ := List.find?_eq_some_iff_append.1 hf
    have hkm : k ∈ ns := by rw [e]; simp
    refine ⟨k, hf, ?_, hkm, ?_⟩
    · rw [e] at hmn hr
      rcases List.mem_append.1 hmn with h1 | h1
      · have := hno m h1
        rw [hpm] at this
        cases this
      · rcases List.mem_cons.1 h1 with h1 | h1
        · exact Int.le_of_eq h1.symm
        · have := (List.pairwise_cons.1 (List.pairwise_append.1 hr).2.1).1 m h1
          omega
    · cases hh : hp k with
      | none => rw [hh] at hk; cases hk
      | some j =>
        rw [hh] at hk
        exact ⟨j, rfl, by simpa using hk⟩
end
/-- Holes that are laid are holes of what is laid. -/
theorem lay_hls (t : Ty) : ∀ (st : LS) m i, (lay t st).2.hp m = some i → (∃ k, st.hp m = some k) ∨ m ∈ hls t := by
  induction t using Ty.ind with
  | _ t ih =>
    intro st m i
    rw [lay_eq]
    unfold layF
    by_cases hn : t.nm.isEmpty = true
    · rw [if_pos hn]
      cases hh : st.hp t.n with
      | some j => exact fun h => .inl ⟨i, h⟩
      | none =>
        intro h
        have h' : updI st.hp t.n st.tm.length m = some i := h
        unfold updI at h'
        split at h'
        · rename_i e
          right
          rw [hls_eq, if_pos hn, e]
          exact List.mem_singleton.2 rfl
        · exact .inl ⟨i, h'⟩
    · rw [if_neg hn]
      have key : ∀ (l : List Ty), (∀ k ∈ l, k ∈ t.ar) → ∀ (acc : List Nat × LS), (layL (l.map fun k => (k, lay k)) acc).2.hp m = some i → (∃ k, acc.2.hp m = some k) ∨ ∃ k ∈ l, m ∈ hls k := by
        intro l
        induction l with
        | nil => exact fun _ acc h => .inl ⟨i, h⟩
        | cons k r ihr =>
          intro hl acc h
          rcases ihr (fun q hq => hl q (List.mem_cons_of_mem _ hq)) (acc.1 ++ [(lay k acc.2).1], (lay k acc.2).2) h with ⟨q, h1⟩ | ⟨q, h1, h2⟩
          · rcases ih k (hl k List.mem_cons_self) acc.2 m q h1 with h3 | h3
            · exact .inl h3
            · exact .inr ⟨k, List.mem_cons_self, h3⟩
          · exact .inr ⟨q, List.mem_cons_of_mem _ h1, h2⟩
      intro h
      rcases key t.ar (fun _ h => h) ([], LS.mk (st.tm ++ [t]) st.sh st.hp) h with h1 | ⟨k, h1, h2⟩
      · exact .inl h1
      · right
        have hn' : t.nm.isEmpty = false := by simpa using hn
        rw [hls_node t hn']
        exact List.mem_flatMap.2 ⟨k, h1, h2⟩
/-- All holes of what is laid, one by one. -/
theorem hole_list {sh : Nat → Option Shp} {tm : Nat → Ty} {hp : Int → Option Nat} {n : Nat} (h : Laid sh tm hp n) : ∃ l : List Int, l.Nodup ∧ (∀ m, m ∈ l ↔ ∃ i, hp m = some i) ∧ l.length ≤ n := by
  refine ⟨(List.range n).filterMap fun i => if (sh i).isNone then some (tm i).n else none, ?_, fun m => ?_, Nat.le_trans (List.length_filterMap_le _ _) (by simp)⟩
  · unfold List.Nodup
    rw [List.pairwise_filterMap]
    refine (List.nodup_range (n := n)).imp_of_mem fun {a b} ha hb hne x hx y hy e => ?_
    have ha' := List.mem_range.1 ha
    have hb' := List.mem_range.1 hb
    split at hx
    · rename_i h1
      split at hy
      · rename_i h2
        cases hx
        cases hy
        obtain ⟨m, m1, m2⟩ := h.leaf a ha' (by simpa using h1)
        obtain ⟨k, k1, k2⟩ := h.leaf b hb' (by simpa using h2)
        rw [m1, k1] at e
        have e' : m = k := e
        rw [e', k2] at m2
        exact hne (Option.some.inj m2).symm
      · cases hy
    · cases hx
  · rw [List.mem_filterMap]
    constructor
    · rintro ⟨i, hi, hx⟩
      split at hx
      · rename_i h1
        cases hx
        obtain ⟨m, m1, m2⟩ := h.leaf i (List.mem_range.1 hi) (by simpa using h1)
        rw [m1]
        exact ⟨i, m2⟩
      · cases hx
    · rintro ⟨i, hi⟩
      obtain ⟨h1, h2, h3, _⟩ := h.spot m i hi
      refine ⟨i, List.mem_range.2 h1, ?_⟩
      rw [if_pos (by rw [h2]; rfl), h3]
      rfl
end Go.Proofs.YteoflpalmckikaaDoor
