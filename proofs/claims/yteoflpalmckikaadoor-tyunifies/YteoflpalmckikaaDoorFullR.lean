/-
  LISTS OF FACTS THAT ARE MADE OUT OF OTHERS: append of what another slice holds.
  THE WALK OF dawdlerref08's same: another type told of a hole.
  THE WALK OF dawdlerref08's Full.
-/
import Derived.Test.YteoflpalmckikaaDoorRootW
import Derived.Test.YteoflpalmckikaaDoorRowF
import Derived.Laws.OwnMore
namespace Go.Proofs.YteoflpalmckikaaDoor
open Go.RowKit
set_option linter.unusedVariables false
set_option linter.unusedSimpArgs false
/-- A list of facts that was made; its types lie in blocks of P. -/
def RowO (P : Nat → Prop) (base : Nat) (W : World) (v : Value) (l : List (Int × Ty)) : Prop := ∃ L : List (List Value), L.length = l.length ∧ (∀ ds ∈ L, ds.length = 4) ∧ W.ownsRow base 34 4 v l.length L.flatten ∧ ∀ (i : Nat) f, l[i]? = some f → ∃ ds, L[i]? = some ds ∧ FaIn P W f ds
theorem RowO.new (P : Nat → Prop) (base : Nat) (W : World) (h : base ≤ W.heap.size) : RowO P base (W.alloc (.cells #[] 34)) (.slice (some ⟨W.heap.size, 0, none⟩) 0 0) [] :=
  ⟨[], rfl, by simp, ⟨rfl, .inr ⟨W.heap.size, 0, #[], rfl, h, Hold.new W #[] 34, Nat.le_refl _, Nat.zero_le _, rfl, rfl⟩⟩, by simp⟩
theorem RowO.keep {P : Nat → Prop} {base : Nat} {w w' : World} {v : Value} {l : List (Int × Ty)} (hP : ∀ b, P b → b < w.heap.size) (h : RowO P base w v l) (k : Below w.heap.size w w') : RowO P base w' v l := by
  obtain ⟨L, h1, h2, h3, h4⟩ := h
  refine ⟨L, h1, h2, row_keep h3 fun g _ hg => k.block g hg, fun i f hf => ?_⟩
  obtain ⟨ds, e1, e2⟩ := h4 i f hf
  exact ⟨ds, e1, FaIn.keep (KP.of_below k hP) (fun b hb => hb) _ _ e2⟩
theorem RowO.slice {P : Nat → Prop} {base : Nat} {w : World} {v : Value} {l : List (Int × Ty)} (h : RowO P base w v l) : ∃ p c, v = .slice p l.length c ∧ SlOK p l.length c := by
  obtain ⟨L, h1, h2, h3, h4⟩ := h
  rcases h3 with ⟨e1, ⟨e2, e3⟩ | ⟨g, cap, cur, hv, hb, hg, r1, r2, r⟩⟩
  · exact ⟨none, 0, by rw [e3]; exact e2, by omega, by omega, fun _ => rfl⟩
  · exact ⟨_, _, hv, r1, r2, fun h => by cases h⟩
theorem RowO.own {P : Nat → Prop} {base : Nat} {w : World} {v : Value} {l : List (Int × Ty)} (h : RowO P base w v l) : ∀ r, v.ownBlock = some r → base ≤ r ∧ r < w.heap.size := by
  obtain ⟨L, h1, h2, h3, h4⟩ := h
  exact World.ownsRow.lt h3
theorem RowO.rm {P Q : Nat → Prop} {base : Nat} {w : World} {p : Option Addr} {c n : Nat} {l : List (Int × Ty)} (h : RowO P base w (.slice p n c) l) (hP : ∀ b, P b → Q b) (hQ : ∀ b, base ≤ b → b < w.heap.size → Q b) : RM 4 Q w (FaIn Q w) p l := by
  obtain ⟨L, h1, h2, h3, h4⟩ := h
  cases hl : l with
  | nil => exact .inl rfl
  | cons x r =>
    right
    rw [← hl]
    have hn : 0 < l.length := by rw [hl]; simp
    have h3' := h3
    rcases h3 with ⟨e1, ⟨e2, e3⟩ | ⟨g, cap, cur, hv, hb, hg, r1, r2, r⟩⟩
    · omega
    · cases hv
      refine ⟨g, 0, rfl, hQ g hb (Array.getElem?_eq_some_iff.1 hg).1, fun i t ht => ?_⟩
      obtain ⟨ds, e5, e6⟩ := h4 i t ht
      refine ⟨ds, h2 ds (List.mem_of_getElem? e5), fun j d hd => ?_, FaIn.keep (KP.refl _ w) hP _ _ e6⟩
      have := row_cell h3' (flat_at4 h2 e5 hd)
      rw [Nat.zero_add]
      exact this
/-- The cells of a list of facts in memory. -/
theorem rm_cells {P Q : Nat → Prop} {w : World} {p : Option Addr} {l : List (Int × Ty)} (h : RM 4 Q w (FaIn P w) p l) : ∃ L : List (List Value), L.length = l.length ∧ (∀ ds ∈ L, ds.length = 4 ∧ ∀ u ∈ ds, u.oneCell' = true) ∧ (∀ (i : Nat) f, l[i]? = some f → ∃ ds, L[i]? = some ds ∧ FaIn P w f ds) ∧ ∀ ad, p = some ad → ∀ j u, L.flatten[j]? = some u → w.cell? (ad.add j) = some u := by
  rcases h with rfl | ⟨b, o, rfl, hb, hm⟩
  · exact ⟨[], rfl, by simp, by simp, by simp⟩
  · have hx : ∀ i : Nat, ∃ ds : List Value, ∀ f, l[i]? = some f → ds.length = 4 ∧ (∀ j d, ds[j]? = some d → w.cell? ⟨b, o + i * 4 + j, none⟩ = some d) ∧ FaIn P w f ds := by
      intro i
      cases hi : l[i]? with
      | none => exact ⟨[], by simp⟩
      | some f =>
        obtain ⟨ds, e1, e2, e3⟩ := hm i f hi
        exact ⟨ds, fun g hg => by cases hg; exact ⟨e1, e2, e3⟩⟩
    obtain ⟨g, hg⟩ := Classical.axiomOfChoice hx
    have hat : ∀ i, i < l.length → ((List.range l.length).map g)[i]? = some (g i) := fun i hi => by simp [hi]
    have h4 : ∀ ds ∈ (List.range l.length).map g, ds.length = 4 ∧ ∀ u ∈ ds, u.oneCell' = true := by
      intro ds hds
      obtain ⟨i, hi, rfl⟩ := List.mem_map.1 hds
      have hil : i < l.length := by simpa using hi
      obtain ⟨_, _, e3⟩ := hg i l[i] (List.getElem?_eq_getElem hil)
      exact e3.four
    refine ⟨(List.range l.length).map g, by simp, h4, fun i f hf => ?_, fun ad had j u hu => ?_⟩
    · have hil := (List.getElem?_eq_some_iff.1 hf).1
      exact ⟨g i, hat i hil, (hg i f hf).2.2⟩
    · cases had
      have hjl := (List.getElem?_eq_some_iff.1 hu).1
      have hlen : ∀ L : List (List Value), (∀ ds ∈ L, ds.length = 4) → L.flatten.length = L.length * 4 := by
        intro L
        induction L with
        | nil => intro _; rfl
        | cons a r ih =>
          intro h
          rw [List.flatten_cons, List.length_append, ih fun d hd => h d (by simp [hd]), h a (by simp), List.length_cons]
          omega
      rw [hlen _ fun d hd => (h4 d hd).1] at hjl
      simp only [List.length_map, List.length_range] at hjl
      have hq : j / 4 < l.length := by omega
      obtain ⟨e1, e2, _⟩ := hg (j / 4) l[j / 4] (List.getElem?_eq_getElem hq)
      have hr : j % 4 < (g (j / 4)).length := by omega
      have e4 := flat_at4 (fun d hd => (h4 d hd).1) (hat (j / 4) hq) (List.getElem?_eq_getElem hr)
      rw [show j / 4 * 4 + j % 4 = j by omega, hu] at e4
      have e5 := e2 (j % 4) _ (List.getElem?_eq_getElem hr)
      have e0 : (⟨b, o, none⟩ : Addr).add j = ⟨b, o + j, none⟩ := by unfold Addr.add; split <;> simp_all
      have e6 : (⟨b, o, none⟩ : Addr).add j = ⟨b, o + j / 4 * 4 + j % 4, none⟩ := by rw [e0, show o + j = o + j / 4 * 4 + j % 4 by omega]
      rw [e6, e5, e4]
theorem none32 (w : World) (ty : TypeId) (pa : Option Addr) (n c : Nat) (h : n ≤ c) : (Builtin.append_ #[32, 32] ty #[.slice pa n c, .slice none 0 0]).run Tryd.prog w = .ok (.slice pa n c) w := by
  have h22 := Tryd.underlying32
  have z5 := Tryd.sizeOf34
  cases pa with
  | none => simp [Builtin.append_, run_underlying h22, z5, Builtin.lenOf, Builtin.firstCells, h]
  | some a => simp [Builtin.append_, run_underlying h22, z5, Builtin.lenOf, Builtin.firstCells, h, storeCells]
/-- append(xs, ys...) of facts. -/
theorem run_spreadF {P Q : Nat → Prop} {W : World} {base : Nat} (ty : TypeId) {pa : Option Addr} {cp : Nat} {lo : List (Int × Ty)} (hR : RowO P base W (.slice pa lo.length cp) lo) {p : Option Addr} {c : Nat} {l : List (Int × Ty)} (hM : RM 4 Q W (FaIn P W) p l) (hc : p = none → c = 0) (hb : lo.length + l.length ≤ 1000000) (hbase : base ≤ W.heap.size) (hP : ∀ b, P b → b < base) :
    ∃ pa' cp' W', (Builtin.append_ #[32, 32] ty #[.slice pa lo.length cp, .slice p l.length c]).run Tryd.prog W = .ok (.slice pa' (lo.length + l.length) cp') W' ∧ RowO P base W' (.slice pa' (lo.length + l.length) cp') (lo ++ l) ∧ Below base W W' ∧ W.grownBy W' (Value.slice pa lo.length cp).ownBlock := by
  obtain ⟨i0, hi, hz0, hz1, hz2⟩ := info_parts info34
  obtain ⟨L, k1, k2, k3, k4⟩ := hR
  obtain ⟨N, n1, n2, n3, n4⟩ := rm_cells hM
  have hlen : ∀ L : List (List Value), (∀ ds ∈ L, ds.length = 4) → L.flatten.length = L.length * 4 := by
    intro L
    induction L with
    | nil => intro _; rfl
    | cons a r ih =>
      intro h
      rw [List.flatten_cons, List.length_append, ih fun d hd => h d (by simp [hd]), h a (by simp), List.length_cons]
      omega
  have hone : ∀ u ∈ N.flatten, u.oneCell' = true := fun u hu => by
    obtain ⟨ds, hds, hu⟩ := List.mem_flatten.1 hu
    exact (n2 ds hds).2 u hu
  have fin : ∀ (pa' : Option Addr) (cp' : Nat) (W' : World), W'.ownsRow base 34 4 (.slice pa' (lo.length + l.length) cp') (lo.length + l.length) (L.flatten ++ N.flatten) → W.grownBy W' (Value.slice pa lo.length cp).ownBlock → RowO P base W' (.slice pa' (lo.length + l.length) cp') (lo ++ l) ∧ Below base W W' := by
    intro pa' cp' W' h1 h2
    have hbl := below_row k3 hbase h2
    refine ⟨⟨L ++ N, by simp [k1, n1], fun ds hd => ?_, by rw [List.flatten_append, List.length_append]; exact h1, fun i f hf => ?_⟩, hbl⟩
    · rcases List.mem_append.1 hd with hd | hd
      · exact k2 ds hd
      · exact (n2 ds hd).1
    · rcases Nat.lt_or_ge i lo.length with hil | hil
      · rw [List.getElem?_append_left hil] at hf
        obtain ⟨ds, e1, e2⟩ := k4 i f hf
        exact ⟨ds, by rw [List.getElem?_append_left (by omega)]; exact e1, FaIn.keep (KP.of_below hbl hP) (fun b hb => hb) _ _ e2⟩
      · rw [List.getElem?_append_right hil] at hf
        obtain ⟨ds, e1, e2⟩ := n3 _ f hf
        exact ⟨ds, by rw [List.getElem?_append_right (by omega), k1]; exact e1, FaIn.keep (KP.of_below hbl hP) (fun b hb => hb) _ _ e2⟩
  cases p with
  | none =>
    have hl0 : l = [] := by
      rcases hM with h | ⟨b, o, h, _⟩
      · exact h
      · cases h
    subst hl0
    have hc0 := hc rfl
    subst hc0
    have hnc : lo.length ≤ cp := by
      rcases k3.2 with ⟨hv, h0⟩ | ⟨g, cap, cur, hv, _, _, h1, _⟩
      · simp only [Value.slice.injEq] at hv; omega
      · simp only [Value.slice.injEq] at hv; omega
    have hN : N = [] := List.length_eq_zero_iff.1 (by rw [n1]; rfl)
    subst hN
    have hg : W.grownBy W (Value.slice pa lo.length cp).ownBlock := ⟨rfl, rfl, rfl, Nat.le_refl _, fun _ _ _ => rfl⟩
    obtain ⟨f1, f2⟩ := fin pa cp W (by simpa using k3) hg
    exact ⟨pa, cp, W, none32 W ty pa lo.length cp hnc, f1, f2, hg⟩
  | some ad =>
    obtain ⟨v', w', hr, h2, h3, _, _⟩ := run_append_own_at (P := Tryd.prog) W base 32 ty 34 i0 _ 4 56 Tryd.underlying32 hi hz0 hz1 hz2 rfl (by omega) (.slice pa lo.length cp) lo.length L.flatten k3 ad l.length c N.flatten (by rw [hlen N fun d hd => (n2 d hd).1, n1]) (n4 ad rfl) hone (by unfold maxLen; omega) (by omega) hbase
    obtain ⟨pa', cp', rfl⟩ := slice_of h2
    obtain ⟨f1, f2⟩ := fin pa' cp' w' h2 h3
    exact ⟨pa', cp', w', hr, f1, f2, h3⟩
/-- .. at the operation. -/
theorem wp_spreadF {P Q : Nat → Prop} {W : World} {o : Oper} {a : Act} {K : Act → World → Prop} {QQ : Exit → Act → World → Prop} (s x : Operand) (ho : o.op = .call { callee := .builtin .append, args := #[s, x], argTypes := #[32, 32] }) {base : Nat} {pa : Option Addr} {cp : Nat} {lo : List (Int × Ty)} {n m : Nat} (hs : a.eval s = .slice pa n cp) (hn : lo.length = n) (hR : RowO P base W (.slice pa n cp) lo) {p : Option Addr} {c : Nat} {l : List (Int × Ty)} (hx : a.eval x = .slice p m c) (hm : l.length = m) (hM : RM 4 Q W (FaIn P W) p l) (hc : p = none → c = 0) (hb : n + m ≤ 1000000) (hbase : base ≤ W.heap.size) (hP : ∀ b, P b → b < base)
    (h : ∀ pa' cp' W', RowO P base W' (.slice pa' (n + m) cp') (lo ++ l) → Below base W W' → W.grownBy W' (Value.slice pa n cp).ownBlock → K (a.put o.dst (.slice pa' (n + m) cp')) W') : o.wp Tryd.prog a W K QQ := by
  subst hn hm
  obtain ⟨pa', cp', W', hr, f1, f2, f3⟩ := run_spreadF (P := P) (Q := Q) o.type hR hM hc hb hbase hP
  unfold Oper.wp execOp
  simp only [ho, resolve, invoke, builtin, Sem.run_bind, Sem.run_pure, Result.andThen_ok, List.map_toArray, List.map_cons, List.map_nil, hs, hx, hr]
  exact h pa' cp' W' f1 f2 f3
/-- .. in a plain region. -/
theorem wpList_spreadF {P Q : Nat → Prop} {W : World} {ops : Array Oper} {rest : List Oper} {o : Oper} {a : Act} {QQ : Exit → Act → World → Prop} (hgd : o.guard = none) (s x : Operand) (ho : o.op = .call { callee := .builtin .append, args := #[s, x], argTypes := #[32, 32] }) {base : Nat} {pa : Option Addr} {cp : Nat} {lo : List (Int × Ty)} {n m : Nat} (hs : a.eval s = .slice pa n cp) (hn : lo.length = n) (hR : RowO P base W (.slice pa n cp) lo) {p : Option Addr} {c : Nat} {l : List (Int × Ty)} (hx : a.eval x = .slice p m c) (hm : l.length = m) (hM : RM 4 Q W (FaIn P W) p l) (hc : p = none → c = 0) (hb : n + m ≤ 1000000) (hbase : base ≤ W.heap.size) (hP : ∀ b, P b → b < base)
    (h : ∀ pa' cp' W', RowO P base W' (.slice pa' (n + m) cp') (lo ++ l) → Below base W W' → W.grownBy W' (Value.slice pa n cp).ownBlock → wpList Tryd.prog ops QQ rest (a.put o.dst (.slice pa' (n + m) cp')) W') : wpList Tryd.prog ops QQ (o :: rest) a W :=
  wpList_plain hgd fun _ hK => wp_spreadF s x ho hs hn hR hx hm hM hc hb hbase hP fun pa' cp' W' h1 h2 h3 => hK _ _ (h pa' cp' W' h1 h2 h3)
/-- One fact's cells that were just laid. -/
theorem rm_new {P : Nat → Prop} (W : World) (f : Int × Ty) {pk : Option Addr} {ck : Nat} (hb : -9223372036854775808 ≤ f.1 ∧ f.1 ≤ 9223372036854775807) (hT : TyIn P W f.2 [.string (S f.2.nm), .int .i64 f.2.n, .slice pk f.2.ar.length ck]) (hP : ∀ b, P b → b < W.heap.size) : RM 4 (fun b => b = W.heap.size) (W.alloc (.cells #[.int .i64 f.1, .string (S f.2.nm), .int .i64 f.2.n, .slice pk f.2.ar.length ck] 34)) (FaIn P (W.alloc (.cells #[.int .i64 f.1, .string (S f.2.nm), .int .i64 f.2.n, .slice pk f.2.ar.length ck] 34))) (some ⟨W.heap.size, 0, none⟩) [f] := by
  refine .inr ⟨W.heap.size, 0, rfl, rfl, fun i g hg => ?_⟩
  cases i with
  | zero =>
    simp at hg
    subst hg
    refine ⟨[.int .i64 f.1, .string (S f.2.nm), .int .i64 f.2.n, .slice pk f.2.ar.length ck], rfl, fun j d hd => ?_, _, rfl, hb, TyIn.keep (KP.alloc W _ hP) (fun b hb => hb) _ _ hT⟩
    rw [show (0 + 0 * 4 + j) = j by omega, (Hold.new W _ 34).cell]
    simpa using hd
  | succ i => simp at hg
end Go.Proofs.YteoflpalmckikaaDoor
namespace Go.Proofs.YteoflpalmckikaaDoor
open Go.RowKit
set_option linter.unusedVariables false
set_option linter.unusedSimpArgs false
/-- A list of facts in memory. -/
def FM (W : World) (v : Value) (l : List (Int × Ty)) : Prop := ∃ p c, v = .slice p l.length c ∧ SlOK p l.length c ∧ RM 4 (fun b => b < W.heap.size) W (FaIn (fun b => b < W.heap.size) W) p l
theorem FM.below {w W : World} {v : Value} {l : List (Int × Ty)} (h : FM w v l) (hb : Below w.heap.size w W) : FM W v l := by
  obtain ⟨p, c, h1, h2, h3⟩ := h
  exact ⟨p, c, h1, h2, RM.keep (KP.of_below hb fun x hx => hx) (fun x hx => Nat.lt_of_lt_of_le hx hb.size) (fun t ds h => FaIn.keep (KP.of_below hb fun x hx => hx) (fun x hx => Nat.lt_of_lt_of_le hx hb.size) t ds h) h3⟩
theorem FM.row {P : Nat → Prop} {base : Nat} {W : World} {p : Option Addr} {c n : Nat} {l : List (Int × Ty)} (h : RowO P base W (.slice p n c) l) (hn : l.length = n) (hP : ∀ b, P b → b < W.heap.size) : FM W (.slice p n c) l := by
  obtain ⟨p', c', h1, h2⟩ := h.slice
  simp only [Value.slice.injEq] at h1
  obtain ⟨rfl, rfl, rfl⟩ := h1
  exact ⟨p, c, rfl, h2, h.rm hP fun b _ hb => hb⟩
theorem set4 (cur : Array Value) (k : Nat) (d0 d1 d2 d3 : Value) (hk : k + 3 < cur.size) (x : Nat) : ((((cur.setIfInBounds k d0).setIfInBounds (k + 1) d1).setIfInBounds (k + 2) d2).setIfInBounds (k + 3) d3)[x]? = if x = k then some d0 else if x = k + 1 then some d1 else if x = k + 2 then some d2 else if x = k + 3 then some d3 else cur[x]? := by
  simp only [Array.getElem?_setIfInBounds, Array.size_setIfInBounds]
  by_cases h0 : x = k
  · subst h0
    simp
    omega
  · by_cases h1 : x = k + 1
    · subst h1
      simp
      omega
    · by_cases h2 : x = k + 2
      · subst h2
        simp
        omega
      · by_cases h3 : x = k + 3
        · subst h3
          simp
          omega
        · rw [if_neg (by omega), if_neg (by omega), if_neg (by omega), if_neg (by omega), if_neg h0, if_neg h1, if_neg h2, if_neg h3]
set_option maxHeartbeats 4000000 in
set_option maxRecDepth 100000 in
theorem rsameF_any {l : List (Int × Ty)} (hnd : (l.map fun f => f.1).Nodup) (hll : l.length ≤ 500000) {n : Int} (hn : -9223372036854775808 ≤ n ∧ n ≤ 9223372036854775807) {t : Ty} {w : World} {pk : Option Addr} {ck : Nat} {v : Value} (hL : FM w v l) (hE : TyIn (fun b => b < w.heap.size) w t [.string (S t.nm), .int .i64 t.n, .slice pk t.ar.length ck]) :
    Calls Tryd.prog 67 #[v, .int .i64 n, .agg (cs3 t pk ck)] w fun r w' => ∃ v', r = .returned v' ∧ FM w' v' (l.map fun f => if f.1 = n then (n, t) else f) ∧ Below w.heap.size w w' := by
  obtain ⟨pl, cl, rfl, hsl, hRM⟩ := hL
  have hB0 : Below w.heap.size w ((w.alloc (.cells (cs3 t pk ck) 24)).alloc (.cells #[] 34)) := ((Below.refl _ w).alloc (Nat.le_refl _) _).alloc (by simp) _
  have hX0 : Hold w.heap.size (cs3 t pk ck) 24 ((w.alloc (.cells (cs3 t pk ck) 24)).alloc (.cells #[] 34)) := (Hold.new w _ 24).alloc _
  have hR0 : RowO (fun b => b < w.heap.size) (w.heap.size + 1) ((w.alloc (.cells (cs3 t pk ck) 24)).alloc (.cells #[] 34)) (.slice (some ⟨w.heap.size + 1, 0, none⟩) 0 0) [] := by
    have := RowO.new (fun b => b < w.heap.size) (w.heap.size + 1) (w.alloc (.cells (cs3 t pk ck) 24)) (by simp)
    simpa using this
  have hM0 : RM 4 (fun b => b < w.heap.size) ((w.alloc (.cells (cs3 t pk ck) 24)).alloc (.cells #[] 34)) (FaIn (fun b => b < w.heap.size) ((w.alloc (.cells (cs3 t pk ck) 24)).alloc (.cells #[] 34))) pl l := RM.keep (KP.of_below hB0 fun x hx => hx) (fun x hx => hx) (fun t ds h => FaIn.keep (KP.of_below hB0 fun x hx => hx) (fun x hx => hx) t ds h) hRM
  have HSP := hide (fun ops rest o a QQ hgd s x ho hs hx => @wpList_spreadF (fun b => b < w.heap.size) (fun b => b < w.heap.size) _ ops rest o a QQ hgd s x ho (w.heap.size + 1) _ _ [] 0 l.length hs rfl hR0 pl cl l hx rfl hM0 hsl.2.2 (by omega) (by simp) (fun b hb => by omega))
  have HB0 := hide hB0; have HX0 := hide hX0
  have HTY := hide (fun W (hb : Below w.heap.size w W) => (TyIn.keep (KP.of_below hb fun x hx => hx) (fun x hx => hx) _ _ hE : TyIn (fun b => b < w.heap.size) W t _))
  have HND := hide hnd; have HHN := hide hn
  clear hB0 hX0 hR0 hM0 hRM hE
  unfold cs3 at *
  generalize hnl : l.length = nl at *
  have HNL := hide hnl
  clear hnl
  go_enter Tryd.func67, Tryd.ntmps67
  go_wp2_with (at_builtin; have HY := HSP.out; refine HY _ _ _ _ _ rfl _ _ rfl rfl rfl ?_; clear HY HSP; intro pa cp W2 hrow hbel hgrow; rw [Nat.zero_add, List.nil_append] at hrow; rw [Nat.zero_add])
  have hB2 : Below w.heap.size w W2 := HB0.out.trans ((hbel.mono (by omega)))
  have hX2 := HX0.out.below hbel (by omega)
  have HB2 := hide hB2; have HX2 := hide hX2; have HROW := hide hrow
  have hP2 : ∀ b, (fun b => b < w.heap.size) b → b < W2.heap.size := fun b hb => Nat.lt_of_lt_of_le hb hB2.size
  have hfc := rfact_any (n := n) (w := W2) (P := fun b => b < W2.heap.size) (pl := pa) (cl := cp) (hrow.rm hP2 fun b _ hb => hb) (by rw [HNL.out]; omega)
  rw [HNL.out] at hfc
  have HFC := hide hfc
  clear hbel hgrow hB2 hX2 hfc
  have x0 := HX2.out.cell 0; have x1 := HX2.out.cell 1; have x2 := HX2.out.cell 2
  simp only [List.getElem?_toArray, List.getElem?_cons_succ, List.getElem?_cons_zero] at x0 x1 x2
  refine HFC.out.mono ?_
  rintro r W2 ⟨rfl, hor⟩
  rcases hor with ⟨i, f, hlf, rfl, hno, hx⟩ | ⟨rfl, hno⟩
  · have hi : i < l.length := (List.getElem?_eq_some_iff.1 hlf).1
    have hil : i < nl := by rw [← HNL.out]; exact hi
    obtain ⟨L, k1, k2, k3, k4⟩ := hrow
    rw [HNL.out] at k3
    have HK3 := hide k3
    rcases k3.2 with ⟨_, h0⟩ | ⟨g, cap, cur, hv, hbg, hg, r1, r2, r3, r4⟩
    · omega
    · simp only [Value.slice.injEq] at hv
      obtain ⟨rfl, _, rfl⟩ := hv
      have hcur : i * 4 + 3 < cur.size := by omega
      have hG : Hold g cur 34 W2 := hg
      have hgl := hG.lt
      have hne : w.heap.size ≠ g := by omega
      have g0 : W2.cell? ⟨g, i * 4, none⟩ = some cur[i * 4] := (hG.cell _).trans (Array.getElem?_eq_getElem _)
      have g1 : W2.cell? ⟨g, i * 4 + 1, none⟩ = some cur[i * 4 + 1] := (hG.cell _).trans (Array.getElem?_eq_getElem _)
      have g2 : W2.cell? ⟨g, i * 4 + 2, none⟩ = some cur[i * 4 + 2] := (hG.cell _).trans (Array.getElem?_eq_getElem _)
      have g3 : W2.cell? ⟨g, i * 4 + 3, none⟩ = some cur[i * 4 + 3] := (hG.cell _).trans (Array.getElem?_eq_getElem _)
      have f0 := hG.frozen (i * 4); have f1 := hG.frozen (i * 4 + 1); have f2 := hG.frozen (i * 4 + 2); have f3 := hG.frozen (i * 4 + 3)
      have hii : (0 : Int) ≤ i := by omega
      have hij : (i : Int) < nl := by omega
      have HG := hide hG; have HK1 := hide k1; have HK2 := hide k2; have HK4 := hide k4; have HR4 := hide r4; have HNO := hide hno; have HX := hide hx; have HLF := hide hlf; have HGB := hide hbg; have HCU := hide hcur; have HR := hide (And.intro r1 r2)
      clear hG k1 k2 k3 k4 r4 hno hx hlf hg hbg
      go_wp2_with fail
      have hG1 := ((((HG.out.set (i * 4) (.int .i64 n)).set (i * 4 + 1) (.string (S t.nm))).set (i * 4 + 2) (.int .i64 t.n)).set (i * 4 + 3) (.slice pk t.ar.length ck))
      have hBs : Below w.heap.size w ((((W2.setCell ⟨g, i * 4, none⟩ (.int .i64 n)).setCell ⟨g, i * 4 + 1, none⟩ (.string (S t.nm))).setCell ⟨g, i * 4 + 2, none⟩ (.int .i64 t.n)).setCell ⟨g, i * 4 + 3, none⟩ (.slice pk t.ar.length ck)) := (((HB2.out.setCell (p := ⟨g, i * 4, none⟩) (by have := HGB.out; show w.heap.size ≤ g; omega) _).setCell (p := ⟨g, i * 4 + 1, none⟩) (by have := HGB.out; show w.heap.size ≤ g; omega) _).setCell (p := ⟨g, i * 4 + 2, none⟩) (by have := HGB.out; show w.heap.size ≤ g; omega) _).setCell (p := ⟨g, i * 4 + 3, none⟩) (by have := HGB.out; show w.heap.size ≤ g; omega) _
      have hK : KP (fun b => b < w.heap.size) W2 ((((W2.setCell ⟨g, i * 4, none⟩ (.int .i64 n)).setCell ⟨g, i * 4 + 1, none⟩ (.string (S t.nm))).setCell ⟨g, i * 4 + 2, none⟩ (.int .i64 t.n)).setCell ⟨g, i * 4 + 3, none⟩ (.slice pk t.ar.length ck)) := (((KP.setCell _ _ _ _ fun h => by have := HGB.out; have h' : g < w.heap.size := h; omega).trans (KP.setCell _ _ _ _ fun h => by have := HGB.out; have h' : g < w.heap.size := h; omega)).trans (KP.setCell _ _ _ _ fun h => by have := HGB.out; have h' : g < w.heap.size := h; omega)).trans (KP.setCell _ _ _ _ fun h => by have := HGB.out; have h' : g < w.heap.size := h; omega)
      have hc4 := set4 cur (i * 4) (.int .i64 n) (.string (S t.nm)) (.int .i64 t.n) (.slice pk t.ar.length ck) HCU.out
      generalize ((((W2.setCell ⟨g, i * 4, none⟩ (.int .i64 n)).setCell ⟨g, i * 4 + 1, none⟩ (.string (S t.nm))).setCell ⟨g, i * 4 + 2, none⟩ (.int .i64 t.n)).setCell ⟨g, i * 4 + 3, none⟩ (.slice pk t.ar.length ck)) = W3 at *
      generalize (((cur.setIfInBounds (i * 4) (.int .i64 n)).setIfInBounds (i * 4 + 1) (.string (S t.nm))).setIfInBounds (i * 4 + 2) (.int .i64 t.n)).setIfInBounds (i * 4 + 3) (.slice pk t.ar.length ck) = C4 at *
      have hP3 : ∀ b, (fun b => b < w.heap.size) b → (fun b => b < W3.heap.size) b := fun b hb => Nat.lt_of_lt_of_le hb hBs.size
      have hfm : FM W3 (.slice (some ⟨g, 0, none⟩) nl cp) (l.map fun f => if f.1 = n then (n, t) else f) := by
        refine ⟨some ⟨g, 0, none⟩, cp, by rw [List.length_map, HNL.out], ⟨by rw [List.length_map, HNL.out]; exact HR.out.1, HR.out.2, fun h => by cases h⟩, .inr ⟨g, 0, rfl, hG1.lt, fun j fj hfj => ?_⟩⟩
        rw [List.getElem?_map, Option.map_eq_some_iff] at hfj
        obtain ⟨f', hf', rfl⟩ := hfj
        by_cases hji : j = i
        · subst hji
          have hff : f' = f := by have h1 := HLF.out; rw [hf'] at h1; exact Option.some.inj h1
          subst hff
          rw [if_pos HX.out]
          refine ⟨[.int .i64 n, .string (S t.nm), .int .i64 t.n, .slice pk t.ar.length ck], rfl, fun q d hd => ?_, _, rfl, HHN.out, TyIn.keep (KP.refl _ _) hP3 _ _ (HTY.out W3 hBs)⟩
          rw [hG1.cell, hc4, Nat.zero_add]
          match q, hd with
          | 0, hd => simpa using hd
          | 1, hd => simpa using hd
          | 2, hd => simpa using hd
          | 3, hd => simpa using hd
        · have hne2 : f'.1 ≠ n := fun e1 => hji (by
            have h1 : (l.map fun f => f.1)[j]? = some n := by rw [List.getElem?_map, hf']; simp [e1]
            have h2 : (l.map fun f => f.1)[i]? = some n := by rw [List.getElem?_map, HLF.out]; simp [HX.out]
            exact (List.getElem?_inj (by simp; exact (List.getElem?_eq_some_iff.1 hf').1) HND.out).1 (h1.trans h2.symm))
          rw [if_neg hne2]
          obtain ⟨ds, e1, e2⟩ := HK4.out j f' hf'
          refine ⟨ds, HK2.out ds (List.mem_of_getElem? e1), fun q d hd => ?_, FaIn.keep hK hP3 _ _ e2⟩
          have h4 : q < 4 := by have h5 := HK2.out ds (List.mem_of_getElem? e1); have := (List.getElem?_eq_some_iff.1 hd).1; omega
          have h6 := row_cell HK3.out (flat_at4 HK2.out e1 hd)
          rw [HG.out.cell] at h6
          rw [hG1.cell, hc4, Nat.zero_add, if_neg (by omega), if_neg (by omega), if_neg (by omega), if_neg (by omega)]
          exact h6
      have HFM := hide hfm; have HBS := hide hBs
      clear hfm hBs hK hG1 hc4
      go_ret
      exact ⟨_, rfl, HFM.out, HBS.out⟩
  · have hmap : (l.map fun f => if f.1 = n then (n, t) else f) = l := by
      conv => rhs; rw [← List.map_id l]
      exact List.map_congr_left fun f hf => by rw [if_neg (hno f hf)]; rfl
    have hfm := FM.row hrow HNL.out hP2
    rw [← hmap] at hfm
    have HFM := hide hfm
    clear hno hmap hfm hrow
    go_wp2_with fail
    go_ret
    exact ⟨_, rfl, HFM.out, HB2.out⟩
end Go.Proofs.YteoflpalmckikaaDoor
namespace Go.Proofs.YteoflpalmckikaaDoor
open Go.RowKit
set_option linter.unusedVariables false
set_option linter.unusedSimpArgs false
/-- A type with all facts in it, if it is not too deep and not too great. -/
def FullQ (T : Ty) (d lf : Nat) (w : World) (r : Ending) (w' : World) : Prop := Below w.heap.size w w' ∧ ((tdp T ≤ d ∧ tsz T ≤ lf ∧ ∃ pk ck, r = .returned (.tuple #[.agg (cs3 T pk ck), .int .i64 ((lf : Int) - (tsz T : Nat))]) ∧ TyIn (New w.heap.size w'.heap.size) w' T [.string (S T.nm), .int .i64 T.n, .slice pk T.ar.length ck]) ∨ (¬ (tdp T ≤ d ∧ tsz T ≤ lf) ∧ r = .returned (.tuple #[.agg #[.string ⟨#[]⟩, .int .i64 0, .slice none 0 0], .int .i64 (-1)])))
theorem fullq_cell {T : Ty} {d lf : Nat} {w W : World} {pk : Option Addr} {ck B : Nat} (hB : w.heap.size ≤ B) (hb : Below w.heap.size w W) (h1 : tdp T ≤ d) (h2 : tsz T ≤ lf) (h : TyIn (fun b => w.heap.size ≤ b ∧ b < W.heap.size ∧ b ≠ B) W T [.string (S T.nm), .int .i64 T.n, .slice pk T.ar.length ck]) : FullQ T d lf w (.returned (.tuple #[.agg (cs3 T pk ck), .int .i64 ((lf : Int) - (tsz T : Nat))])) (((W.setCell ⟨B, 0, none⟩ (.string (S T.nm))).setCell ⟨B, 1, none⟩ (.int .i64 T.n)).setCell ⟨B, 2, none⟩ (.slice pk T.ar.length ck)) := by
  obtain ⟨pk', ck', e1, e2, e3⟩ := tq_cell hB hb h
  have e4 : cs3 T pk ck = cs3 T pk' ck' := by
    have := e1
    simpa using this
  have e5 : pk = pk' ∧ ck = ck' := by
    unfold cs3 at e4
    simpa using e4
  obtain ⟨rfl, rfl⟩ := e5
  exact ⟨e2, .inl ⟨h1, h2, pk, ck, rfl, e3⟩⟩
theorem TyIn.move {P : Nat → Prop} {w w' : World} (k : ∀ b, P b → ∀ x, w'.cell? ⟨b, x, none⟩ = w.cell? ⟨b, x, none⟩) (t : Ty) : ∀ cs, TyIn P w t cs → TyIn P w' t cs := by
  induction t using Ty.ind with
  | _ t ih =>
    intro cs h
    rw [TyIn_iff] at h ⊢
    obtain ⟨pk, ck, h1, h2, h3, h5, h7⟩ := h
    refine ⟨pk, ck, h1, h2, h3, h5, ?_⟩
    rcases h7 with h7 | ⟨b, o, hp, hb, hm⟩
    · exact .inl h7
    · refine .inr ⟨b, o, hp, hb, fun i t' ht => ?_⟩
      obtain ⟨ds, e1, e2, e3⟩ := hm i t' ht
      exact ⟨ds, e1, fun j d hd => (k b hb _).trans (e2 j d hd), ih t' (List.mem_of_getElem? ht) ds e3⟩
section
variable {H : List Int} {l : List (Int × Ty)} {s : Int → Ty} {e : Int → Int} {p : Int → Nat}
set_option maxHeartbeats 16000000 in
set_option maxRecDepth 100000 in
theorem rfull_any (h : Inv H l s e p) (hll : l.length ≤ 1000000) {P : Nat → Prop} {pl : Option Addr} {cl : Nat} (d : Nat) : ∀ (t : Ty) {w : World} {pk : Option Addr} {ck lf : Nat}, (∀ b, P b → b < w.heap.size) → RM 4 P w (FaIn P w) pl l → TyIn P w t [.string (S t.nm), .int .i64 t.n, .slice pk t.ar.length ck] → (∀ m ∈ hls t, m ∈ H) → allT ok1 t = true → d ≤ 1000 → lf ≤ 100000 →
    Calls Tryd.prog 47 #[.slice pl l.length cl, .agg (cs3 t pk ck), .int .i64 d, .int .i64 lf] w (FullQ (sub s t) d lf w) := by
  induction d with
  | zero =>
    intro t w pk ck lf hP hL hE htH hot hd hlf
    have hnot : ¬ (tdp (sub s t) ≤ 0 ∧ tsz (sub s t) ≤ lf) := fun hh => by have := tdp_pos (sub s t); omega
    have HNOT := hide hnot
    have hB0 : Below w.heap.size w ((w.alloc (.cells (cs3 t pk ck) 24)).alloc (.cells #[.string ⟨#[]⟩, .int .i64 0, .slice none 0 0] 24)) := ((Below.refl _ w).alloc (Nat.le_refl _) _).alloc (by simp) _
    have hX0 : Hold w.heap.size (cs3 t pk ck) 24 ((w.alloc (.cells (cs3 t pk ck) 24)).alloc (.cells #[.string ⟨#[]⟩, .int .i64 0, .slice none 0 0] 24)) := (Hold.new w _ 24).alloc _
    have hR0 : Hold (w.heap.size + 1) #[.string ⟨#[]⟩, .int .i64 0, .slice none 0 0] 24 ((w.alloc (.cells (cs3 t pk ck) 24)).alloc (.cells #[.string ⟨#[]⟩, .int .i64 0, .slice none 0 0] 24)) := by have := Hold.new (w.alloc (.cells (cs3 t pk ck) 24)) #[.string ⟨#[]⟩, .int .i64 0, .slice none 0 0] 24; simpa using this
    have HWK := hide (fun (W : World) (hb : Below w.heap.size w W) => rwalk_any h t (P := P) (w := W) (pk := pk) (ck := ck) (pl := pl) (cl := cl) (fun b hb' => Nat.lt_of_lt_of_le (hP b hb') hb.size) (TyIn.keep (KP.of_below hb hP) (fun b hb => hb) _ _ hE) (RM.keep (KP.of_below hb hP) (fun b hb => hb) (fun t ds h => FaIn.keep (KP.of_below hb hP) (fun b hb => hb) t ds h) hL) hll hot)
    have HB0 := hide hB0; have HX0 := hide hX0; have HR0 := hide hR0
    clear hB0 hX0 hR0 hnot
    generalize walkT l e t = u at *
    unfold cs3 at HWK HX0 HB0 HR0 ⊢
    go_enter Tryd.func47, Tryd.ntmps47
    go_wp2_with fail
    refine (HWK.out _ HB0.out).mono ?_
    rintro r w1 ⟨qu, du, rfl, hb1, hinu⟩
    have HB1 := hide (HB0.out.trans (hb1.mono HB0.out.size))
    have HX1 := hide (HX0.out.below hb1 HX0.out.lt)
    have HR1 := hide (HR0.out.below hb1 HR0.out.lt)
    have HINU := hide hinu
    clear hb1 hinu
    unfold cs3
    have r3 := HX1.out
    have uf0 := r3.frozen 0
    have uf1 := r3.frozen 1
    have uf2 := r3.frozen 2
    have hs3 := r3.lt
    have x0 := r3.cell 0; have x1 := r3.cell 1; have x2 := r3.cell 2
    simp only [List.getElem?_toArray, List.getElem?_cons_succ, List.getElem?_cons_zero] at x0 x1 x2
    clear r3
    go_upto_region 2 with fail
    have hbx := hold3 HX1.out (.string (S u.nm)) (.int .i64 u.n) (.slice qu u.ar.length du)
    have hrx : Hold (w.heap.size + 1) #[.string ⟨#[]⟩, .int .i64 0, .slice none 0 0] 24 (((w1.setCell ⟨w.heap.size, 0, none⟩ (.string (S u.nm))).setCell ⟨w.heap.size, 1, none⟩ (.int .i64 u.n)).setCell ⟨w.heap.size, 2, none⟩ (.slice qu u.ar.length du)) := ((HR1.out.other (by omega) _ _).other (by omega) _ _).other (by omega) _ _
    have hbw : Below w.heap.size w (((w1.setCell ⟨w.heap.size, 0, none⟩ (.string (S u.nm))).setCell ⟨w.heap.size, 1, none⟩ (.int .i64 u.n)).setCell ⟨w.heap.size, 2, none⟩ (.slice qu u.ar.length du)) := ((HB1.out.setCell (p := ⟨w.heap.size, 0, none⟩) (Nat.le_refl _) _).setCell (p := ⟨w.heap.size, 1, none⟩) (Nat.le_refl _) _).setCell (p := ⟨w.heap.size, 2, none⟩) (Nat.le_refl _) _
    generalize ((w1.setCell ⟨w.heap.size, 0, none⟩ (.string (S u.nm))).setCell ⟨w.heap.size, 1, none⟩ (.int .i64 u.n)).setCell ⟨w.heap.size, 2, none⟩ (.slice qu u.ar.length du) = w2 at *
    have HX2 := hide hbx; have HR2 := hide hrx; have HB2 := hide hbw
    have hs4 := hrx.lt
    clear hbx hrx hbw x0 x1 x2 uf0 uf1 uf2 HX1 HR1
    have r2 := HR2.out
    have hf0 := r2.frozen 0
    have hf1 := r2.frozen 1
    have hf2 := r2.frozen 2
    have hr0 := r2.cell 0
    have hr1 := r2.cell 1
    have hr2 := r2.cell 2
    simp only [List.getElem?_toArray, List.getElem?_cons_succ, List.getElem?_cons_zero] at hr0 hr1 hr2
    have hs2 := r2.lt
    clear r2
    go_wp2_with fail
    have hro := hold3 HR2.out (.string ⟨#[]⟩) (.int .i64 0) (.slice none 0 0)
    have q0 := hro.cell 0
    have q1 := hro.cell 1
    have q2 := hro.cell 2
    simp only [List.getElem?_toArray, List.getElem?_cons_succ, List.getElem?_cons_zero] at q0 q1 q2
    have hbz : Below w.heap.size w (((w2.setCell ⟨w.heap.size + 1, 0, none⟩ (.string ⟨#[]⟩)).setCell ⟨w.heap.size + 1, 1, none⟩ (.int .i64 0)).setCell ⟨w.heap.size + 1, 2, none⟩ (.slice none 0 0)) := ((HB2.out.setCell (p := ⟨w.heap.size + 1, 0, none⟩) (by simp) _).setCell (p := ⟨w.heap.size + 1, 1, none⟩) (by simp) _).setCell (p := ⟨w.heap.size + 1, 2, none⟩) (by simp) _
    generalize ((w2.setCell ⟨w.heap.size + 1, 0, none⟩ (.string ⟨#[]⟩)).setCell ⟨w.heap.size + 1, 1, none⟩ (.int .i64 0)).setCell ⟨w.heap.size + 1, 2, none⟩ (.slice none 0 0) = W3 at *
    exact bodyPost_ret (v := .tuple #[.agg #[.string ⟨#[]⟩, .int .i64 0, .slice none 0 0], .int .i64 (-1)]) (by simp only [results, Tryd.results47]; go_simp) rfl ⟨hbz, .inr ⟨HNOT.out, rfl⟩⟩
  | succ d ih =>
    intro t w pk ck lf hP hL hE htH hot hd hlf
    have hB0 : Below w.heap.size w ((w.alloc (.cells (cs3 t pk ck) 24)).alloc (.cells #[.string ⟨#[]⟩, .int .i64 0, .slice none 0 0] 24)) := ((Below.refl _ w).alloc (Nat.le_refl _) _).alloc (by simp) _
    have hX0 : Hold w.heap.size (cs3 t pk ck) 24 ((w.alloc (.cells (cs3 t pk ck) 24)).alloc (.cells #[.string ⟨#[]⟩, .int .i64 0, .slice none 0 0] 24)) := (Hold.new w _ 24).alloc _
    have hR0 : Hold (w.heap.size + 1) #[.string ⟨#[]⟩, .int .i64 0, .slice none 0 0] 24 ((w.alloc (.cells (cs3 t pk ck) 24)).alloc (.cells #[.string ⟨#[]⟩, .int .i64 0, .slice none 0 0] 24)) := by have := Hold.new (w.alloc (.cells (cs3 t pk ck) 24)) #[.string ⟨#[]⟩, .int .i64 0, .slice none 0 0] 24; simpa using this
    have HWK := hide (fun (W : World) (hb : Below w.heap.size w W) => rwalk_any h t (P := P) (w := W) (pk := pk) (ck := ck) (pl := pl) (cl := cl) (fun b hb' => Nat.lt_of_lt_of_le (hP b hb') hb.size) (TyIn.keep (KP.of_below hb hP) (fun b hb => hb) _ _ hE) (RM.keep (KP.of_below hb hP) (fun b hb => hb) (fun t ds h => FaIn.keep (KP.of_below hb hP) (fun b hb => hb) t ds h) hL) hll hot)
    have HB0 := hide hB0; have HX0 := hide hX0; have HR0 := hide hR0; have HL := hide hL; have HIH := hide ih
    have HTE : Hid (sub s (walkT l e t) = sub s t) := hide (h.walk h.sol t)
    have HUHH := hide (h.walkH htH)
    have hwd := h.walked t
    have HUO0 := hide (h.walkO htH hot)
    clear hB0 hX0 hR0 hL ih htH hot
    generalize walkT l e t = u at *
    have HUO : Hid (∀ k ∈ u.ar, allT ok1 k = true) := hide (allT_kid HUO0.out).2
    generalize sub s t = te at *
    unfold cs3 at HWK HX0 HB0 HR0 ⊢
    have hdc : ((d + 1 : Nat) : Int) = (d : Int) + 1 := by omega
    have hd0 : ¬ ((d : Int) + 1 ≤ 0) := by omega
    have hd1' : (d : Int) + 1 - 1 = d := by omega
    rw [hdc]
    cases lf with
    | zero =>
      have hnot : ¬ (tdp te ≤ d + 1 ∧ tsz te ≤ 0) := fun hh => by have := tsz_pos te; omega
      have HNOT := hide hnot
      clear hnot hwd
      go_enter Tryd.func47, Tryd.ntmps47
      go_wp2_with fail
      refine (HWK.out _ HB0.out).mono ?_
      rintro r w1 ⟨qu, du, rfl, hb1, hinu⟩
      have HB1 := hide (HB0.out.trans (hb1.mono HB0.out.size))
      have HX1 := hide (HX0.out.below hb1 HX0.out.lt)
      have HR1 := hide (HR0.out.below hb1 HR0.out.lt)
      have HINU := hide hinu
      clear hb1 hinu
      unfold cs3
      have r3 := HX1.out
      have uf0 := r3.frozen 0
      have uf1 := r3.frozen 1
      have uf2 := r3.frozen 2
      have hs3 := r3.lt
      have x0 := r3.cell 0; have x1 := r3.cell 1; have x2 := r3.cell 2
      simp only [List.getElem?_toArray, List.getElem?_cons_succ, List.getElem?_cons_zero] at x0 x1 x2
      clear r3
      go_upto_region 2 with fail
      have hbx := hold3 HX1.out (.string (S u.nm)) (.int .i64 u.n) (.slice qu u.ar.length du)
      have hrx : Hold (w.heap.size + 1) #[.string ⟨#[]⟩, .int .i64 0, .slice none 0 0] 24 (((w1.setCell ⟨w.heap.size, 0, none⟩ (.string (S u.nm))).setCell ⟨w.heap.size, 1, none⟩ (.int .i64 u.n)).setCell ⟨w.heap.size, 2, none⟩ (.slice qu u.ar.length du)) := ((HR1.out.other (by omega) _ _).other (by omega) _ _).other (by omega) _ _
      have hbw : Below w.heap.size w (((w1.setCell ⟨w.heap.size, 0, none⟩ (.string (S u.nm))).setCell ⟨w.heap.size, 1, none⟩ (.int .i64 u.n)).setCell ⟨w.heap.size, 2, none⟩ (.slice qu u.ar.length du)) := ((HB1.out.setCell (p := ⟨w.heap.size, 0, none⟩) (Nat.le_refl _) _).setCell (p := ⟨w.heap.size, 1, none⟩) (Nat.le_refl _) _).setCell (p := ⟨w.heap.size, 2, none⟩) (Nat.le_refl _) _
      generalize ((w1.setCell ⟨w.heap.size, 0, none⟩ (.string (S u.nm))).setCell ⟨w.heap.size, 1, none⟩ (.int .i64 u.n)).setCell ⟨w.heap.size, 2, none⟩ (.slice qu u.ar.length du) = w2 at *
      have HX2 := hide hbx; have HR2 := hide hrx; have HB2 := hide hbw
      have hs4 := hrx.lt
      clear hbx hrx hbw x0 x1 x2 uf0 uf1 uf2 HX1 HR1
      have r2 := HR2.out
      have hf0 := r2.frozen 0
      have hf1 := r2.frozen 1
      have hf2 := r2.frozen 2
      have hr0 := r2.cell 0
      have hr1 := r2.cell 1
      have hr2 := r2.cell 2
      simp only [List.getElem?_toArray, List.getElem?_cons_succ, List.getElem?_cons_zero] at hr0 hr1 hr2
      have hs2 := r2.lt
      clear r2
      go_wp2_with fail
      have hro := hold3 HR2.out (.string ⟨#[]⟩) (.int .i64 0) (.slice none 0 0)
      have q0 := hro.cell 0
      have q1 := hro.cell 1
      have q2 := hro.cell 2
      simp only [List.getElem?_toArray, List.getElem?_cons_succ, List.getElem?_cons_zero] at q0 q1 q2
      have hbz : Below w.heap.size w (((w2.setCell ⟨w.heap.size + 1, 0, none⟩ (.string ⟨#[]⟩)).setCell ⟨w.heap.size + 1, 1, none⟩ (.int .i64 0)).setCell ⟨w.heap.size + 1, 2, none⟩ (.slice none 0 0)) := ((HB2.out.setCell (p := ⟨w.heap.size + 1, 0, none⟩) (by simp) _).setCell (p := ⟨w.heap.size + 1, 1, none⟩) (by simp) _).setCell (p := ⟨w.heap.size + 1, 2, none⟩) (by simp) _
      generalize ((w2.setCell ⟨w.heap.size + 1, 0, none⟩ (.string ⟨#[]⟩)).setCell ⟨w.heap.size + 1, 1, none⟩ (.int .i64 0)).setCell ⟨w.heap.size + 1, 2, none⟩ (.slice none 0 0) = W3 at *
      exact bodyPost_ret (v := .tuple #[.agg #[.string ⟨#[]⟩, .int .i64 0, .slice none 0 0], .int .i64 (-1)]) (by simp only [results, Tryd.results47]; go_simp) rfl ⟨hbz, .inr ⟨HNOT.out, rfl⟩⟩
    | succ m =>
      have hmc : ((m + 1 : Nat) : Int) = (m : Int) + 1 := by omega
      have hm1 : (m : Int) + 1 - 1 = m := by omega
      have hm0 : ¬ ((m : Int) < 0) := by omega
      rw [hmc]
      go_enter Tryd.func47, Tryd.ntmps47
      go_wp2_with fail
      refine (HWK.out _ HB0.out).mono ?_
      rintro r w1 ⟨qu, du, rfl, hb1, hinu⟩
      have HB1 := hide (HB0.out.trans (hb1.mono HB0.out.size))
      have HX1 := hide (HX0.out.below hb1 HX0.out.lt)
      have HR1 := hide (HR0.out.below hb1 HR0.out.lt)
      have HINU := hide hinu
      clear hb1 hinu
      unfold cs3
      have r3 := HX1.out
      have uf0 := r3.frozen 0
      have uf1 := r3.frozen 1
      have uf2 := r3.frozen 2
      have hs3 := r3.lt
      have x0 := r3.cell 0; have x1 := r3.cell 1; have x2 := r3.cell 2
      simp only [List.getElem?_toArray, List.getElem?_cons_succ, List.getElem?_cons_zero] at x0 x1 x2
      clear r3
      go_upto_region 2 with fail
      have hbx := hold3 HX1.out (.string (S u.nm)) (.int .i64 u.n) (.slice qu u.ar.length du)
      have hrx : Hold (w.heap.size + 1) #[.string ⟨#[]⟩, .int .i64 0, .slice none 0 0] 24 (((w1.setCell ⟨w.heap.size, 0, none⟩ (.string (S u.nm))).setCell ⟨w.heap.size, 1, none⟩ (.int .i64 u.n)).setCell ⟨w.heap.size, 2, none⟩ (.slice qu u.ar.length du)) := ((HR1.out.other (by omega) _ _).other (by omega) _ _).other (by omega) _ _
      have hbw : Below w.heap.size w (((w1.setCell ⟨w.heap.size, 0, none⟩ (.string (S u.nm))).setCell ⟨w.heap.size, 1, none⟩ (.int .i64 u.n)).setCell ⟨w.heap.size, 2, none⟩ (.slice qu u.ar.length du)) := ((HB1.out.setCell (p := ⟨w.heap.size, 0, none⟩) (Nat.le_refl _) _).setCell (p := ⟨w.heap.size, 1, none⟩) (Nat.le_refl _) _).setCell (p := ⟨w.heap.size, 2, none⟩) (Nat.le_refl _) _
      generalize ((w1.setCell ⟨w.heap.size, 0, none⟩ (.string (S u.nm))).setCell ⟨w.heap.size, 1, none⟩ (.int .i64 u.n)).setCell ⟨w.heap.size, 2, none⟩ (.slice qu u.ar.length du) = w2 at *
      have HX2 := hide hbx; have HR2 := hide hrx; have HB2 := hide hbw
      have hs4 := hrx.lt
      clear hbx hrx hbw x0 x1 x2 uf0 uf1 uf2 HX1 HR1
      rcases hwd with huh | ⟨k, huk, hkn, _, _, _⟩
      · have HSN : Hid (te = ⟨u.nm, 0, u.ar.map (sub s)⟩) := hide (by rw [← HTE.out]; exact sub_node _ _ huh)
        have hszT : tsz te = 1 + ((u.ar.map (sub s)).map tsz).sum := by rw [HSN.out, tsz_eq]
        have HUH := hide (hls_node _ huh)
        have HH := hide (fun W => rhole_any u W qu du)
        unfold cs3 at HH
        rw [huh] at HH
        clear huh
        have hnl := HINU.out.bds.1
        have HTM := hide (tm_of HINU.out)
        have HSZ := hide hszT
        clear hszT
        generalize hnk : u.ar.length = nk at *
        have HNK := hide hnk
        clear hnk
        have x0 := HX2.out.cell 0; have x1 := HX2.out.cell 1; have x2 := HX2.out.cell 2
        simp only [List.getElem?_toArray, List.getElem?_cons_succ, List.getElem?_cons_zero] at x0 x1 x2
        go_wp2_with fail
        refine (HH.out _).mono ?_
        rintro r w3 ⟨rfl, hb⟩
        have HB3 := hide (HB2.out.trans (hb.mono HB2.out.size))
        have HX3 := hide (HX2.out.below hb HX2.out.lt)
        have HR3 := hide (HR2.out.below hb HR2.out.lt)
        have hs5 := HR3.out.lt
        clear hb x0 x1 x2
        have x0 := HX3.out.cell 0; have x1 := HX3.out.cell 1; have x2 := HX3.out.cell 2
        simp only [List.getElem?_toArray, List.getElem?_cons_succ, List.getElem?_cons_zero] at x0 x1 x2
        go_wp2_with fail
        go_loopg [3, 11] nk (fun k s3 s11 wr => ∃ i : Nat, ∃ v : Value, i ≤ nk ∧ k = nk - i ∧ s11 = .int .i64 i ∧ (((u.ar.take i).map (sub s)).map tsz).sum ≤ m ∧ s3 = .int .i64 ((m : Int) - ((((u.ar.take i).map (sub s)).map tsz).sum : Nat)) ∧ (∀ k ∈ u.ar.take i, tdp (sub s k) ≤ d) ∧ Below w.heap.size w wr ∧ Hold w3.heap.size #[.string (S u.nm), .int .i64 0, v] 24 wr ∧ Hold (w.heap.size + 1) #[.string ⟨#[]⟩, .int .i64 0, .slice none 0 0] 24 wr ∧ Hold w.heap.size #[.string (S u.nm), .int .i64 u.n, .slice qu nk du] 24 wr ∧ Row3 (w3.heap.size + 1) w3.heap.size wr v ((u.ar.take i).map (sub s)) ∧ w3.heap.size + 1 ≤ wr.heap.size)
        case atStart =>
          refine ⟨0, .slice none 0 0, Nat.zero_le _, by omega, rfl, by simp, by simp, by simp, HB3.out.alloc HB3.out.size _, Hold.new w3 _ 24, HR3.out.alloc _, HX3.out.alloc _, Row3.nil _ _ _, by simp⟩
        case round =>
          obtain ⟨i, v, hi1, rfl, rfl, hsum, rfl, hdp, hbr, hmd, hrs, hcb, hrow, hszr⟩ := hrel
          clear x0 x1 x2
          have HBR := hide hbr; have HMD := hide hmd; have HRS := hide hrs; have HCB := hide hcb; have HROW := hide hrow; have HDP := hide hdp
          have hm3 := hmd.lt
          clear hbr hmd hrs hcb hrow hdp
          have x0 := HCB.out.cell 0; have x1 := HCB.out.cell 1; have x2 := HCB.out.cell 2
          simp only [List.getElem?_toArray, List.getElem?_cons_succ, List.getElem?_cons_zero] at x0 x1 x2
          by_cases hlt : i < nk
          · have hil : i < u.ar.length := by rw [HNK.out]; exact hlt
            obtain ⟨b, o, qk, dk, hpk, hPb, hIn, a0, a1, a2⟩ := tm_at HTM.out hil
            have hcc : ∀ x, wr.cell? ⟨b, x, none⟩ = w.cell? ⟨b, x, none⟩ := fun x => HBR.out.cell (p := ⟨b, x, none⟩) (hP b hPb)
            have hcc1 : ∀ x, w1.cell? ⟨b, x, none⟩ = w.cell? ⟨b, x, none⟩ := fun x => HB1.out.cell (p := ⟨b, x, none⟩) (hP b hPb)
            rw [hcc1, ← hcc] at a0 a1 a2
            have hmem := List.getElem_mem hil
            have hInr : TyIn P wr u.ar[i] [.string (S u.ar[i].nm), .int .i64 u.ar[i].n, .slice qk u.ar[i].ar.length dk] := TyIn.move (fun b hb x => (HBR.out.cell (p := ⟨b, x, none⟩) (hP b hb)).trans (HB1.out.cell (p := ⟨b, x, none⟩) (hP b hb)).symm) _ _ hIn
            have hcall := HIH.out u.ar[i] (w := wr) (pk := qk) (ck := dk) (lf := m - (((u.ar.take i).map (sub s)).map tsz).sum) (fun b hb => Nat.lt_of_lt_of_le (hP b hb) HBR.out.size) (RM.keep (KP.of_below HBR.out hP) (fun b hb => hb) (fun t ds h => FaIn.keep (KP.of_below HBR.out hP) (fun b hb => hb) t ds h) HL.out) hInr (fun m' hm' => HUHH.out m' (by rw [HUH.out]; exact List.mem_flatMap.2 ⟨_, hmem, hm'⟩)) (HUO.out _ hmem) (by omega) (by omega)
            have htk : (u.ar.take (i + 1)).map (sub s) = (u.ar.take i).map (sub s) ++ [sub s u.ar[i]] := by rw [List.take_succ_eq_append_getElem hil, List.map_append, List.map_singleton]
            have htk2 : u.ar.take (i + 1) = u.ar.take i ++ [u.ar[i]] := List.take_succ_eq_append_getElem hil
            have hst := sum_take tsz (l := u.ar.map (sub s)) (i := i) (by simpa using hil)
            have hsl2 := sum_take_le tsz (u.ar.map (sub s)) (i + 1)
            have hkT : sub s u.ar[i] ∈ te.ar := by rw [HSN.out]; exact List.mem_map_of_mem hmem
            rw [← List.map_take, ← List.map_take, List.getElem_map] at hst
            rw [← List.map_take] at hsl2
            have htl : ((u.ar.take i).map (sub s)).length = i := by simp; omega
            have HTL := hide htl
            subst hpk
            generalize u.ar[i] = k at *
            have HTD := hide (tdp_kid hkT)
            generalize hml : (u.ar.take i).map (sub s) = ml at *
            generalize htke : sub s k = tk at *
            have HTKE := hide htke
            have HSL2 := hide (And.intro hst hsl2)
            have hi9 : i ≤ (ml.map tsz).sum := by
              have h9 : ml.length ≤ (ml.map tsz).sum := ar_le (⟨[], 0, ml⟩ : Ty)
              have h8 := HTL.out
              omega
            generalize (ml.map tsz).sum = sg at *
            have hcast : ((m - sg : Nat) : Int) = (m : Int) - sg := by omega
            rw [hcast] at hcall
            have HC := hide hcall
            have HTK := hide htk; have HTK2 := hide htk2
            have hii : (i : Int) < nk := by omega
            have hdi : ((d + 1 : Nat) : Int) = (d : Int) + 1 := by omega
            clear hcall hcc hcc1 hIn hInr hmem htk htk2 hst hsl2 htl hkT hml htke
            unfold cs3 at HC
            go_wp2_with fail
            refine HC.out.mono ?_
            rintro r w4 ⟨hb4, hor⟩
            have HBX := hide hb4
            have HB4 := hide (HBR.out.trans (hb4.mono HBR.out.size))
            have HM4 := hide (HMD.out.below hb4 HMD.out.lt)
            have HR4 := hide (HRS.out.below hb4 HRS.out.lt)
            have HC4 := hide (HCB.out.below hb4 HCB.out.lt)
            have hs6 := hb4.size
            clear hb4
            rcases hor with ⟨hd1, hz1, rk, rd, rfl, hink⟩ | ⟨hnf, rfl⟩
            · obtain ⟨q, c, rfl, hsl⟩ := Row3.slice HROW.out
              obtain ⟨L, e1, e2, e3, e4, e5⟩ := HROW.out
              have htl := HTL.out
              rw [htl] at e1 e3 e4 e5 HM4
              have hm2 := HM4.out.cell 2
              simp only [List.getElem?_toArray, List.getElem?_cons_succ, List.getElem?_cons_zero] at hm2
              have hrl : ∀ r, (Value.slice q i c).ownBlock = some r → r < wr.heap.size := fun r hr => (World.ownsRow.lt e3 r hr).2
              have hrl2 : ∀ r, (Value.slice q i c).ownBlock = some r → w3.heap.size + 1 ≤ r := fun r hr => (World.ownsRow.lt e3 r hr).1
              have HE1 := hide e1; have HE2 := hide e2; have HE3 := hide e3; have HE4 := hide e4; have HE5 := hide e5; have HRL := hide hrl; have HRL2 := hide hrl2
              have HINK := hide hink
              obtain ⟨i0, hi, hz0, hz1', hz2'⟩ := info_parts info24
              have hng : ¬ (((m - sg : Nat) : Int) - (tsz tk : Nat) < 0) := by omega
              have hcst : ((m : Int) - sg - (tsz tk : Nat)) = (m : Int) - ((sg + tsz tk : Nat) : Int) := by omega
              have hng2 : ¬ ((m : Int) - sg - (tsz tk : Nat) < 0) := by omega
              have HCST := hide hcst
              generalize htz : tsz tk = tz at *
              have HTZ := hide htz
              clear hsl e1 e2 e3 e4 e5 hrl hrl2 hink htl hcst htz x0 x1 x2
              unfold cs3
              have hw4 : w4.heap.size < w4.heap.size + 1 := Nat.lt_succ_self _
              have hX5 : Hold w4.heap.size #[.string (S tk.nm), .int .i64 tk.n, .slice rk tk.ar.length rd] 24 (w4.alloc (.cells #[.string (S tk.nm), .int .i64 tk.n, .slice rk tk.ar.length rd] 24)) := Hold.new w4 _ 24
              have hM5 := HM4.out.alloc (.cells #[.string (S tk.nm), .int .i64 tk.n, .slice rk tk.ar.length rd] 24)
              have hR5 := HR4.out.alloc (.cells #[.string (S tk.nm), .int .i64 tk.n, .slice rk tk.ar.length rd] 24)
              have hC5 := HC4.out.alloc (.cells #[.string (S tk.nm), .int .i64 tk.n, .slice rk tk.ar.length rd] 24)
              have hB5 := HB4.out.alloc HB4.out.size (.cells #[.string (S tk.nm), .int .i64 tk.n, .slice rk tk.ar.length rd] 24)
              have hB5x : Below wr.heap.size wr (w4.alloc (.cells #[.string (S tk.nm), .int .i64 tk.n, .slice rk tk.ar.length rd] 24)) := HBX.out.alloc HBX.out.size _
              have hz5 : w4.heap.size < (w4.alloc (.cells #[.string (S tk.nm), .int .i64 tk.n, .slice rk tk.ar.length rd] 24)).heap.size := by simp
              have hK45 : KP (fun b => b < w4.heap.size) w4 (w4.alloc (.cells #[.string (S tk.nm), .int .i64 tk.n, .slice rk tk.ar.length rd] 24)) := KP.alloc w4 _ fun b hb => hb
              go_upto_region 12 with fail
              generalize w4.alloc (.cells #[.string (S tk.nm), .int .i64 tk.n, .slice rk tk.ar.length rd] 24) = w5 at *
              have HINK5 : Hid (TyIn (New wr.heap.size w5.heap.size) w5 tk [.string (S tk.nm), .int .i64 tk.n, .slice rk tk.ar.length rd]) := hide (TyIn.keep (hK45.mono fun b hb => hb.2) (fun b hb => ⟨hb.1, by have := hb.2; omega⟩) _ _ HINK.out)
              have y0 := hX5.cell 0; have y1 := hX5.cell 1; have y2 := hX5.cell 2
              have m2 := hM5.cell 2
              simp only [List.getElem?_toArray, List.getElem?_cons_succ, List.getElem?_cons_zero] at y0 y1 y2 m2
              have HX5 := hide hX5; have HM5 := hide hM5; have HR5 := hide hR5; have HC5 := hide hC5; have HB5 := hide hB5; have HB5X := hide hB5x
              have hs7 := hM5.lt
              clear hX5 hM5 hR5 hC5 hB5 hB5x hK45 hm2
              have hRow2 : (w5.alloc (.cells #[.string (S tk.nm), .int .i64 tk.n, .slice rk tk.ar.length rd] 24)).ownsRow (w3.heap.size + 1) 24 3 (.slice q i c) i L.flatten := row_keep HE3.out fun g hg hl => (Below.heap_alloc _ _ _ (by have := HB5X.out.size; omega)).trans (HB5X.out.block g hl)
              have hnews := cells_new w5 [.string (S tk.nm), .int .i64 tk.n, .slice rk tk.ar.length rd] 24
              have hones : ∀ u ∈ ([.string (S tk.nm), .int .i64 tk.n, .slice rk tk.ar.length rd] : List Value), u.oneCell' = true := by simp [Value.oneCell']
              go_wp2_with (first
                | (at_builtin; refine wpList_append_lies _ rfl _ _ 22 rfl (w3.heap.size + 1) 24 i0 _ 3 48 Tryd.underlying22 hi hz0 hz1' hz2' rfl (by omega) (.slice q i c) i L.flatten rfl hRow2 ⟨w5.heap.size, 0, none⟩ 1 1 [.string (S tk.nm), .int .i64 tk.n, .slice rk tk.ar.length rd] rfl rfl hnews hones (by omega) (by unfold maxLen; omega) (by omega) (by simp; omega) (w5.heap.size + 1) (by simp) ?_; intro gg cap W2 hown hgr hat hlt2
                   have k56 : KP (fun b => b < w5.heap.size ∧ some b ≠ (Value.slice q i c).ownBlock) w5 W2 := (KP.alloc w5 _ fun b hb => hb.1).trans (KP.of_grown hgr fun b hb => ⟨by simp; omega, hb.2⟩)
                   have hM6 : Hold w3.heap.size #[.string (S u.nm), .int .i64 0, .slice q i c] 24 W2 := HM5.out.kp k56 ⟨HM5.out.lt, fun e => HE4.out e.symm⟩
                   have m6 := hM6.cell 2
                   have f6 := hM6.frozen 2
                   simp only [List.getElem?_toArray, List.getElem?_cons_succ, List.getElem?_cons_zero] at m6
                   have hw12 : w3.heap.size < W2.heap.size := hM6.lt
                   have HOWN := hide hown; have HGR := hide hgr; have HAT := hide hat; have HK56 := hide k56; have HM6 := hide hM6
                   clear hown hgr hat k56 hM6
                   go_frame)
                | fail)
              have hRS6 : Hold (w.heap.size + 1) #[.string ⟨#[]⟩, .int .i64 0, .slice none 0 0] 24 W2 := HR5.out.kp HK56.out ⟨HR5.out.lt, fun e => by have := HRL2.out _ e.symm; omega⟩
              have hC6 : Hold w.heap.size #[.string (S u.nm), .int .i64 u.n, .slice (some ⟨b, o, none⟩) nk du] 24 W2 := HC5.out.kp HK56.out ⟨HC5.out.lt, fun e => by have := HRL2.out _ e.symm; omega⟩
              have hB6 : Below w.heap.size w W2 := HB5.out.trans (HK56.out.below fun x hx => ⟨by have := HB5.out.size; omega, fun e => by have := HRL2.out _ e.symm; omega⟩)
              have HRW : Hid (Row3 (w3.heap.size + 1) w3.heap.size (W2.setCell ⟨w3.heap.size, 2, none⟩ (.slice (some ⟨gg, 0, none⟩) (i + 1) cap)) (.slice (some ⟨gg, 0, none⟩) (i + 1) cap) (ml ++ [tk])) := by
                have hl := HTL.out
                have := Row3.push (base := w3.heap.size + 1) (bM := w3.heap.size) (x := 0) (W0 := wr) (W := w5) (W1 := W2) (v := .slice q i c) (l := ml) (t := tk) (ds := [.string (S tk.nm), .int .i64 tk.n, .slice rk tk.ar.length rd]) (g := gg) (cap := cap) (L := L) (by rw [HE1.out, hl]) HE2.out HE5.out (KP.of_below HB5X.out fun b hb => hb.2) HINK5.out hszr hm3 HRL.out (by rw [hl]; exact HOWN.out) HGR.out HAT.out HE4.out (.slice (some ⟨gg, 0, none⟩) (i + 1) cap) 2 ⟨_, _, HM6.out⟩
                rw [List.length_append, List.length_singleton, hl] at this
                exact this
              have HMM : Hid (Hold w3.heap.size #[.string (S u.nm), .int .i64 0, .slice (some ⟨gg, 0, none⟩) (i + 1) cap] 24 (W2.setCell ⟨w3.heap.size, 2, none⟩ (.slice (some ⟨gg, 0, none⟩) (i + 1) cap))) := by
                have := HM6.out.set 2 (.slice (some ⟨gg, 0, none⟩) (i + 1) cap)
                exact hide (by simpa using this)
              have HCC : Hid (Hold w.heap.size #[.string (S u.nm), .int .i64 u.n, .slice (some ⟨b, o, none⟩) nk du] 24 (W2.setCell ⟨w3.heap.size, 2, none⟩ (.slice (some ⟨gg, 0, none⟩) (i + 1) cap))) := hC6.other (by omega) _ _
              have HRR : Hid (Hold (w.heap.size + 1) #[.string ⟨#[]⟩, .int .i64 0, .slice none 0 0] 24 (W2.setCell ⟨w3.heap.size, 2, none⟩ (.slice (some ⟨gg, 0, none⟩) (i + 1) cap))) := hRS6.other (by omega) _ _
              have HBB : Hid (Below w.heap.size w (W2.setCell ⟨w3.heap.size, 2, none⟩ (.slice (some ⟨gg, 0, none⟩) (i + 1) cap))) := hB6.setCell (p := ⟨w3.heap.size, 2, none⟩) (by show w.heap.size ≤ w3.heap.size; omega) _
              have hsz3 : w3.heap.size + 1 ≤ (W2.setCell ⟨w3.heap.size, 2, none⟩ (.slice (some ⟨gg, 0, none⟩) (i + 1) cap)).heap.size := by simp; omega
              generalize W2.setCell ⟨w3.heap.size, 2, none⟩ (.slice (some ⟨gg, 0, none⟩) (i + 1) cap) = W3 at *
              have HSG : Hid ((((u.ar.take (i + 1)).map (sub s)).map tsz).sum = sg + tz) := hide HSL2.out.1
              have hzz : sg + tz ≤ m := by omega
              go_roundg (nk - (i + 1))
              case measure => omega
              case rel =>
                refine ⟨i + 1, _, by omega, rfl, by go_num, by rw [HSG.out]; exact hzz, by rw [HSG.out, ← HCST.out], fun k' hk' => ?_, HBB.out, HMM.out, HRR.out, HCC.out, ?_, hsz3⟩
                · rw [HTK2.out] at hk'
                  rcases List.mem_append.1 hk' with h1 | h1
                  · exact HDP.out k' h1
                  · rw [List.mem_singleton.1 h1, HTKE.out]; exact hd1
                · rw [HTK.out]
                  exact HRW.out
            · have HNOT : Hid (¬ (tdp te ≤ d + 1 ∧ tsz te ≤ m + 1)) := hide fun hh => by
                have h1 := HTD.out
                have h2 := HSL2.out
                have h3 := HSZ.out
                apply hnf
                exact ⟨by omega, by omega⟩
              have hR5 := HR4.out.alloc (.cells #[.string ⟨#[]⟩, .int .i64 0, .slice none 0 0] 24)
              have hB5 := HB4.out.alloc HB4.out.size (.cells #[.string ⟨#[]⟩, .int .i64 0, .slice none 0 0] 24)
              clear hnf x0 x1 x2
              go_upto_region 12 with fail
              generalize w4.alloc (.cells #[.string ⟨#[]⟩, .int .i64 0, .slice none 0 0] 24) = w5 at *
              have HR5 := hide hR5; have HB5 := hide hB5
              clear hR5 hB5
              have r2 := HR5.out
              have hf0 := r2.frozen 0
              have hf1 := r2.frozen 1
              have hf2 := r2.frozen 2
              have hr0 := r2.cell 0
              have hr1 := r2.cell 1
              have hr2 := r2.cell 2
              simp only [List.getElem?_toArray, List.getElem?_cons_succ, List.getElem?_cons_zero] at hr0 hr1 hr2
              have hs2 := r2.lt
              clear r2
              go_wp2_with fail
              have hro := hold3 HR5.out (.string ⟨#[]⟩) (.int .i64 0) (.slice none 0 0)
              have q0 := hro.cell 0
              have q1 := hro.cell 1
              have q2 := hro.cell 2
              simp only [List.getElem?_toArray, List.getElem?_cons_succ, List.getElem?_cons_zero] at q0 q1 q2
              have hbz : Below w.heap.size w (((w5.setCell ⟨w.heap.size + 1, 0, none⟩ (.string ⟨#[]⟩)).setCell ⟨w.heap.size + 1, 1, none⟩ (.int .i64 0)).setCell ⟨w.heap.size + 1, 2, none⟩ (.slice none 0 0)) := ((HB5.out.setCell (p := ⟨w.heap.size + 1, 0, none⟩) (by simp) _).setCell (p := ⟨w.heap.size + 1, 1, none⟩) (by simp) _).setCell (p := ⟨w.heap.size + 1, 2, none⟩) (by simp) _
              generalize ((w5.setCell ⟨w.heap.size + 1, 0, none⟩ (.string ⟨#[]⟩)).setCell ⟨w.heap.size + 1, 1, none⟩ (.int .i64 0)).setCell ⟨w.heap.size + 1, 2, none⟩ (.slice none 0 0) = W3 at *
              exact bodyPost_ret (v := .tuple #[.agg #[.string ⟨#[]⟩, .int .i64 0, .slice none 0 0], .int .i64 (-1)]) (by simp only [results, Tryd.results47]; go_simp) rfl ⟨hbz, .inr ⟨HNOT.out, rfl⟩⟩
          · have h1 : u.ar.take i = u.ar := List.take_of_length_le (by rw [HNK.out]; omega)
            rw [h1] at HROW hsum ⊢
            rw [h1] at HDP
            obtain ⟨q, c, rfl, hsl⟩ := Row3.slice HROW.out
            have hm0 := HMD.out.cell 0
            have hm1 := HMD.out.cell 1
            have hm2 := HMD.out.cell 2
            simp only [List.getElem?_toArray, List.getElem?_cons_succ, List.getElem?_cons_zero] at hm0 hm1 hm2
            have hii : ¬ (i : Int) < nk := by omega
            have HSL := hide hsl
            have hlm : (u.ar.map (sub s)).length = nk := by rw [List.length_map]; exact HNK.out
            rw [hlm] at hm2 HSL
            have HLM := hide hlm
            have hdt : tdp te ≤ d + 1 := by
              rw [HSN.out, tdp_le]
              intro k hk
              obtain ⟨k', hk', rfl⟩ := List.mem_map.1 hk
              exact HDP.out k' hk'
            have HDT := hide hdt
            clear h1 hsl hlm hdt
            generalize hsg : ((u.ar.map (sub s)).map tsz).sum = sg at *
            clear hsg
            have r2 := HRS.out
            have hf0 := r2.frozen 0
            have hf1 := r2.frozen 1
            have hf2 := r2.frozen 2
            have hr0 := r2.cell 0
            have hr1 := r2.cell 1
            have hr2 := r2.cell 2
            simp only [List.getElem?_toArray, List.getElem?_cons_succ, List.getElem?_cons_zero] at hr0 hr1 hr2
            have hs2 := r2.lt
            clear r2
            go_wp2_with fail
            have hro := hold3 HRS.out (.string (S u.nm)) (.int .i64 0) (.slice q nk c)
            have q0 := hro.cell 0
            have q1 := hro.cell 1
            have q2 := hro.cell 2
            simp only [List.getElem?_toArray, List.getElem?_cons_succ, List.getElem?_cons_zero] at q0 q1 q2
            have HTQ : Hid (FullQ te (d + 1) (m + 1) w (.returned (.tuple #[.agg #[.string (S u.nm), .int .i64 0, .slice q nk c], .int .i64 ((m : Int) - (sg : Nat))])) (((wr.setCell ⟨w.heap.size + 1, 0, none⟩ (.string (S u.nm))).setCell ⟨w.heap.size + 1, 1, none⟩ (.int .i64 0)).setCell ⟨w.heap.size + 1, 2, none⟩ (.slice q nk c))) := by
              have hl : te.ar.length = nk := by rw [HSN.out]; exact HLM.out
              have hn0 : te.nm = u.nm := by rw [HSN.out]
              have hz : te.n = 0 := by rw [HSN.out]
              have := fullq_cell (T := te) (d := d + 1) (lf := m + 1) (w := w) (W := wr) (pk := q) (ck := c) (B := w.heap.size + 1) (by omega) HBR.out HDT.out (by have := HSZ.out; omega) (by
                rw [TyIn_iff]
                refine ⟨q, c, rfl, by rw [hn0]; exact hnl, by rw [hz]; omega, by rw [hl]; exact HSL.out, ?_⟩
                have h1 := HROW.out.tm
                rw [HSN.out]
                refine TM.keep (KP.refl _ _) (fun b hb => ?_) h1
                have := hb.1
                exact ⟨by omega, hb.2, by omega⟩)
              unfold cs3 at this
              rw [hl, hn0, hz, HSZ.out] at this
              rw [show (((m + 1 : Nat) : Int) - ((1 + sg : Nat) : Int)) = (m : Int) - (sg : Nat) by omega] at this
              exact this
            generalize ((wr.setCell ⟨w.heap.size + 1, 0, none⟩ (.string (S u.nm))).setCell ⟨w.heap.size + 1, 1, none⟩ (.int .i64 0)).setCell ⟨w.heap.size + 1, 2, none⟩ (.slice q nk c) = W3 at *
            exact bodyPost_ret (v := .tuple #[.agg #[.string (S u.nm), .int .i64 0, .slice q nk c], .int .i64 ((m : Int) - (sg : Nat))]) (by simp only [results, Tryd.results47]; go_simp) rfl HTQ.out
      · have hTh : te = hole u.n := by rw [← HTE.out, huk, sub_hole, h.idl k hkn]; rfl
        have HTH2 := hide hTh
        have hnb := HINU.out.bds.2
        have huh : u.nm.isEmpty = true := by rw [huk]; rfl
        have HH := hide (fun W => rhole_any u W qu du)
        unfold cs3 at HH
        rw [huh] at HH
        clear hTh huh huk hkn
        generalize u.ar.length = nk at *
        have x0 := HX2.out.cell 0; have x1 := HX2.out.cell 1; have x2 := HX2.out.cell 2
        simp only [List.getElem?_toArray, List.getElem?_cons_succ, List.getElem?_cons_zero] at x0 x1 x2
        go_wp2_with fail
        refine (HH.out _).mono ?_
        rintro r w3 ⟨rfl, hb⟩
        have HB3 := hide (HB2.out.trans (hb.mono HB2.out.size))
        have HX3 := hide (HX2.out.below hb HX2.out.lt)
        have HR3 := hide (HR2.out.below hb HR2.out.lt)
        clear hb x0 x1 x2
        have x0 := HX3.out.cell 0; have x1 := HX3.out.cell 1; have x2 := HX3.out.cell 2
        simp only [List.getElem?_toArray, List.getElem?_cons_succ, List.getElem?_cons_zero] at x0 x1 x2
        have r2 := HR3.out
        have hf0 := r2.frozen 0
        have hf1 := r2.frozen 1
        have hf2 := r2.frozen 2
        have hr0 := r2.cell 0
        have hr1 := r2.cell 1
        have hr2 := r2.cell 2
        simp only [List.getElem?_toArray, List.getElem?_cons_succ, List.getElem?_cons_zero] at hr0 hr1 hr2
        have hs2 := r2.lt
        clear r2
        go_wp2_with fail
        have hro := hold3 HR3.out (.string ⟨#[]⟩) (.int .i64 u.n) (.slice none 0 0)
        have q0 := hro.cell 0
        have q1 := hro.cell 1
        have q2 := hro.cell 2
        simp only [List.getElem?_toArray, List.getElem?_cons_succ, List.getElem?_cons_zero] at q0 q1 q2
        have HTQ : Hid (FullQ te (d + 1) (m + 1) w (.returned (.tuple #[.agg #[.string ⟨#[]⟩, .int .i64 u.n, .slice none 0 0], .int .i64 (m : Int)])) (((w3.setCell ⟨w.heap.size + 1, 0, none⟩ (.string ⟨#[]⟩)).setCell ⟨w.heap.size + 1, 1, none⟩ (.int .i64 u.n)).setCell ⟨w.heap.size + 1, 2, none⟩ (.slice none 0 0))) := by
          rw [HTH2.out]
          have h1 : tsz (hole u.n) = 1 := by rw [tsz_eq]; rfl
          have h2 : tdp (hole u.n) = 1 := by rw [tdp_eq]; rfl
          have := fullq_cell (T := hole u.n) (d := d + 1) (lf := m + 1) (w := w) (W := w3) (pk := none) (ck := 0) (B := w.heap.size + 1) (by omega) HB3.out (by omega) (by omega) (hole_in _ w3 u.n hnb)
          rw [h1, show (((m + 1 : Nat) : Int) - ((1 : Nat) : Int)) = (m : Int) by omega] at this
          exact this
        generalize ((w3.setCell ⟨w.heap.size + 1, 0, none⟩ (.string ⟨#[]⟩)).setCell ⟨w.heap.size + 1, 1, none⟩ (.int .i64 u.n)).setCell ⟨w.heap.size + 1, 2, none⟩ (.slice none 0 0) = W3 at *
        exact bodyPost_ret (v := .tuple #[.agg #[.string ⟨#[]⟩, .int .i64 u.n, .slice none 0 0], .int .i64 (m : Int)]) (by simp only [results, Tryd.results47]; go_simp) rfl HTQ.out
end
end Go.Proofs.YteoflpalmckikaaDoor
