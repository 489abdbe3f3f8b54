/-
  append of what another slice holds; the document's answer copies so.
-/
import Derived.Test.YtnifnbndkbmdcaaDoorRefA
namespace Go.Proofs.YtnifnbndkbmdcaaDoor
open Go.RowKit
set_option linter.unusedVariables false
theorem none48 (w : World) (ty : TypeId) (pa : Option Addr) (n c : Nat) (h : n ≤ c) : (Builtin.append_ #[48, 48] ty #[.slice pa n c, .slice none 0 0]).run Tryd.prog w = .ok (.slice pa n c) w := by
  have h22 := Tryd.underlying48
  have z5 := Tryd.sizeOf3
  cases pa with
  | none => simp [Builtin.append_, run_underlying h22, z5, Builtin.lenOf, Builtin.firstCells, h]
  | some a => simp [Builtin.append_, run_underlying h22, z5, Builtin.lenOf, Builtin.firstCells, h, storeCells]
theorem none22 (w : World) (ty : TypeId) (pa : Option Addr) (n c : Nat) (h : n ≤ c) : (Builtin.append_ #[22, 22] ty #[.slice pa n c, .slice none 0 0]).run Tryd.prog w = .ok (.slice pa n c) w := by
  have h22 := Tryd.underlying22
  have z5 := Tryd.sizeOf32
  cases pa with
  | none => simp [Builtin.append_, run_underlying h22, z5, Builtin.lenOf, Builtin.firstCells, h]
  | some a => simp [Builtin.append_, run_underlying h22, z5, Builtin.lenOf, Builtin.firstCells, h, storeCells]
theorem info3 : (Tryd.prog.info? 3).map (fun i => (i.zero, i.size, i.bytes)) = some (some (.int .i64 0), 1, 8) := by kernel_rfl
/-- append(xs, ys...), whatever slice ys is. -/
theorem wpList_spread {w : World} {ops : Array Oper} {rest : List Oper} {o : Oper} {a : Act} {Q : Exit → Act → World → Prop} (hgd : o.guard = none) (s x : Operand) (t e : TypeId) (i : TypeInfo) (z : Value) (size bytes : Nat)
    (ht : Tryd.prog.underlying t = some (.slice e)) (hi : Tryd.prog.info? e = some i) (hz : i.zero = some z) (hsize : i.size = size) (hby : i.bytes = bytes) (hzs : z.cells.size = size) (hsz : 0 < size)
    (hno : ∀ (ty : TypeId) (pa : Option Addr) (n c : Nat), n ≤ c → (Builtin.append_ #[t, t] ty #[.slice pa n c, .slice none 0 0]).run Tryd.prog w = .ok (.slice pa n c) w)
    (ho : o.op = .call { callee := .builtin .append, args := #[s, x], argTypes := #[t, t] })
    (base : Nat) (pa : Option Addr) (n cp : Nat) (xs : List Value) (hs : a.eval s = .slice pa n cp) (hown : w.ownsRow base e size (.slice pa n cp) n xs)
    (p : Option Addr) (m c : Nat) (news : List Value) (hx : a.eval x = .slice p m c) (hl : news.length = m * size)
    (hsrc : (p = none ∧ m = 0 ∧ c = 0) ∨ ∃ ad, p = some ad ∧ ∀ j u, news[j]? = some u → w.cell? (ad.add j) = some u) (h1 : ∀ u ∈ news, u.oneCell' = true)
    (hb : n + m ≤ 10000000) (hbt : bytes ≤ 64) (hbase : base ≤ w.heap.size)
    (h : ∀ pa' cp' w', w'.ownsRow base e size (.slice pa' (n + m) cp') (n + m) (xs ++ news) → w.grownBy w' (Value.slice pa n cp).ownBlock → wpList Tryd.prog ops Q rest (a.put o.dst (.slice pa' (n + m) cp')) w') : wpList Tryd.prog ops Q (o :: rest) a w := by
  have hnc : n ≤ cp := by
    rcases hown.2 with ⟨hv, h0⟩ | ⟨g, cap, cur, hv, _, _, h1, _⟩
    · cases hv; omega
    · cases hv; exact h1
  rcases hsrc with ⟨rfl, rfl, rfl⟩ | ⟨ad, rfl, hc⟩
  · have hn0 : news = [] := List.length_eq_zero_iff.1 (by omega)
    subst hn0
    refine wpList_plain hgd fun K hK => ?_
    unfold Oper.wp execOp
    simp only [ho, resolve, invoke, builtin, Sem.run_bind, Sem.run_pure, Result.andThen_ok, List.map_toArray, List.map_cons, List.map_nil, hs, hx, hno o.type pa n cp hnc]
    have := h pa cp w (by rw [List.append_nil]; exact hown) ⟨rfl, rfl, rfl, Nat.le_refl _, fun _ _ _ => rfl⟩
    exact hK _ _ this
  · have hbb : (n + m) * bytes ≤ 140737488355328 := by
      have : (n + m) * bytes ≤ 10000000 * 64 := Nat.mul_le_mul hb hbt
      omega
    refine wpList_append_own_at _ hgd s x t ho base e i z size bytes ht hi hz hsize hby hzs hsz _ n xs hs hown ad m c news hx hl hc h1 (by unfold maxLen; omega) hbb hbase ?_
    intro v' w' h1 h2 _ _
    obtain ⟨pa', cp', rfl⟩ := slice_of h1
    exact h pa' cp' w' h1 h2
theorem imem_src {w : World} {p : Option Addr} {l : List Int} {m c : Nat} (h : IMem w p l) (hl : l.length = m) (hp : p = none → c = 0) : (p = none ∧ m = 0 ∧ c = 0) ∨ ∃ ad, p = some ad ∧ ∀ j u, (l.map (Value.int .i64))[j]? = some u → w.cell? (ad.add j) = some u := by
  cases p with
  | none =>
    rcases h with rfl | ⟨b, o, he, _⟩
    · exact .inl ⟨rfl, by simpa using hl.symm, hp rfl⟩
    · cases he
  | some ad =>
    refine .inr ⟨ad, rfl, fun j u hu => ?_⟩
    rw [List.getElem?_map] at hu
    obtain ⟨x, hx, rfl⟩ := Option.map_eq_some_iff.1 hu
    rcases h with rfl | ⟨b, o, he, _, hm⟩
    · simp at hx
    · cases he
      have e0 : (⟨b, o, none⟩ : Addr).add j = ⟨b, o + j, none⟩ := by unfold Addr.add; split <;> simp_all
      rw [e0]; exact hm j x hx
theorem tmem_src {w : World} {p : Option Addr} {l : List Tok} {m c : Nat} (h : TMem w p l) (hl : l.length = m) (hp : p = none → c = 0) : (p = none ∧ m = 0 ∧ c = 0) ∨ ∃ ad, p = some ad ∧ ∀ j u, (tcs l)[j]? = some u → w.cell? (ad.add j) = some u := by
  cases p with
  | none =>
    rcases h with rfl | ⟨b, o, he, _⟩
    · exact .inl ⟨rfl, by simpa using hl.symm, hp rfl⟩
    · cases he
  | some ad =>
    refine .inr ⟨ad, rfl, fun j u hu => ?_⟩
    rcases h with rfl | ⟨b, o, he, _, hm⟩
    · simp [tcs] at hu
    · cases he
      have e0 : (⟨b, o, none⟩ : Addr).add j = ⟨b, o + j, none⟩ := by unfold Addr.add; split <;> simp_all
      rw [e0]
      have hj : j < l.length * 5 := by have := (List.getElem?_eq_some_iff.1 hu).1; rw [tcs_len] at this; exact this
      have hq : j / 5 < l.length := by omega
      have hj2 : j = j / 5 * 5 + j % 5 := by omega
      have hr : j % 5 < 5 := by omega
      have k := tcs_at l (j / 5) l[j / 5] (j % 5) (by simp) hr
      rw [← hj2, hu] at k
      obtain ⟨c0, c1, c2, c3, c4⟩ := hm (j / 5) l[j / 5] (by simp)
      generalize l[j / 5] = t at *
      rw [hj2]
      generalize j % 5 = r at *
      generalize j / 5 = q at *
      match r, hr with
      | 0, _ => rw [Nat.add_zero]; rw [show (tc t)[0]? = some (.int .i64 t.kd) from rfl] at k; rw [k]; exact c0
      | 1, _ => rw [show (tc t)[1]? = some (.string (S t.tx)) from rfl] at k; rw [k]; exact c1
      | 2, _ => rw [show (tc t)[2]? = some (.int .i64 t.nu) from rfl] at k; rw [k]; exact c2
      | 3, _ => rw [show (tc t)[3]? = some (.int .i64 t.ln) from rfl] at k; rw [k]; exact c3
      | 4, _ => rw [show (tc t)[4]? = some (.int .i64 t.co) from rfl] at k; rw [k]; exact c4
theorem row_imem {W : World} {n₀ n c : Nat} {p : Option Addr} {l : List Int} (h : W.ownsRow n₀ 3 1 (.slice p n c) n (l.map (Value.int .i64))) : IMem W p l := by
  rcases h.2 with ⟨hv, h0⟩ | ⟨g, cap, cur, hv, hb, hg, h1, h2, h3, h4⟩
  · left; have := h.1; simp at this; exact List.length_eq_zero_iff.1 (by omega)
  · cases hv
    exact .inr ⟨g, 0, rfl, (Array.getElem?_eq_some_iff.1 hg).1, fun i x hx => by rw [Nat.zero_add]; exact row_cell h (by rw [List.getElem?_map, hx]; rfl)⟩
/-- A slice that was made since w. -/
def Fr (w : World) (p : Option Addr) : Prop := ∃ g, p = some ⟨g, 0, none⟩ ∧ w.heap.size ≤ g
theorem Fr.ne {w : World} {p : Option Addr} (h : Fr w p) : p ≠ none := by
  obtain ⟨g, rfl, _⟩ := h; simp
/-- A slice of n elements that does not lie in the blocks from lo up to hi. -/
def AP (lo hi : Nat) (p : Option Addr) (n : Nat) : Prop := n = 0 ∨ ∃ b o, p = some ⟨b, o, none⟩ ∧ (b < lo ∨ hi ≤ b)
theorem Fr.ap {w : World} {p : Option Addr} (h : Fr w p) (lo hi n : Nat) (hh : hi ≤ w.heap.size) : AP lo hi p n := by
  obtain ⟨g, rfl, hg⟩ := h; exact .inr ⟨g, 0, rfl, .inr (Nat.le_trans hh hg)⟩
theorem TMem.ap {w : World} {p : Option Addr} {l : List Tok} (h : TMem w p l) (hi : Nat) : AP w.heap.size hi p l.length := by
  rcases h with rfl | ⟨b, o, rfl, hb, _⟩
  · exact .inl rfl
  · exact .inr ⟨b, o, rfl, .inl hb⟩
theorem IMem.ap {w : World} {p : Option Addr} {l : List Int} (h : IMem w p l) (hi : Nat) : AP w.heap.size hi p l.length := by
  rcases h with rfl | ⟨b, o, rfl, hb, _⟩
  · exact .inl rfl
  · exact .inr ⟨b, o, rfl, .inl hb⟩
theorem TMem.set {w : World} {p : Option Addr} {l : List Tok} {lo hi b : Nat} (h : TMem w p l) (ha : AP lo hi p l.length) (h1 : lo ≤ b) (h2 : b < hi) (i : Nat) (v : Value) : TMem (w.setCell ⟨b, i, none⟩ v) p l := by
  rcases h with rfl | ⟨g, o, rfl, hg, hc⟩
  · exact .inl rfl
  · rcases ha with h0 | ⟨g', o', he, hg'⟩
    · exact .inl (List.length_eq_zero_iff.1 h0)
    · cases he
      have hne : g ≠ b := by omega
      have e : ∀ j, (w.setCell ⟨b, i, none⟩ v).cell? ⟨g, j, none⟩ = w.cell? ⟨g, j, none⟩ := fun j => World.cell?_of_block (Below.heap_setCell _ _ _ g hne)
      exact .inr ⟨g, o, rfl, by simpa using hg, fun k t ht => by rw [e, e, e, e, e]; exact hc k t ht⟩
theorem IMem.set {w : World} {p : Option Addr} {l : List Int} {lo hi b : Nat} (h : IMem w p l) (ha : AP lo hi p l.length) (h1 : lo ≤ b) (h2 : b < hi) (i : Nat) (v : Value) : IMem (w.setCell ⟨b, i, none⟩ v) p l := by
  rcases h with rfl | ⟨g, o, rfl, hg, hc⟩
  · exact .inl rfl
  · rcases ha with h0 | ⟨g', o', he, hg'⟩
    · exact .inl (List.length_eq_zero_iff.1 h0)
    · cases he
      have hne : g ≠ b := by omega
      have e : ∀ j, (w.setCell ⟨b, i, none⟩ v).cell? ⟨g, j, none⟩ = w.cell? ⟨g, j, none⟩ := fun j => World.cell?_of_block (Below.heap_setCell _ _ _ g hne)
      exact .inr ⟨g, o, rfl, by simpa using hg, fun k x hx => by rw [e]; exact hc k x hx⟩
/-- A state in memory, away from the blocks from lo up to hi. -/
structure RA (lo hi : Nat) (w : World) (po : Option Addr) (co : Nat) (pi : Option Addr) (ci : Nat) (o : List Tok) (st : List Blk) : Prop where
  rs : RS w po co pi ci o st
  ao : AP lo hi po o.length
  ai : AP lo hi pi st.length
theorem RS.ra {w : World} {po : Option Addr} {co : Nat} {pi : Option Addr} {ci : Nat} {o : List Tok} {st : List Blk} (h : RS w po co pi ci o st) (hi : Nat) : RA w.heap.size hi w po co pi ci o st := ⟨h, h.out.ap hi, by have := h.opn.ap hi; rw [ints_len] at this; exact this⟩
theorem RA.below {lo hi : Nat} {w w' : World} {po : Option Addr} {co : Nat} {pi : Option Addr} {ci : Nat} {o : List Tok} {st : List Blk} (h : RA lo hi w po co pi ci o st) (hb : Below w.heap.size w w') : RA lo hi w' po co pi ci o st := ⟨h.rs.below hb, h.ao, h.ai⟩
theorem RA.set {lo hi : Nat} {w : World} {po : Option Addr} {co : Nat} {pi : Option Addr} {ci : Nat} {o : List Tok} {st : List Blk} (h : RA lo hi w po co pi ci o st) {b : Nat} (h1 : lo ≤ b) (h2 : b < hi) (i : Nat) (v : Value) : RA lo hi (w.setCell ⟨b, i, none⟩ v) po co pi ci o st :=
  ⟨⟨h.rs.out.set h.ao h1 h2 i v, h.rs.opn.set (by rw [ints_len]; exact h.ai) h1 h2 i v, h.rs.cap, h.rs.no, h.rs.ni⟩, h.ao, h.ai⟩
end Go.Proofs.YtnifnbndkbmdcaaDoor
