/-
  append of bytes, for the walks of layer 2.
-/
import Derived.Test.YtnajffpllhckkaaDoorAwake
import Derived.Test.YtnajffpllhckkaaDoorMath3
namespace Go.Proofs.YtnajffpllhckkaaDoor
open Go.RowKit
set_option linter.unusedVariables false

theorem run_append_none (w : World) (ty : TypeId) (pa : Option Addr) (n c : Nat) (h : n ≤ c) : (Builtin.append_ #[22, 22] ty #[.slice pa n c, .slice none 0 0]).run Tryd.prog w = .ok (.slice pa n c) w := by
  have h22 := Tryd.underlying22
  have z5 := Tryd.sizeOf5
  cases pa with
  | none => simp [Builtin.append_, run_underlying h22, z5, Builtin.lenOf, Builtin.firstCells, h]
  | some a => simp [Builtin.append_, run_underlying h22, z5, Builtin.lenOf, Builtin.firstCells, h, storeCells]
/-- append(xs, ys...) of bytes, whatever slice ys is. -/
theorem wpList_app {w : World} {ops : Array Oper} {rest : List Oper} {o : Oper} {a : Act} {Q : Exit → Act → World → Prop} (hgd : o.guard = none) (s x : Operand)
    (ho : o.op = .call { callee := .builtin .append, args := #[s, x], argTypes := #[22, 22] })
    (base : Nat) (pa : Option Addr) (n cp : Nat) (xs : List UInt8) (hs : a.eval s = .slice pa n cp) (hown : w.ownsRow base 5 1 (.slice pa n cp) n (xs.map cl))
    (p : Option Addr) (m c : Nat) (l : List UInt8) (hx : a.eval x = .slice p m c) (hl : l.length = m) (hM : Mem w p l) (hp : p = none → c = 0)
    (hb : n + m ≤ 140737488355328) (hbase : base ≤ w.heap.size)
    (h : ∀ pa' cp' w', w'.ownsRow base 5 1 (.slice pa' (n + m) cp') (n + m) ((xs ++ l).map cl) → w.grownBy w' (Value.slice pa n cp).ownBlock → wpList Tryd.prog ops Q rest (a.put o.dst (.slice pa' (n + m) cp')) w') : wpList Tryd.prog ops Q (o :: rest) a w := by
  have hnc : n ≤ cp := by
    rcases hown.2 with ⟨hv, h0⟩ | ⟨g, cap, cur, hv, _, _, h1, _⟩
    · cases hv; omega
    · cases hv; exact h1
  cases p with
  | none =>
    have hl0 : l = [] ∨ l ≠ [] := Classical.em _
    rcases hM with rfl | ⟨b, o', he, _⟩
    · obtain rfl : m = 0 := by simpa using hl.symm
      obtain rfl := hp rfl
      refine wpList_plain hgd fun K hK => ?_
      unfold Oper.wp execOp
      simp only [ho, resolve, invoke, builtin, Sem.run_bind, Sem.run_pure, Result.andThen_ok, List.map_toArray, List.map_cons, List.map_nil, hs, hx, run_append_none w o.type pa n cp hnc]
      have := h pa cp w (by rw [List.append_nil]; exact hown) ⟨rfl, rfl, rfl, Nat.le_refl _, fun _ _ _ => rfl⟩
      exact hK _ _ this
    · cases he
  | some ad =>
    obtain ⟨i0, hi, hz0, hz1, hz2⟩ := info_parts info5
    refine wpList_append_own _ hgd s x 22 ho base 5 i0 (.int .u8 0) 1 1 Tryd.underlying22 hi hz0 hz1 hz2 rfl (by decide) _ n (xs.map cl) hs hown ad m c (l.map cl) hx (by simp [hl]) ?_ ?_ (by unfold maxLen; omega) (by omega) hbase ?_
    · intro j u hj
      rw [List.getElem?_map] at hj
      obtain ⟨y, hy, rfl⟩ := Option.map_eq_some_iff.1 hj
      rcases hM with rfl | ⟨b, o', he, _, hm⟩
      · simp at hy
      · cases he
        have e0 : (⟨b, o', none⟩ : Addr).add j = ⟨b, o' + j, none⟩ := by unfold Addr.add; split <;> simp_all
        rw [e0]; exact hm j y hy
    · intro u hu
      obtain ⟨y, _, rfl⟩ := List.mem_map.1 hu
      rfl
    · intro v' w' h1 h2 _
      obtain ⟨pa', cp', rfl⟩ := slice_of h1
      exact h pa' cp' w' (by rw [List.map_append]; exact h1) h2
/-- A row of bytes that was made keeps what lies below. -/
theorem grown_below {B n : Nat} {w w' : World} {v : Value} {xs : List Value} (hr : w.ownsRow B 5 1 v n xs) (hB : B ≤ w.heap.size) (hg : w.grownBy w' v.ownBlock) : Below B w w' := below_row hr hB hg
end Go.Proofs.YtnajffpllhckkaaDoor
