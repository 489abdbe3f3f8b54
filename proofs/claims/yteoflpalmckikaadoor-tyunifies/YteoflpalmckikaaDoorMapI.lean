/-
  A MAP WHOSE KEYS ARE NUMBERS, as a function from numbers to values: made, looked up, written, kept.
-/
import Derived.Test.YteoflpalmckikaaDoorBase
import Derived.Maps.OwnOps
namespace Go.Proofs.YteoflpalmckikaaDoor
open Go.RowKit Go.MapKept
set_option linter.unusedVariables false
set_option linter.unusedSimpArgs false
/-- Block b is a map that holds, at each number, what f says. -/
def MapI (w : World) (b : Nat) (f : Int → Option Value) : Prop := ∃ es clock, w.heap[b]? = some (.map es clock) ∧ Stamped es clock ∧ (∀ x ∈ es.toList, ∃ m, x.key = .int .i64 m ∧ f m = some x.val) ∧ ∀ m v, f m = some v → ∃ x ∈ es.toList, x.key = .int .i64 m ∧ x.val = v
def updV (f : Int → Option Value) (m : Int) (v : Value) : Int → Option Value := fun k => if k = m then some v else f k
theorem updV_at (f : Int → Option Value) (m : Int) (v : Value) : updV f m v m = some v := if_pos rfl
theorem updV_ne (f : Int → Option Value) {m k : Int} (v : Value) (h : k ≠ m) : updV f m v k = f k := if_neg h
theorem MapI.lt {w : World} {b : Nat} {f : Int → Option Value} (h : MapI w b f) : b < w.heap.size := by
  obtain ⟨es, clock, hb, _⟩ := h
  exact (Array.getElem?_eq_some_iff.1 hb).1
theorem MapI.keep {w w' : World} {b : Nat} {f : Int → Option Value} (h : MapI w b f) (e : w'.heap[b]? = w.heap[b]?) : MapI w' b f := by
  obtain ⟨es, clock, hb, r⟩ := h
  exact ⟨es, clock, e.trans hb, r⟩
theorem MapI.kp {P : Nat → Prop} {w w' : World} {b : Nat} {f : Int → Option Value} (h : MapI w b f) (k : KP P w w') (hp : P b) : MapI w' b f := h.keep (k.block b hp)
theorem MapI.below {n : Nat} {w w' : World} {b : Nat} {f : Int → Option Value} (h : MapI w b f) (k : Below n w w') (hp : b < n) : MapI w' b f := h.keep (k.block b hp)
theorem MapI.alloc {w : World} {b : Nat} {f : Int → Option Value} (h : MapI w b f) (o : Obj) : MapI (w.alloc o) b f := h.keep (Below.heap_alloc w o b h.lt)
theorem MapI.setCell {w : World} {b : Nat} {f : Int → Option Value} (h : MapI w b f) {b' i : Nat} (v : Value) (hne : b ≠ b') : MapI (w.setCell ⟨b', i, none⟩ v) b f := h.keep (Below.heap_setCell _ _ _ b hne)
theorem MapI.drew {w : World} {b : Nat} {f : Int → Option Value} (h : MapI w b f) : MapI w.drew b f := h
/-- A block of cells is none. -/
theorem MapI.ne {w : World} {b b' : Nat} {f : Int → Option Value} {C : Array Value} {t : TypeId} (h : MapI w b f) (k : Hold b' C t w) : b ≠ b' := by
  rintro rfl
  obtain ⟨es, clock, hb, _⟩ := h
  rw [show w.heap[b]? = _ from k] at hb
  cases hb
theorem MapI.row_ne {w : World} {b base n size : Nat} {f : Int → Option Value} {e : TypeId} {v : Value} {xs : List Value} (h : MapI w b f) (hr : w.ownsRow base e size v n xs) : some b ≠ v.ownBlock := by
  rcases hr.2 with ⟨rfl, _⟩ | ⟨g, cap, cur, rfl, _, hgb, _⟩
  · simp [Value.ownBlock]
  · intro e'
    have e'' : b = g := by simpa [Value.ownBlock] using e'
    subst e''
    obtain ⟨es, clock, hb, _⟩ := h
    rw [hgb] at hb
    cases hb
theorem MapI.made (w : World) : MapI (w.alloc (.map #[] 0)) w.heap.size (fun _ => none) := ⟨#[], 0, (MapKept.heap_alloc w _).1, stamped_empty 0, by simp, fun m v h => by cases h⟩
section
variable {P : Program} {w : World} {T K E : TypeId} {b : Nat} {f : Int → Option Value}
theorem MapI.find (h : MapI w b f) (m : Int) : ∃ es clock, w.heap[b]? = some (.map es clock) ∧ Stamped es clock ∧ (∀ x ∈ es.toList, IsKey (.int .i64) x.key) ∧ ((f m = none ∧ Instr.findNow (.int .i64) (.int .i64 m) es.toList 0 = some none ∧ ∀ x ∈ es.toList, x.key ≠ .int .i64 m) ∨ ∃ j e, f m = some e.val ∧ Instr.findNow (.int .i64) (.int .i64 m) es.toList 0 = some (some (j, e.val)) ∧ es.toList[j]? = some e ∧ e.key = .int .i64 m) := by
  obtain ⟨es, clock, hb, hs, hk, hv⟩ := h
  have hik : ∀ x ∈ es.toList, IsKey (.int .i64) x.key := fun x hx => by
    obtain ⟨m, e, _⟩ := hk x hx
    rw [e]
    rfl
  refine ⟨es, clock, hb, hs, hik, ?_⟩
  rcases findNow_spec (d := .int .i64) (k := .int .i64 m) rfl es.toList 0 hik with ⟨h1, h2⟩ | ⟨j, e, h1, h2, h3⟩
  · refine .inl ⟨?_, h1, h2⟩
    cases hf : f m with
    | none => rfl
    | some v =>
      obtain ⟨x, hx, hxm, _⟩ := hv m v hf
      exact absurd hxm (h2 x hx)
  · refine .inr ⟨j, e, ?_, by simpa using h1, h2, h3⟩
    obtain ⟨m', e1, e2⟩ := hk e (List.mem_of_getElem? h2)
    rw [h3] at e1
    cases e1
    exact e2
theorem MapI.run_look_ok (h : MapI w b f) (ht : P.underlying T = some (.map K E)) (hK : P.underlying K = some (.int .i64)) {z : Value} (hz : (zeroValue E).run P w = .ok z w) (m : Int) : (Instr.lookup T (.map (some b)) (.int .i64 m) true).run P w = .ok (.tuple #[(f m).getD z, .bool (f m).isSome]) w := by
  obtain ⟨es, clock, hb, _, _, h1⟩ := h.find m
  rcases h1 with ⟨h1, h2, _⟩ | ⟨j, e, h1, h2, _, _⟩
  · simp [Instr.lookup, run_underlying ht, MapKept.run_getObj_map hb, MapKept.run_checkKey hK (show IsKey (.int .i64) (.int .i64 m) from rfl), MapKept.run_findKey hK h2, hz, Result.andThen, h1]
  · simp [Instr.lookup, run_underlying ht, MapKept.run_getObj_map hb, MapKept.run_checkKey hK (show IsKey (.int .i64) (.int .i64 m) from rfl), MapKept.run_findKey hK h2, Result.andThen, h1]
theorem MapI.run_look (h : MapI w b f) (ht : P.underlying T = some (.map K E)) (hK : P.underlying K = some (.int .i64)) {z : Value} (hz : (zeroValue E).run P w = .ok z w) (m : Int) : (Instr.lookup T (.map (some b)) (.int .i64 m) false).run P w = .ok ((f m).getD z) w := by
  obtain ⟨es, clock, hb, _, _, h1⟩ := h.find m
  rcases h1 with ⟨h1, h2, _⟩ | ⟨j, e, h1, h2, _, _⟩
  · simp [Instr.lookup, run_underlying ht, MapKept.run_getObj_map hb, MapKept.run_checkKey hK (show IsKey (.int .i64) (.int .i64 m) from rfl), MapKept.run_findKey hK h2, hz, Result.andThen, h1]
  · simp [Instr.lookup, run_underlying ht, MapKept.run_getObj_map hb, MapKept.run_checkKey hK (show IsKey (.int .i64) (.int .i64 m) from rfl), MapKept.run_findKey hK h2, Result.andThen, h1]
/-- What a store leaves: the map, and all other blocks as they were. -/
def Stored (w : World) (b : Nat) (w' : World) : Prop := w.grownBy w' (some b) ∧ w'.heap.size = w.heap.size
theorem MapI.run_store (h : MapI w b f) (ht : P.underlying T = some (.map K E)) (hK : P.underlying K = some (.int .i64)) (m : Int) (v : Value) : ∃ w', (Instr.mapUpdate T (.map (some b)) (.int .i64 m) v).run P w = .ok () w' ∧ MapI w' b (updV f m v) ∧ Stored w b w' := by
  obtain ⟨es, clock, hb, hs, hks, h1⟩ := h.find m
  have hik : IsKey (.int .i64) (.int .i64 m) := rfl
  obtain ⟨es0, clock0, hb0, _, hkv, hvk⟩ := h
  rw [hb] at hb0
  cases hb0
  have hlt : b < w.heap.size := (Array.getElem?_eq_some_iff.1 hb).1
  have hst : ∀ o : Obj, Stored w b { w with heap := w.heap.setIfInBounds b o } := fun o => ⟨⟨rfl, rfl, rfl, by simp, fun i _ hi => (heap_set hb).2 i fun e => hi (by rw [e])⟩, by simp⟩
  rcases h1 with ⟨h1, h2, h3⟩ | ⟨j, e, h1, h2, hj', h3⟩
  · refine ⟨_, by simp [Instr.mapUpdate, run_underlying ht, MapKept.run_getObj_map hb, MapKept.run_checkKey hK hik, MapKept.run_findKey hK h2, MapKept.run_setObj_map _ hb, Result.andThen]; rfl, ⟨_, _, (heap_set hb).1, stamped_push hs h3, ?_, ?_⟩, hst _⟩
    · intro x hx
      simp only [Array.toList_push, List.mem_append, List.mem_singleton] at hx
      rcases hx with hx | rfl
      · obtain ⟨k, e1, e2⟩ := hkv x hx
        exact ⟨k, e1, by rw [updV_ne _ _ fun e => h3 x hx (by rw [e1, e])]; exact e2⟩
      · exact ⟨m, rfl, updV_at _ _ _⟩
    · intro k u hu
      by_cases hkm : k = m
      · subst hkm
        rw [updV_at] at hu
        cases hu
        exact ⟨_, by simp; right; rfl, rfl, rfl⟩
      · rw [updV_ne _ _ hkm] at hu
        obtain ⟨x, hx, e1, e2⟩ := hvk k u hu
        exact ⟨x, by simp; left; simpa using hx, e1, e2⟩
  · have hj : es[j]? = some e := by simpa using hj'
    have hkey : ∀ e', es[j]? = some e' → ({ e' with key := .int .i64 m, val := v } : MapEntry).key = e'.key := fun e' he' => by rw [hj] at he'; cases he'; exact h3.symm
    have hget : ∀ i, (es.modify j fun e => { e with key := .int .i64 m, val := v }).toList[i]? = if j = i then (es.toList[i]?).map (fun e => { e with key := .int .i64 m, val := v }) else es.toList[i]? := by
      intro i
      simp only [Array.getElem?_toList, Array.getElem?_modify]
    refine ⟨{ w with heap := w.heap.setIfInBounds b (.map (es.modify j fun e => { e with key := .int .i64 m, val := v }) clock) }, by simp [Instr.mapUpdate, run_underlying ht, MapKept.run_getObj_map hb, MapKept.run_checkKey hK hik, MapKept.run_findKey hK h2, hj, h3, MapKept.run_keyThatStays hik, MapKept.run_setObj_map _ hb, Result.andThen], ⟨_, _, (heap_set hb).1, stamped_modify hs _ _ (fun _ _ => rfl) (fun e' _ he' => hkey e' he'), ?_, ?_⟩, hst _⟩
    · intro x hx
      obtain ⟨i, hi⟩ := List.mem_iff_getElem?.1 hx
      rw [hget i] at hi
      split at hi
      · rename_i hji
        subst hji
        rw [hj'] at hi
        cases hi
        exact ⟨m, rfl, updV_at _ _ _⟩
      · rename_i hji
        obtain ⟨k, e1, e2⟩ := hkv x (List.mem_of_getElem? hi)
        refine ⟨k, e1, ?_⟩
        rw [updV_ne]
        · exact e2
        · rintro rfl
          have hnd := hs.2.2
          have e3 : (es.toList.map (·.key))[i]? = some (.int .i64 k) := by rw [List.getElem?_map, hi]; simp [e1]
          have e4 : (es.toList.map (·.key))[j]? = some (.int .i64 k) := by rw [List.getElem?_map, hj']; simp [h3]
          exact hji ((List.getElem?_inj (List.getElem?_eq_some_iff.1 e4).1 hnd).1 (e4.trans e3.symm))
    · intro k u hu
      by_cases hkm : k = m
      · subst hkm
        rw [updV_at] at hu
        cases hu
        exact ⟨{ e with key := .int .i64 k, val := v }, List.mem_iff_getElem?.2 ⟨j, by rw [hget, if_pos rfl, hj']; rfl⟩, rfl, rfl⟩
      · rw [updV_ne _ _ hkm] at hu
        obtain ⟨x, hx, e1, e2⟩ := hvk k u hu
        obtain ⟨i, hi⟩ := List.mem_iff_getElem?.1 hx
        refine ⟨x, List.mem_iff_getElem?.2 ⟨i, ?_⟩, e1, e2⟩
        rw [hget, if_neg, hi]
        rintro rfl
        rw [hj'] at hi
        cases hi
        rw [h3] at e1
        cases e1
        exact hkm rfl
end
section
variable {P : Program} {ops : Array Oper} {rest : List Oper} {o : Oper} {a : Act} {Q : Exit → Act → World → Prop}
/-- 'v, ok := m[k]' in a walk. -/
theorem wpList_look_ok (w : World) (hg : o.guard = none) (mm x : Operand) (T : TypeId) (hop : o.op = Op.lookup T mm x true) (K E : TypeId) (ht : P.underlying T = some (.map K E)) (hK : P.underlying K = some (.int .i64)) (z : Value) (hz : (zeroValue E).run P w = .ok z w) (b : Nat) (f : Int → Option Value)
    (hm : a.eval mm = .map (some b)) (hown : MapI w b f) (m : Int) (hx : a.eval x = .int .i64 m) (hK' : wpList P ops Q rest (a.put o.dst (.tuple #[(f m).getD z, .bool (f m).isSome])) w) : wpList P ops Q (o :: rest) a w := by
  refine wpList_plain hg fun K' hKK => ?_
  unfold Oper.wp
  simp [execOp, hop, hm, hx, hown.run_look_ok ht hK hz m, Result.andThen]
  exact hKK _ _ hK'
theorem wpList_look (w : World) (hg : o.guard = none) (mm x : Operand) (T : TypeId) (hop : o.op = Op.lookup T mm x false) (K E : TypeId) (ht : P.underlying T = some (.map K E)) (hK : P.underlying K = some (.int .i64)) (z : Value) (hz : (zeroValue E).run P w = .ok z w) (b : Nat) (f : Int → Option Value)
    (hm : a.eval mm = .map (some b)) (hown : MapI w b f) (m : Int) (hx : a.eval x = .int .i64 m) (hK' : wpList P ops Q rest (a.put o.dst ((f m).getD z)) w) : wpList P ops Q (o :: rest) a w := by
  refine wpList_plain hg fun K' hKK => ?_
  unfold Oper.wp
  simp [execOp, hop, hm, hx, hown.run_look ht hK hz m, Result.andThen]
  exact hKK _ _ hK'
/-- 'm[k] = v' in a walk. -/
theorem wpList_store (w : World) (hg : o.guard = none) (mm x y : Operand) (T : TypeId) (hop : o.op = Op.mapUpdate T mm x y) (K E : TypeId) (ht : P.underlying T = some (.map K E)) (hK : P.underlying K = some (.int .i64)) (b : Nat) (f : Int → Option Value)
    (hm : a.eval mm = .map (some b)) (hown : MapI w b f) (m : Int) (v : Value) (hx : a.eval x = .int .i64 m) (hv : a.eval y = v) (hK' : ∀ w', MapI w' b (updV f m v) → Stored w b w' → wpList P ops Q rest (a.put o.dst undef) w') : wpList P ops Q (o :: rest) a w := by
  refine wpList_plain hg fun K' hKK => ?_
  obtain ⟨w', hrun, r1, r2⟩ := hown.run_store ht hK m v
  unfold Oper.wp
  simp [execOp, hop, hm, hx, hv, hrun, Result.andThen]
  exact hKK _ _ (hK' w' r1 r2)
/-- The same in a region that draws. -/
theorem wpO_look_ok (w : World) (mm x : Operand) (T : TypeId) (hop : o.op = Op.lookup T mm x true) (K E : TypeId) (ht : P.underlying T = some (.map K E)) (hK : P.underlying K = some (.int .i64)) (z : Value) (hz : (zeroValue E).run P w = .ok z w) (b : Nat) (f : Int → Option Value)
    (hm : a.eval mm = .map (some b)) (hown : MapI w b f) (m : Int) (hx : a.eval x = .int .i64 m) {R : Act → World → Prop} (hR : R (a.put o.dst (.tuple #[(f m).getD z, .bool (f m).isSome])) w) : Oper.wp P o a w R Q := by
  unfold Oper.wp
  simp [execOp, hop, hm, hx, hown.run_look_ok ht hK hz m, Result.andThen]
  exact hR
theorem wpO_look (w : World) (mm x : Operand) (T : TypeId) (hop : o.op = Op.lookup T mm x false) (K E : TypeId) (ht : P.underlying T = some (.map K E)) (hK : P.underlying K = some (.int .i64)) (z : Value) (hz : (zeroValue E).run P w = .ok z w) (b : Nat) (f : Int → Option Value)
    (hm : a.eval mm = .map (some b)) (hown : MapI w b f) (m : Int) (hx : a.eval x = .int .i64 m) {R : Act → World → Prop} (hR : R (a.put o.dst ((f m).getD z)) w) : Oper.wp P o a w R Q := by
  unfold Oper.wp
  simp [execOp, hop, hm, hx, hown.run_look ht hK hz m, Result.andThen]
  exact hR
theorem wpO_store (w : World) (mm x y : Operand) (T : TypeId) (hop : o.op = Op.mapUpdate T mm x y) (K E : TypeId) (ht : P.underlying T = some (.map K E)) (hK : P.underlying K = some (.int .i64)) (b : Nat) (f : Int → Option Value)
    (hm : a.eval mm = .map (some b)) (hown : MapI w b f) (m : Int) (v : Value) (hx : a.eval x = .int .i64 m) (hv : a.eval y = v) {R : Act → World → Prop} (hR : ∀ w', MapI w' b (updV f m v) → Stored w b w' → R (a.put o.dst undef) w') : Oper.wp P o a w R Q := by
  obtain ⟨w', hrun, r1, r2⟩ := hown.run_store ht hK m v
  unfold Oper.wp
  simp [execOp, hop, hm, hx, hv, hrun, Result.andThen]
  exact hR w' r1 r2
end
end Go.Proofs.YteoflpalmckikaaDoor
