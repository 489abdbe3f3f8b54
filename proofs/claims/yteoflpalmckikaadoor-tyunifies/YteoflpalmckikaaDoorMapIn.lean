/-
  THE LAWS OF A MAP OF NUMBERS inside a fence (an iterator's walk), and len of it.
-/
import Derived.Test.YteoflpalmckikaaDoorRangeT
import Derived.Maps.OwnIn
import Derived.Sort.MapsRangeIn
namespace Go.Proofs.YteoflpalmckikaaDoor
open Go.RowKit Go.MapKept
set_option linter.unusedVariables false
set_option linter.unusedSimpArgs false
section
variable {P : Program} {w : World} {T K E : TypeId} {b : Nat} {f : Int → Option Value}
theorem MapI.run_len (h : MapI w b f) (ht : P.underlying T = some (.map K E)) (l : List Int) (hn : l.Nodup) (hl : ∀ m, m ∈ l ↔ (f m).isSome = true) (ty : TypeId) : (Builtin.len_ #[T] ty #[.map (some b)]).run P w = .ok (.int .i64 l.length) w := by
  obtain ⟨es, clock, hb, hs, hk, hv⟩ := h
  have e1 : es.size = l.length := by
    have h1 : (es.toList.map (·.key)).Nodup := hs.2.2
    have h2 : (l.map (fun m => Value.int .i64 m)).Nodup := by
      unfold List.Nodup at hn ⊢
      exact List.pairwise_map.2 (hn.imp fun hab e => hab (by cases e; rfl))
    have h3 : ∀ v, v ∈ es.toList.map (·.key) ↔ v ∈ l.map (fun m => Value.int .i64 m) := by
      intro v
      constructor
      · intro hvm
        obtain ⟨x, hx, rfl⟩ := List.mem_map.1 hvm
        obtain ⟨m, e1, e2⟩ := hk x hx
        exact List.mem_map.2 ⟨m, (hl m).2 (by rw [e2]; rfl), e1.symm⟩
      · intro hvm
        obtain ⟨m, hm, rfl⟩ := List.mem_map.1 hvm
        obtain ⟨u, hu⟩ := Option.isSome_iff_exists.1 ((hl m).1 hm)
        obtain ⟨x, hx, e1, _⟩ := hv m u hu
        exact List.mem_map.2 ⟨x, hx, e1⟩
    have h4 := (List.perm_ext_iff_of_nodup h1 h2).2 h3
    have := h4.length_eq
    simpa using this
  simp [Builtin.len_, run_underlying ht, MapKept.run_getObj_map hb, goInt, Result.andThen, e1]
end
section
variable {P : Program} {F : Fence} {nF : Nat} {ops : Array Oper} {rest : List Oper} {o : Oper} {a : Act} {Q : Exit → Act → World → Prop}
theorem wpListIn_look_ok (w : World) (hg : o.guard = none) (mm x : Operand) (T : TypeId) (hop : o.op = Op.lookup T mm x true) (K E : TypeId) (ht : P.underlying T = some (.map K E)) (hK : P.underlying K = some (.int .i64)) (z : Value) (hz : (zeroValue E).run P w = .ok z w) (b : Nat) (f : Int → Option Value)
    (hm : a.eval mm = .map (some b)) (hown : MapI w b f) (m : Int) (hx : a.eval x = .int .i64 m) (hK' : wpListIn F nF P ops Q rest (a.put o.dst (.tuple #[(f m).getD z, .bool (f m).isSome])) w) : wpListIn F nF P ops Q (o :: rest) a w := by
  refine wpListIn_plain hg fun K' hKK => ?_
  unfold Oper.wpIn
  refine ⟨by simp [Oper.about, hop], ?_⟩
  rw [Oper.semAt_plain F _ _ (by rw [hop]; intro c hc'; cases hc')]
  simp [execOp, hop, hm, hx, hown.run_look_ok ht hK hz m, Result.andThen]
  exact hKK _ _ hK'
theorem wpListIn_look (w : World) (hg : o.guard = none) (mm x : Operand) (T : TypeId) (hop : o.op = Op.lookup T mm x false) (K E : TypeId) (ht : P.underlying T = some (.map K E)) (hK : P.underlying K = some (.int .i64)) (z : Value) (hz : (zeroValue E).run P w = .ok z w) (b : Nat) (f : Int → Option Value)
    (hm : a.eval mm = .map (some b)) (hown : MapI w b f) (m : Int) (hx : a.eval x = .int .i64 m) (hK' : wpListIn F nF P ops Q rest (a.put o.dst ((f m).getD z)) w) : wpListIn F nF P ops Q (o :: rest) a w := by
  refine wpListIn_plain hg fun K' hKK => ?_
  unfold Oper.wpIn
  refine ⟨by simp [Oper.about, hop], ?_⟩
  rw [Oper.semAt_plain F _ _ (by rw [hop]; intro c hc'; cases hc')]
  simp [execOp, hop, hm, hx, hown.run_look ht hK hz m, Result.andThen]
  exact hKK _ _ hK'
theorem wpListIn_store (w : World) (hg : o.guard = none) (mm x y : Operand) (T : TypeId) (hop : o.op = Op.mapUpdate T mm x y) (K E : TypeId) (ht : P.underlying T = some (.map K E)) (hK : P.underlying K = some (.int .i64)) (b : Nat) (f : Int → Option Value)
    (hm : a.eval mm = .map (some b)) (hown : MapI w b f) (m : Int) (v : Value) (hx : a.eval x = .int .i64 m) (hv : a.eval y = v) (hK' : ∀ w', MapI w' b (updV f m v) → Stored w b w' → wpListIn F nF P ops Q rest (a.put o.dst undef) w') : wpListIn F nF P ops Q (o :: rest) a w := by
  refine wpListIn_plain hg fun K' hKK => ?_
  obtain ⟨w', hrun, r1, r2⟩ := hown.run_store ht hK m v
  unfold Oper.wpIn
  refine ⟨by simp [Oper.about, hop], ?_⟩
  rw [Oper.semAt_plain F _ _ (by rw [hop]; intro c hc'; cases hc')]
  simp [execOp, hop, hm, hx, hv, hrun, Result.andThen]
  exact hKK _ _ (hK' w' r1 r2)
theorem wpListIn_len (w : World) (hg : o.guard = none) (m : Operand) (T : TypeId) (hop : o.op = Op.call { callee := Callee.builtin Builtin.len, args := #[m], argTypes := #[T] })
    (K E : TypeId) (ht : P.underlying T = some (.map K E)) (b : Nat) (f : Int → Option Value) (hm : a.eval m = .map (some b)) (hown : MapI w b f) (l : List Int) (hn : l.Nodup) (hl : ∀ m, m ∈ l ↔ (f m).isSome = true)
    (hK : wpListIn F nF P ops Q rest (a.put o.dst (.int .i64 l.length)) w) : wpListIn F nF P ops Q (o :: rest) a w := by
  refine wpListIn_plain hg fun K' hK' => ?_
  unfold Oper.wpIn
  refine ⟨by simp [Oper.about, hop, resolve, Target.leads, Sem.run_pure], ?_⟩
  rw [Oper.semAt_plain F _ _ (by rw [hop]; intro c hc'; cases hc')]
  simp [execOp, hop, resolve, invoke, builtin, hm, hown.run_len ht l hn hl o.type, Result.andThen]
  exact hK' _ _ hK
end
/-- The places of what was met. -/
def plF (l : List Int) : Int → Option Value := fun m => if m ∈ l then some (.int .i64 (plc l m)) else none
theorem plF_nil : plF [] = fun _ => none := by funext m; unfold plF; simp
theorem plF_at {l : List Int} {m : Int} (h : m ∈ l) : plF l m = some (.int .i64 (plc l m)) := if_pos h
theorem plF_no {l : List Int} {m : Int} (h : m ∉ l) : plF l m = none := if_neg h
theorem plF_some (l : List Int) (m : Int) : m ∈ l ↔ (plF l m).isSome = true := by unfold plF; split <;> simp_all
theorem plc_last (l : List Int) (n : Int) (h : n ∉ l) : plc (l ++ [n]) n = (l.length : Int) := by
  unfold plc
  rw [List.idxOf_append, if_neg h]
  simp
theorem plc_old (l : List Int) (n m : Int) (h : m ∈ l) : plc (l ++ [n]) m = plc l m := by
  unfold plc
  rw [List.idxOf_append, if_pos h]
theorem plF_new (l : List Int) (n : Int) (h : n ∉ l) : updV (plF l) n (.int .i64 (l.length : Int)) = plF (l ++ [n]) := by
  funext m
  by_cases e : m = n
  · subst e
    rw [updV_at, plF_at (by simp), plc_last l m h]
  · rw [updV_ne _ _ e]
    unfold plF
    by_cases hm : m ∈ l
    · rw [if_pos hm, if_pos (by simp [hm]), plc_old l n m hm]
    · rw [if_neg hm, if_neg (by simp [hm, e])]
end Go.Proofs.YteoflpalmckikaaDoor
