/-
  THE WALK OF web.lay.
-/
import Derived.Test.YteoflpalmckikaaDoorWebS
namespace Go.Proofs.YteoflpalmckikaaDoor
open Go.RowKit
set_option linter.unusedVariables false
set_option linter.unusedSimpArgs false
/-- What lay comes to. -/
def Av (Z : Nat → Prop) (fB : Nat) (w : World) : Prop := ∀ (fv : Int → Option Value) (i : Nat) (s : Value) (p : Option Addr) (n c g : Nat), MapI w fB fv → fv i = some (.agg #[s, .slice p n c]) → (Value.slice p n c).ownBlock = some g → ¬ Z g
theorem MapI.uniq {w : World} {b : Nat} {f g : Int → Option Value} (h : MapI w b f) (k : MapI w b g) : f = g := by
  obtain ⟨es, c, hb, hs, h1, h2⟩ := h
  obtain ⟨es', c', hb', _, k1, k2⟩ := k
  rw [hb] at hb'
  cases hb'
  have key : ∀ {x y : MapEntry} {m : Int}, x ∈ es.toList → y ∈ es.toList → x.key = .int .i64 m → y.key = .int .i64 m → x = y := by
    intro x y m hx hy ex ey
    obtain ⟨i, hi, rfl⟩ := List.getElem_of_mem hx
    obtain ⟨j, hj, rfl⟩ := List.getElem_of_mem hy
    have hnd := hs.2.2
    have e1 : (es.toList.map (·.key))[i]? = some (.int .i64 m) := by rw [List.getElem?_map, List.getElem?_eq_getElem hi]; exact congrArg some ex
    have e2 : (es.toList.map (·.key))[j]? = some (.int .i64 m) := by rw [List.getElem?_map, List.getElem?_eq_getElem hj]; exact congrArg some ey
    have := (List.getElem?_inj (List.getElem?_eq_some_iff.1 e1).1 hnd).1 (e1.trans e2.symm)
    subst this
    rfl
  funext m
  cases hf : f m with
  | some v =>
    obtain ⟨x, hx, ex, ev⟩ := h2 m v hf
    obtain ⟨m', em, eg⟩ := k1 x hx
    rw [ex] at em
    cases em
    rw [eg, ev]
  | none =>
    cases hg : g m with
    | none => rfl
    | some u =>
      obtain ⟨x, hx, ex, ev⟩ := k2 m u hg
      obtain ⟨m', em, ef⟩ := h1 x hx
      rw [ex] at em
      cases em
      rw [hf] at ef
      cases ef
theorem Av.keep {Z : Nat → Prop} {fB : Nat} {w w' : World} (h : Av Z fB w) (e : w'.heap[fB]? = w.heap[fB]?) : Av Z fB w' := fun fv i s p n c g hm => h fv i s p n c g (hm.keep e.symm)
section
variable {D B hB fB lB : Nat} {v : Value} {ties : List Nat} {hp : Int → Option Nat} {fc : Nat → Option Shp} {le : Nat → Option Int} {w w' : World}
theorem WM.free (h : WM D B hB fB lB v ties hp fc le w) (X : Nat → Prop) (hX : ∀ b, X b → b ≠ B ∧ b ≠ hB ∧ b ≠ fB ∧ b ≠ lB ∧ some b ≠ v.ownBlock) (hA : Av X fB w) (k : ∀ b, b < w.heap.size → ¬ X b → w'.heap[b]? = w.heap[b]?) : WM D B hB fB lB v ties hp fc le w' := by
  obtain ⟨fv, f1, f2, f3⟩ := h.fac
  obtain ⟨lv, l1, l2⟩ := h.lea
  refine ⟨h.base, h.ne, (k B h.cell.lt fun hx => (hX B hx).1 rfl).trans h.cell, row_keep h.row fun g hg hl => k g hl fun hx => (hX g hx).2.2.2.2 hg.symm, h.hol.keep (k hB h.hol.lt fun hx => (hX hB hx).2.1 rfl), ⟨fv, f1.keep (k fB f1.lt fun hx => (hX fB hx).2.2.1 rfl), fun i s hs => ?_, f3⟩, ⟨lv, l1.keep (k lB l1.lt fun hx => (hX lB hx).2.2.2.1 rfl), l2⟩, h.few⟩
  obtain ⟨x, e1, p, c, rfl, h2, h3⟩ := f2 i s hs
  exact ⟨_, e1, p, c, rfl, row_keep h2 fun g hg hl => k g hl (hA fv i _ p _ c g f1 e1 hg), h3⟩
theorem WM.other {b i : Nat} {C : Array Value} {t : TypeId} (h : WM D B hB fB lB v ties hp fc le w) (hh : Hold b C t w) (ht : t ≠ 3) (hb : b ≠ B) (u : Value) : WM D B hB fB lB v ties hp fc le (w.setCell ⟨b, i, none⟩ u) := by
  obtain ⟨fv, f1, f2, f3⟩ := h.fac
  obtain ⟨lv, l1, l2⟩ := h.lea
  refine ⟨h.base, h.ne, h.cell.other hb.symm _ _, row_other h.row hh ht _ _, h.hol.setCell _ (h.hol.ne hh), ⟨fv, f1.setCell _ (f1.ne hh), fun j s hs => ?_, f3⟩, ⟨lv, l1.setCell _ (l1.ne hh), l2⟩, h.few⟩
  obtain ⟨x, e1, p, c, rfl, h2, h3⟩ := f2 j s hs
  exact ⟨_, e1, p, c, rfl, row_other h2 hh ht _ _, h3⟩
theorem WM.rows_lt (h : WM D B hB fB lB v ties hp fc le w) {fv : Int → Option Value} (hm : MapI w fB fv) {i n c g : Nat} {s : Value} {p : Option Addr} (hx : fv i = some (.agg #[s, .slice p n c])) (hg : (Value.slice p n c).ownBlock = some g) : g < w.heap.size := by
  obtain ⟨fv', f1, f2, f3⟩ := h.fac
  obtain rfl := hm.uniq f1
  cases hf : fc i with
  | none => rw [f3 i hf] at hx; cases hx
  | some sh =>
    obtain ⟨x, e1, p', c', rfl, h2, h3⟩ := f2 i sh hf
    rw [hx] at e1
    simp only [Option.some.injEq, Value.agg.injEq] at e1
    have hpp : (Value.slice p n c) = .slice p' sh.2.length c' := by
      have := congrArg (fun a : Array Value => a[1]?) e1
      simpa using this
    rw [hpp] at hg
    rcases h2.2 with ⟨hz, _⟩ | ⟨g2, cap2, cur2, hz, _, hg2, _⟩
    · rw [hz] at hg; cases hg
    · rw [hz] at hg
      have : g2 = g := by simpa [Value.ownBlock] using hg
      subst this
      exact (Array.getElem?_eq_some_iff.1 hg2).1
theorem WM.maps_lt (h : WM D B hB fB lB v ties hp fc le w) : B < w.heap.size ∧ hB < w.heap.size ∧ fB < w.heap.size ∧ lB < w.heap.size := by
  obtain ⟨fv, f1, _⟩ := h.fac
  obtain ⟨lv, l1, _⟩ := h.lea
  exact ⟨h.cell.lt, h.hol.lt, f1.lt, l1.lt⟩
end
theorem row_own {w : World} {base e size n : Nat} {v : Value} {xs : List Value} {g : Nat} (h : w.ownsRow base e size v n xs) (hg : v.ownBlock = some g) : base ≤ g ∧ g < w.heap.size := by
  rcases h.2 with ⟨hz, _⟩ | ⟨g2, cap2, cur2, hz, hb, hg2, _⟩
  · rw [hz] at hg; cases hg
  · rw [hz] at hg
    have : g2 = g := by simpa [Value.ownBlock] using hg
    subst this
    exact ⟨hb, (Array.getElem?_eq_some_iff.1 hg2).1⟩
theorem lay_len (t : Ty) : ∀ st : LS, (lay t st).2.tm.length ≤ st.tm.length + tsz t := by
  induction t using Ty.ind with
  | _ t ih =>
    intro st
    rw [lay_eq]
    unfold layF
    rw [tsz_eq]
    split
    · split
      · show st.tm.length ≤ _; omega
      · simp
    · have key : ∀ (l : List Ty), (∀ k ∈ l, k ∈ t.ar) → ∀ acc : List Nat × LS, (layL (l.map fun k => (k, lay k)) acc).2.tm.length ≤ acc.2.tm.length + (l.map tsz).sum := by
        intro l
        induction l with
        | nil => intro _ acc; exact Nat.le_refl _
        | cons k r ihr =>
          intro hl acc
          have h1 := ih k (hl k List.mem_cons_self) acc.2
          have h2 := ihr (fun q hq => hl q (List.mem_cons_of_mem _ hq)) (acc.1 ++ [(lay k acc.2).1], (lay k acc.2).2)
          have e : layL ((k :: r).map fun k => (k, lay k)) acc = layL (r.map fun k => (k, lay k)) (acc.1 ++ [(lay k acc.2).1], (lay k acc.2).2) := rfl
          rw [e]
          simp only [List.map_cons, List.sum_cons]
          simp only at h2
          omega
      have := key t.ar (fun _ h => h) ([], ⟨st.tm ++ [t], st.sh, st.hp⟩)
      simp only [List.length_append, List.length_singleton] at this
      show (layL _ _).2.tm.length ≤ _
      omega
theorem layL_snoc (l : List Ty) (k : Ty) (acc : List Nat × LS) : layL ((l ++ [k]).map fun k => (k, lay k)) acc = ((layL (l.map fun k => (k, lay k)) acc).1 ++ [(lay k (layL (l.map fun k => (k, lay k)) acc).2).1], (lay k (layL (l.map fun k => (k, lay k)) acc).2).2) := by
  unfold layL
  rw [List.map_append, List.foldl_append]
  rfl
def LayQ (D B hB fB lB : Nat) (v : Value) (le : Nat → Option Int) (p : Nat × LS) (w : World) (r : Ending) (w' : World) : Prop := r = .returned (.int .i64 (p.1 : Nat)) ∧ ∃ v', WM D B hB fB lB v' (List.range p.2.tm.length) p.2.hp p.2.sh le w' ∧ KP (Wk B hB fB lB v w) w w' ∧ VB w v v' ∧ ∀ Z : Nat → Prop, (∀ b, Z b → b < w.heap.size) → Av Z fB w → Av Z fB w'
theorem natM_get (hp : Int → Option Nat) (n : Int) : ∃ (x : Int) (bb : Bool), (natM hp n).getD (.int .i64 0) = .int .i64 x ∧ (natM hp n).isSome = bb ∧ ((∃ i : Nat, hp n = some i ∧ x = i ∧ bb = true) ∨ (hp n = none ∧ bb = false)) := by
  unfold natM
  cases h : hp n with
  | some i => exact ⟨i, true, rfl, rfl, .inl ⟨i, rfl, rfl, rfl⟩⟩
  | none => exact ⟨0, false, rfl, rfl, .inr ⟨rfl, rfl⟩⟩
set_option maxHeartbeats 8000000 in
set_option maxRecDepth 100000 in
theorem lay_any {D B hB fB lB : Nat} {le : Nat → Option Int} (t : Ty) : ∀ {P : Nat → Prop} {w : World} {pk : Option Addr} {ck : Nat} {v : Value} {st : LS}, (∀ b, P b → b < D) → TyIn P w t [.string (S t.nm), .int .i64 t.n, .slice pk t.ar.length ck] → WM D B hB fB lB v (List.range st.tm.length) st.hp st.sh le w → st.tm.length + tsz t ≤ 10000 →
    Calls Tryd.prog 44 #[.pointer (some ⟨B, 0, none⟩), .agg (cs3 t pk ck)] w (LayQ D B hB fB lB v le (lay t st) w) := by
  induction t using Ty.ind with
  | _ t ih =>
    intro P w pk ck v st hP hE hM hsz
    have hkl := hE.len
    obtain ⟨hnl, hn1, hn2⟩ := hE.bds
    have hBl := hM.cell.lt
    have hI := fun W => isHole_any t W pk ck
    have hM1 := hM.alloc (.cells (cs3 t pk ck) 24)
    have hX1 := Hold.new w (cs3 t pk ck) 24
    have hX1' := hX1
    obtain ⟨x, bb, hx, hb, hxb⟩ := natM_get st.hp t.n
    have hDw : D ≤ w.heap.size := by have := hM.base; have := hM.cell.lt; omega
    have HIH := hide ih; have HE := hide hE; have HM := hide hM
    have HI := hide hI
    obtain ⟨ly, hly⟩ : ∃ ly, ly = lay t st := ⟨_, rfl⟩
    rw [← hly]
    have HLY := hide hly
    clear hly
    have hws : (w.alloc (.cells (cs3 t pk ck) 24)).heap.size = w.heap.size + 1 := by simp
    have hB1 : Below w.heap.size w (w.alloc (.cells (cs3 t pk ck) 24)) := (Below.refl _ w).alloc (Nat.le_refl _) _
    have c1 := hM1.cell.cell 1
    have x1 := hX1.cell 1
    unfold cs3 at *
    simp only [List.getElem?_toArray, List.getElem?_cons_succ, List.getElem?_cons_zero] at c1 x1
    have HM1 := hide hM1; have HX1 := hide hX1; have HB1 := hide hB1; have HWS := hide hws
    clear ih hE hM hM1 hX1 hX1' hB1 hws hI
    go_enter Tryd.func44, Tryd.ntmps44
    go_upto_region 1 with fail
    have hmap : MapI (w.alloc (.cells #[.string (S t.nm), .int .i64 t.n, .slice pk t.ar.length ck] 24)).drew hB (natM st.hp) := HM1.out.hol
    refine region_J 12 (N := 11) (S := (fun W' : World => W'.cell? ⟨B, 1, none⟩ = some (.map (some hB)) ∧ W'.cell? ⟨w.heap.size, 1, none⟩ = some (.int .i64 t.n) ∧ MapI W' hB (natM st.hp))) (by kernel_rfl) (by kernel_rfl) ?_
    have hS : (fun W' : World => W'.cell? ⟨B, 1, none⟩ = some (.map (some hB)) ∧ W'.cell? ⟨w.heap.size, 1, none⟩ = some (.int .i64 t.n) ∧ MapI W' hB (natM st.hp)) (w.alloc (.cells #[.string (S t.nm), .int .i64 t.n, .slice pk t.ar.length ck] 24)).drew := ⟨c1, x1, hmap⟩
    refine take_D (i := 0) 12 (.pointer (some ⟨B, 0, none⟩)) rfl rfl (by kernel_rfl) (by kernel_rfl) (by kernel_rfl) (by kernel_rfl) (fun _ _ _ h => h) (Or.inl ⟨by rfl, fun W' hW => by obtain ⟨s0, s1, s2⟩ := hW; go_simp⟩) hS ?_
    simp only [Act.put, List.setIfInBounds_toArray, List.set_cons_zero, List.set_cons_succ]
    refine take_D (i := 1) 13 (.pointer (some ⟨B, 0, none⟩)) rfl rfl (by kernel_rfl) (by kernel_rfl) (by kernel_rfl) (by kernel_rfl) (fun _ _ _ h => h) (Or.inl ⟨by rfl, fun W' hW => by obtain ⟨s0, s1, s2⟩ := hW; go_simp⟩) hS ?_
    simp only [Act.put, List.setIfInBounds_toArray, List.set_cons_zero, List.set_cons_succ]
    refine take_D (i := 2) 14 (.pointer (some ⟨B, 1, none⟩)) rfl rfl (by kernel_rfl) (by kernel_rfl) (by kernel_rfl) (by kernel_rfl) (fun _ _ _ h => h) (Or.inl ⟨by rfl, fun W' hW => by obtain ⟨s0, s1, s2⟩ := hW; go_simp⟩) hS ?_
    simp only [Act.put, List.setIfInBounds_toArray, List.set_cons_zero, List.set_cons_succ]
    refine take_D (i := 3) 15 (.map (some hB)) rfl rfl (by kernel_rfl) (by kernel_rfl) (by kernel_rfl) (by kernel_rfl) (fun _ _ _ h => h) (Or.inl ⟨by rfl, fun W' hW => by obtain ⟨s0, s1, s2⟩ := hW; go_simp⟩) hS ?_
    simp only [Act.put, List.setIfInBounds_toArray, List.set_cons_zero, List.set_cons_succ]
    refine take_D (i := 4) 16 (.pointer (some ⟨w.heap.size, 1, none⟩)) rfl rfl (by kernel_rfl) (by kernel_rfl) (by kernel_rfl) (by kernel_rfl) (fun _ _ _ h => h) (Or.inl ⟨by rfl, fun W' hW => by obtain ⟨s0, s1, s2⟩ := hW; go_simp⟩) hS ?_
    simp only [Act.put, List.setIfInBounds_toArray, List.set_cons_zero, List.set_cons_succ]
    refine take_D (i := 5) 17 (.int .i64 t.n) rfl rfl (by kernel_rfl) (by kernel_rfl) (by kernel_rfl) (by kernel_rfl) (fun _ _ _ h => h) (Or.inl ⟨by rfl, fun W' hW => by obtain ⟨s0, s1, s2⟩ := hW; go_simp⟩) hS ?_
    simp only [Act.put, List.setIfInBounds_toArray, List.set_cons_zero, List.set_cons_succ]
    refine take_D (i := 6) 18 (.tuple #[.int .i64 x, .bool bb]) rfl rfl (by kernel_rfl) (by kernel_rfl) (by kernel_rfl) (by kernel_rfl) (fun _ _ _ h => h) (Or.inl ⟨by rfl, fun W' hW => by obtain ⟨s0, s1, s2⟩ := hW; have hlk := s2.run_look_ok (P := Tryd.prog) (T := 56) (K := 3) (E := 3) Tryd.underlying56 Tryd.underlying3 (zero3 _) t.n; rw [hx, hb] at hlk; go_simp⟩) hS ?_
    simp only [Act.put, List.setIfInBounds_toArray, List.set_cons_zero, List.set_cons_succ]
    refine take_D (i := 7) 11 (.tuple #[.int .i64 x, .bool bb]) rfl rfl (by kernel_rfl) (by kernel_rfl) (by kernel_rfl) (by kernel_rfl) (fun _ _ _ h => h) (Or.inl ⟨by rfl, fun W' hW => by obtain ⟨s0, s1, s2⟩ := hW; go_simp⟩) hS ?_
    simp only [Act.put, List.setIfInBounds_toArray, List.set_cons_zero, List.set_cons_succ]
    refine take_D (i := 8) 19 (.int .i64 x) rfl rfl (by kernel_rfl) (by kernel_rfl) (by kernel_rfl) (by kernel_rfl) (fun _ _ _ h => h) (Or.inl ⟨by rfl, fun W' hW => by obtain ⟨s0, s1, s2⟩ := hW; go_simp⟩) hS ?_
    simp only [Act.put, List.setIfInBounds_toArray, List.set_cons_zero, List.set_cons_succ]
    refine take_D (i := 10) 5 (.int .i64 x) rfl rfl (by kernel_rfl) (by kernel_rfl) (by kernel_rfl) (by kernel_rfl) (fun _ _ _ h => h) (Or.inl ⟨by rfl, fun W' hW => by obtain ⟨s0, s1, s2⟩ := hW; go_simp⟩) hS ?_
    simp only [Act.put, List.setIfInBounds_toArray, List.set_cons_zero, List.set_cons_succ]
    refine take_D (i := 9) 20 (.bool bb) rfl rfl (by kernel_rfl) (by kernel_rfl) (by kernel_rfl) (by kernel_rfl) (fun _ _ _ h => h) (Or.inl ⟨by rfl, fun W' hW => by obtain ⟨s0, s1, s2⟩ := hW; go_simp⟩) hS ?_
    simp only [Act.put, List.setIfInBounds_toArray, List.set_cons_zero, List.set_cons_succ]
    refine ready_J (rs := [11]) (by kernel_rfl) (by simp) ?_
    intro jj hjj
    obtain rfl := List.mem_singleton.1 hjj
    clear hjj
    refine op_J rfl rfl fun K hK => ?_
    go_simp
    refine hK _ _ ⟨fun h => absurd h (by omega), ?_⟩
    clear hK K
    refine done_J (by kernel_rfl) ?_ _
    have HN : Hid (WM D B hB fB lB v (List.range st.tm.length) st.hp st.sh le (w.alloc (.cells #[.string (S t.nm), .int .i64 t.n, .slice pk t.ar.length ck] 24)).drew) := HM1.out.below (below_drew _)
    have HX : Hid (Hold w.heap.size #[.string (S t.nm), .int .i64 t.n, .slice pk t.ar.length ck] 24 (w.alloc (.cells #[.string (S t.nm), .int .i64 t.n, .slice pk t.ar.length ck] 24)).drew) := HX1.out
    have HBW : Hid (Below w.heap.size w (w.alloc (.cells #[.string (S t.nm), .int .i64 t.n, .slice pk t.ar.length ck] 24)).drew) := HB1.out.trans ((below_drew _).mono (by have := HWS.out; omega))
    have hVs : (w.alloc (.cells #[.string (S t.nm), .int .i64 t.n, .slice pk t.ar.length ck] 24)).drew.heap.size = w.heap.size + 1 := HWS.out
    have HVS := hide hVs
    clear hVs HB1 HX1 HM1 HWS hS hmap c1 x1
    generalize (w.alloc (.cells #[.string (S t.nm), .int .i64 t.n, .slice pk t.ar.length ck] 24)).drew = V at *
    have v0 := HN.out.cell.cell 0
    have y0 := HX.out.cell 0; have y1 := HX.out.cell 1; have y2 := HX.out.cell 2
    simp only [List.getElem?_toArray, List.getElem?_cons_succ, List.getElem?_cons_zero] at v0 y0 y1 y2
    obtain ⟨vp, vc, hv⟩ := slice_of HN.out.row
    rw [List.length_range] at hv
    have hBV : B < V.heap.size := HN.out.cell.lt
    have hwV : w.heap.size < V.heap.size := HX.out.lt
    obtain ⟨i0, hi, hz0, hz1, hz2⟩ := info_parts info3
    cases hh : t.nm.isEmpty
    · rw [hh] at HI
      have hlay : ly = layF t (t.ar.map fun k => (k, lay k)) st := by rw [HLY.out]; exact lay_eq t st
      have HLAY := hide hlay
      clear hlay
      go_wp2_with fail
      refine (HI.out _).mono ?_
      rintro r V1 ⟨rfl, hb1⟩
      have HN1 := hide (HN.out.below hb1)
      have HXX := hide (HX.out.below hb1 HX.out.lt)
      have HBV1 := hide (HBW.out.trans (hb1.mono HBW.out.size))
      have hsV : V.heap.size ≤ V1.heap.size := hb1.size
      have v0 := HN1.out.cell.cell 0
      have y0 := HXX.out.cell 0; have y1 := HXX.out.cell 1; have y2 := HXX.out.cell 2
      simp only [List.getElem?_toArray, List.getElem?_cons_succ, List.getElem?_cons_zero] at v0 y0 y1 y2
      have hBV1 : B < V1.heap.size := by omega
      have hwV1 : w.heap.size < V1.heap.size := by omega
      have hnB : w.heap.size ≠ B := by omega
      clear hb1 hxb
      subst hv
      go_wp2_with (first
        | (at_builtin; refine wpList_append_lies _ rfl _ _ 27 rfl D 3 i0 (.int .i64 0) 1 8 Tryd.underlying27 hi hz0 hz1 hz2 rfl (by decide) (.slice vp st.tm.length vc) st.tm.length (natV (List.range st.tm.length)) rfl (by have := (HN1.out.alloc (.cells #[.int .i64 (st.tm.length : Nat)] 3)).row; rw [List.length_range] at this; exact this) ⟨V1.heap.size, 0, none⟩ 1 1 [.int .i64 (st.tm.length : Nat)] rfl rfl (cell_one_new _ _ _) (by simp [Value.oneCell']) (by omega) (by unfold maxLen; omega) (by omega) (by simp; omega) (V1.heap.size + 1) (by simp) ?_; intro g cap w3 hown hgr hat hlt
           have kk := WM.push HN1.out hown hgr hat (by omega)
           have kB : Hold B #[.slice vp st.tm.length vc, .map (some hB), .map (some fB), .map (some lB)] 64 w3 := (hgr.block B (by simp; omega) (row_ne HN1.out.cell HN1.out.row (by decide))).trans (HN1.out.cell.alloc _)
           have z0 := kB.cell 0
           have zf := kB.frozen 0
           have kX : Hold w.heap.size #[.string (S t.nm), .int .i64 t.n, .slice pk t.ar.length ck] 24 w3 := (hgr.block w.heap.size (by simp; omega) (row_ne HXX.out HN1.out.row (by decide))).trans (HXX.out.alloc _)
           have d0 := kX.cell 0; have d1 := kX.cell 1; have d2 := kX.cell 2
           simp only [List.getElem?_toArray, List.getElem?_cons_succ, List.getElem?_cons_zero] at z0 d0 d1 d2
           have KX := hide kX
           clear kX
           have KK := hide kk; have KB := hide kB; have HGR := hide hgr
           clear kk kB hgr hown hat
           go_frame)
        | fail)
      have HFE : Hid ((w3.setCell ⟨B, 0, none⟩ (.slice (some ⟨g, 0, none⟩) (st.tm.length + 1) cap)).heap[fB]? = w.heap[fB]?) := by
        obtain ⟨fv, f1, _⟩ := HN1.out.fac
        obtain ⟨fv', f1', _⟩ := HM.out.fac
        exact hide ((Below.heap_setCell _ _ _ fB (f1.ne HN1.out.cell)).trans ((HGR.out.block fB (by have := f1.lt; simp; omega) (f1.row_ne HN1.out.row)).trans ((Below.heap_alloc _ _ _ f1.lt).trans (HBV1.out.block fB f1'.lt))))
      have HFL : Hid (fB < (w3.setCell ⟨B, 0, none⟩ (.slice (some ⟨g, 0, none⟩) (st.tm.length + 1) cap)).heap.size) := by
        obtain ⟨fv, f1, _⟩ := KK.out.1.fac
        exact hide f1.lt
      refine (HI.out _).mono ?_
      rintro r V5 ⟨rfl, hb5⟩
      have HFE5 := hide ((hb5.block fB HFL.out).trans HFE.out)
      have HM5 := hide (KK.out.1.below hb5)
      have HX5 := hide ((KX.out.other hnB 0 (.slice (some ⟨g, 0, none⟩) (st.tm.length + 1) cap)).below hb5 (by have := KX.out.lt; simp; omega))
      have HK5 : Hid (KP (Wk B hB fB lB (.slice vp st.tm.length vc) w) w V5) := ((KP.of_below HBV1.out fun b hb => hb.1).trans (KK.out.2.1.mono fun b hb => hb.step HBV1.out.size (VB.refl _ _))).trans (KP.of_below hb5 fun b hb => by have := hb.1; have := KK.out.2.1.size; have := HBV1.out.size; omega)
      have HVB5 : Hid (VB w (.slice vp st.tm.length vc) (.slice (some ⟨g, 0, none⟩) (st.tm.length + 1) cap)) := (VB.refl _ _).trans KK.out.2.2 HBV1.out.size
      clear KK KB KX HGR z0 zf d0 d1 d2 hlt hb5 HFE HFL
      have u0 := HX5.out.cell 0; have u2 := HX5.out.cell 2
      have hwV5 : w.heap.size < V5.heap.size := HX5.out.lt
      have hBV5 : B < V5.heap.size := HM5.out.cell.lt
      simp only [List.getElem?_toArray, List.getElem?_cons_succ, List.getElem?_cons_zero] at u0 u2
      have HTM := hide (tm_of HE.out)
      have htz := tsz_eq t
      have hlen : t.ar.length ≤ 10000 := by have := ar_le t; omega
      generalize hnk : t.ar.length = nk at *
      have HNK := hide hnk
      have HTZ := hide htz
      clear hnk htz
      go_wp2_with fail
      have HIS : Hid (Hold V5.heap.size #[.string (S t.nm), .slice none 0 0] 81 (V5.alloc (.cells #[.string (S t.nm), .slice none 0 0] 81))) := Hold.new V5 _ 81
      go_loopg [58] nk (fun k s58 wr => ∃ (i : Nat) (v' : Value) (ip : Option Addr) (ic : Nat) (acc : List Nat × LS), i ≤ nk ∧ k = nk - i ∧ s58 = .int .i64 i ∧ acc = layL ((t.ar.take i).map fun k => (k, lay k)) ([], ⟨st.tm ++ [t], st.sh, st.hp⟩) ∧ WM D B hB fB lB v' (List.range acc.2.tm.length) acc.2.hp acc.2.sh le wr ∧ KP (Wk B hB fB lB (.slice vp st.tm.length vc) w) w wr ∧ VB w (.slice vp st.tm.length vc) v' ∧ Hold V5.heap.size #[.string (S t.nm), .slice ip i ic] 81 wr ∧ wr.ownsRow V5.heap.size 3 1 (.slice ip i ic) i (natV acc.1) ∧ acc.1.length = i ∧ (∀ g, (Value.slice ip i ic).ownBlock = some g → some g ≠ v'.ownBlock) ∧ acc.2.tm.length ≤ st.tm.length + 1 + ((t.ar.take i).map tsz).sum ∧ (∀ Z : Nat → Prop, (∀ b, Z b → b < w.heap.size) → Av Z fB w → Av Z fB wr) ∧ Av (fun b => (Value.slice ip i ic).ownBlock = some b) fB wr)
      case atStart =>
        refine ⟨0, _, none, 0, ([], ⟨st.tm ++ [t], st.sh, st.hp⟩), Nat.zero_le _, by omega, rfl, rfl, by have := HM5.out.alloc (.cells #[.string (S t.nm), .slice none 0 0] 81); simpa using this, HK5.out.trans (KP.alloc _ _ fun b hb => by have := hb.1; omega), HVB5.out, HIS.out, World.ownsRow_nil _ _ _ _, rfl, (fun g hg => (by cases hg)), by simp, fun Z _ hz => (hz.keep HFE5.out).keep (Below.heap_alloc _ _ _ (by obtain ⟨fv, f1, _⟩ := HM5.out.fac; exact f1.lt)), (fun fv i s p n c g _ _ _ hz => (by cases hz))⟩
      case round =>
        obtain ⟨i, v', ip, ic, acc, hi1, rfl, rfl, hacc, hwm, hkp, hvb, his, hir, hal, hne, hsz2, hav, hav2⟩ := hrel
        have HACC := hide hacc; have HWM := hide hwm; have HKP := hide hkp; have HVB := hide hvb; have HIS2 := hide his; have HIR := hide hir; have HAL := hide hal; have HNE := hide hne; have HSZ := hide hsz2; have HAV := hide hav; have HAV2 := hide hav2
        have hV5r : V5.heap.size < wr.heap.size := his.lt
        by_cases hlt : i < nk
        · have hil : i < t.ar.length := by rw [HNK.out]; exact hlt
          obtain ⟨b, o, qk, dk, hpk, hPb, hIn, a0, a1, a2⟩ := tm_at HTM.out hil
          have hPW : ∀ b, P b → Wk B hB fB lB (.slice vp st.tm.length vc) w b := fun b hb => by
            have := hP b hb
            have hba := HM.out.base
            refine ⟨by omega, by omega, by omega, by omega, by omega, fun e => ?_⟩
            rcases HM.out.row.2 with ⟨hz, _⟩ | ⟨g2, cap2, cur2, hz, hb2, _⟩
            · rw [hz] at e; cases e
            · rw [hz] at e
              have : b = g2 := by simpa [Value.ownBlock] using e
              omega
          have hcc : ∀ x, wr.cell? ⟨b, x, none⟩ = w.cell? ⟨b, x, none⟩ := fun x => hkp.cell (hPW b hPb) x
          rw [← hcc] at a0 a1 a2
          have htk : (t.ar.take (i + 1)) = t.ar.take i ++ [t.ar[i]] := List.take_succ_eq_append_getElem hil
          have hst := sum_take tsz hil
          have hstl := sum_take_le tsz t.ar (i + 1)
          have hbk : b < wr.heap.size := by have := hP b hPb; have := HM.out.base; omega
          have hcall := HIH.out t.ar[i] (by simp) (w := (wr.alloc (.cells #[.string (S t.ar[i].nm), .int .i64 t.ar[i].n, .slice qk t.ar[i].ar.length dk] 24)).drew) (v := v') (st := acc.2) hP (TyIn.keep ((hkp.mono hPW).trans ((KP.alloc _ _ fun b hb => by have := hP b hb; have := HM.out.base; omega).drew)) (fun b hb => hb) _ _ hIn) ((HWM.out.alloc _).below (below_drew _)) (by have := HTZ.out; have := HSZ.out; omega)
          have hlaylen := lay_len t.ar[i] acc.2
          subst hpk
          generalize t.ar[i] = k at *
          have HC := hide hcall; have HTK := hide htk; have HST := hide hst; have HSTL := hide hstl; have HPW := hide hPW; have HLL := hide hlaylen; have HIN := hide hIn
          have i1 := HIS2.out.cell 1
          simp only [List.getElem?_toArray, List.getElem?_cons_succ, List.getElem?_cons_zero] at i1
          have hii : (i : Int) < nk := by omega
          clear hcall htk hst hstl hPW hlaylen hIn hcc hacc hwm hkp hvb his hir hal hne hsz2 hav hav2
          go_upto_region 13 with fail
          have hxx := Hold.new wr #[.string (S k.nm), .int .i64 k.n, .slice qk k.ar.length dk] 24
          have hyy := HIS2.out.alloc (.cells #[.string (S k.nm), .int .i64 k.n, .slice qk k.ar.length dk] 24)
          refine wp_region_noPanic ?_
          refine region_J 9 (N := 7) (S := (fun W' : World => W'.cell? ⟨V5.heap.size, 1, none⟩ = some (.slice ip i ic) ∧ W'.cell? ⟨wr.heap.size, 0, none⟩ = some (.string (S k.nm)) ∧ W'.cell? ⟨wr.heap.size, 1, none⟩ = some (.int .i64 k.n) ∧ W'.cell? ⟨wr.heap.size, 2, none⟩ = some (.slice qk k.ar.length dk))) (by kernel_rfl) (by kernel_rfl) ?_
          have hS : (fun W' : World => W'.cell? ⟨V5.heap.size, 1, none⟩ = some (.slice ip i ic) ∧ W'.cell? ⟨wr.heap.size, 0, none⟩ = some (.string (S k.nm)) ∧ W'.cell? ⟨wr.heap.size, 1, none⟩ = some (.int .i64 k.n) ∧ W'.cell? ⟨wr.heap.size, 2, none⟩ = some (.slice qk k.ar.length dk)) (wr.alloc (.cells #[.string (S k.nm), .int .i64 k.n, .slice qk k.ar.length dk] 24)).drew := ⟨hyy.cell 1, hxx.cell 0, hxx.cell 1, hxx.cell 2⟩
          have HXX2 := hide hxx; have HYY := hide hyy
          clear hxx hyy
          refine take_D (i := 0) 62 (.pointer (some ⟨V5.heap.size, 1, none⟩)) rfl rfl (by kernel_rfl) (by kernel_rfl) (by kernel_rfl) (by kernel_rfl) (fun _ _ _ h => h) (Or.inl ⟨by rfl, fun W' hW => by obtain ⟨s0, s1, s2, s3⟩ := hW; go_simp⟩) hS ?_
          simp only [Act.put, List.setIfInBounds_toArray, List.set_cons_zero, List.set_cons_succ]
          refine take_D (i := 1) 63 (.slice ip i ic) rfl rfl (by kernel_rfl) (by kernel_rfl) (by kernel_rfl) (by kernel_rfl) (fun _ _ _ h => h) (Or.inl ⟨by rfl, fun W' hW => by obtain ⟨s0, s1, s2, s3⟩ := hW; go_simp⟩) hS ?_
          simp only [Act.put, List.setIfInBounds_toArray, List.set_cons_zero, List.set_cons_succ]
          refine take_D (i := 2) 64 (.pointer (some ⟨B, 0, none⟩)) rfl rfl (by kernel_rfl) (by kernel_rfl) (by kernel_rfl) (by kernel_rfl) (fun _ _ _ h => h) (Or.inl ⟨by rfl, fun W' hW => by obtain ⟨s0, s1, s2, s3⟩ := hW; go_simp⟩) hS ?_
          simp only [Act.put, List.setIfInBounds_toArray, List.set_cons_zero, List.set_cons_succ]
          refine take_D (i := 3) 65 (.agg #[.string (S k.nm), .int .i64 k.n, .slice qk k.ar.length dk]) rfl rfl (by kernel_rfl) (by kernel_rfl) (by kernel_rfl) (by kernel_rfl) (fun _ _ _ h => h) (Or.inl ⟨by rfl, fun W' hW => by obtain ⟨s0, s1, s2, s3⟩ := hW; go_simp⟩) hS ?_
          simp only [Act.put, List.setIfInBounds_toArray, List.set_cons_zero, List.set_cons_succ]
          refine ready_J (rs := [4]) (by kernel_rfl) (by simp) ?_
          intro jj hjj
          obtain rfl := List.mem_singleton.1 hjj
          clear hjj
          refine op_J rfl rfl fun K hK => ?_
          go_simp
          refine HC.out.mono ?_
          rintro r w2 ⟨rfl, v2, hwm2, hkp2, hvb2, hav2⟩
          have hw2s : wr.heap.size + 1 ≤ w2.heap.size := by
            have := hkp2.size
            have e : (wr.alloc (.cells #[.string (S k.nm), .int .i64 k.n, .slice qk k.ar.length dk] 24)).drew.heap.size = wr.heap.size + 1 := by show (wr.alloc _).heap.size = _; simp
            omega
          obtain ⟨mB, mh, mf, ml⟩ := HM.out.maps_lt
          have hWk1 : ∀ b, V5.heap.size ≤ b → b < wr.heap.size + 1 → some b ≠ v'.ownBlock → Wk B hB fB lB v' (wr.alloc (.cells #[.string (S k.nm), .int .i64 k.n, .slice qk k.ar.length dk] 24)).drew b := fun b h1 h2 h3 => ⟨by show b < (wr.alloc _).heap.size; simp; omega, by omega, by omega, by omega, by omega, h3⟩
          have hISx : Hold V5.heap.size #[.string (S t.nm), .slice ip i ic] 81 w2 := (hkp2.block _ (hWk1 _ (Nat.le_refl _) (by omega) (row_ne HIS2.out HWM.out.row (by decide)))).trans HYY.out
          have hwrn : some wr.heap.size ≠ v'.ownBlock := fun e => by have := (row_own HWM.out.row e.symm).2; omega
          have hXXx : Hold wr.heap.size #[.string (S k.nm), .int .i64 k.n, .slice qk k.ar.length dk] 24 w2 := (hkp2.block _ (hWk1 _ (by omega) (by omega) hwrn)).trans HXX2.out
          have hIRx : w2.ownsRow V5.heap.size 3 1 (.slice ip i ic) i (natV acc.1) := row_keep HIR.out fun g hg hl => (hkp2.block g (hWk1 g (row_own HIR.out hg).1 (by omega) (HNE.out g hg))).trans (Below.heap_alloc wr _ g hl)
          have hfb1 : (wr.alloc (.cells #[.string (S k.nm), .int .i64 k.n, .slice qk k.ar.length dk] 24)).drew.heap[fB]? = wr.heap[fB]? := Below.heap_alloc wr _ fB HWM.out.maps_lt.2.2.1
          have hav3 := hav2 (fun b => (Value.slice ip i ic).ownBlock = some b) (fun b hb => by have := (row_own HIR.out hb).2; show b < (wr.alloc _).heap.size; simp; omega) (HAV2.out.keep hfb1)
          have HWM2 := hide hwm2; have HKP2 := hide hkp2; have HVB2 := hide hvb2; have HAVC := hide hav2; have HAV3 := hide hav3; have HISX := hide hISx; have HXXX := hide hXXx; have HIRX := hide hIRx; have HFB1 := hide hfb1
          have j0 := hXXx.cell 0; have j1 := hXXx.cell 1; have j2 := hXXx.cell 2; have j3 := hISx.cell 1
          simp only [List.getElem?_toArray, List.getElem?_cons_succ, List.getElem?_cons_zero] at j0 j1 j2 j3
          refine hK _ _ ⟨fun _ => ⟨j3, j0, j1, j2⟩, ?_⟩
          clear hK K hwm2 hkp2 hvb2 hav2 hav3 hISx hXXx hIRx hfb1 hS hWk1 HC
          refine ready_J (rs := [5]) (by kernel_rfl) (by simp) ?_
          intro jj hjj
          obtain rfl := List.mem_singleton.1 hjj
          clear hjj
          refine op_J rfl rfl fun K hK => ?_
          go_simp
          have hISy := HISX.out.alloc (.cells #[(.int .i64 ((lay k acc.2).1 : Nat))] 3)
          have hXXy := HXXX.out.alloc (.cells #[(.int .i64 ((lay k acc.2).1 : Nat))] 3)
          refine hK _ _ ⟨fun _ => ⟨hISy.cell 1, hXXy.cell 0, hXXy.cell 1, hXXy.cell 2⟩, ?_⟩
          clear hK K
          refine ready_J (rs := [6]) (by kernel_rfl) (by simp) ?_
          intro jj hjj
          obtain rfl := List.mem_singleton.1 hjj
          clear hjj
          refine op_J rfl rfl fun K hK => ?_
          refine wp_append_lies _ _ _ _ (by rfl) V5.heap.size 3 i0 _ 1 8 Tryd.underlying27 hi hz0 hz1 hz2 rfl (by omega) (.slice ip i ic) i (natV acc.1) (by rfl) (HIRX.out.alloc _) ⟨w2.heap.size, 0, none⟩ 1 1 [(.int .i64 ((lay k acc.2).1 : Nat))] (by rfl) (by rfl) (cell_one_new _ _ _) (by simp [Value.oneCell']) (by omega) (by unfold maxLen; omega) (by omega) (by simp; omega) (w2.heap.size + 1) (by simp) ?_
          intro g2 cap2 w4 hown hgr hat hlt4
          have hIS4 : Hold V5.heap.size #[.string (S t.nm), .slice ip i ic] 81 w4 := (hgr.block _ (by have := HISX.out.lt; simp; omega) (row_ne HISX.out HIRX.out (by decide))).trans hISy
          have hXX4 : Hold wr.heap.size #[.string (S k.nm), .int .i64 k.n, .slice qk k.ar.length dk] 24 w4 := (hgr.block _ (by have := HXXX.out.lt; simp; omega) (row_ne HXXX.out HIRX.out (by decide))).trans hXXy
          have k0 := hXX4.cell 0; have k1 := hXX4.cell 1; have k2 := hXX4.cell 2; have k3 := hIS4.cell 1; have k4 := hIS4.frozen 1
          simp only [List.getElem?_toArray, List.getElem?_cons_succ, List.getElem?_cons_zero] at k0 k1 k2 k3
          refine hK _ _ ⟨fun _ => ⟨k3, k0, k1, k2⟩, ?_⟩
          clear hK K hXXy
          have HIS4 := hide hIS4; have HOWN := hide hown; have HGR := hide hgr; have HAT := hide hat
          have hgr24 : w2.heap.size ≤ w4.heap.size := by have := hgr.size; simp at this; omega
          clear hIS4 hown hgr hat hISy hXX4
          refine ready_J (rs := [7]) (by kernel_rfl) (by simp) ?_
          intro jj hjj
          obtain rfl := List.mem_singleton.1 hjj
          clear hjj
          refine op_J rfl rfl fun K hK => ?_
          go_simp
          refine hK _ _ ⟨fun h => absurd h (by omega), ?_⟩
          clear hK K
          refine ready_J (rs := [8]) (by kernel_rfl) (by simp) ?_
          intro jj hjj
          obtain rfl := List.mem_singleton.1 hjj
          clear hjj
          refine op_J rfl rfl fun K hK => ?_
          go_simp
          refine hK _ _ ⟨fun h => absurd h (by omega), ?_⟩
          clear hK K
          refine done_J (by kernel_rfl) ?_ _
          refine NoPanic.normal ?_
          have h24 : ∀ b, b < w2.heap.size → (Value.slice ip i ic).ownBlock ≠ some b → w4.heap[b]? = w2.heap[b]? := fun b hb hn => (HGR.out.block b (by simp; omega) (fun e => hn e.symm)).trans (Below.heap_alloc _ _ b hb)
          have hBV : V5.heap.size ≠ B := by omega
          have hown2 := fun g hg => row_own HIRX.out (g := g) hg
          have hwm4 : WM D B hB fB lB v2 (List.range (lay k acc.2).2.tm.length) (lay k acc.2).2.hp (lay k acc.2).2.sh le w4 := HWM2.out.free (fun b => (Value.slice ip i ic).ownBlock = some b) (fun b hb => by
            have := (hown2 b hb).1
            refine ⟨by omega, by omega, by omega, by omega, fun e => ?_⟩
            rcases HVB2.out b e.symm with h | h
            · exact HNE.out b hb h.symm
            · have := (row_own HIR.out hb).2
              have e : (wr.alloc (.cells #[.string (S k.nm), .int .i64 k.n, .slice qk k.ar.length dk] 24)).drew.heap.size = wr.heap.size + 1 := by show (wr.alloc _).heap.size = _; simp
              omega) HAV3.out h24
          have HWM6 := hide (hwm4.other (i := 1) HIS4.out (by decide) hBV (.slice (some ⟨g2, 0, none⟩) (i + 1) cap2))
          have HIS6 : Hid (Hold V5.heap.size #[.string (S t.nm), .slice (some ⟨g2, 0, none⟩) (i + 1) cap2] 81 (w4.setCell ⟨V5.heap.size, 1, none⟩ (.slice (some ⟨g2, 0, none⟩) (i + 1) cap2))) := by
            have := HIS4.out.set 1 (.slice (some ⟨g2, 0, none⟩) (i + 1) cap2)
            exact hide (by simpa using this)
          have HIR6 : Hid ((w4.setCell ⟨V5.heap.size, 1, none⟩ (.slice (some ⟨g2, 0, none⟩) (i + 1) cap2)).ownsRow V5.heap.size 3 1 (.slice (some ⟨g2, 0, none⟩) (i + 1) cap2) (i + 1) (natV (acc.1 ++ [(lay k acc.2).1]))) := by
            rw [natV_snoc]
            exact hide (row_other HOWN.out HIS4.out (by decide) _ _)
          have HKP6 : Hid (KP (Wk B hB fB lB (.slice vp st.tm.length vc) w) w (w4.setCell ⟨V5.heap.size, 1, none⟩ (.slice (some ⟨g2, 0, none⟩) (i + 1) cap2))) := by
            refine hide (((HKP.out.trans ((KP.alloc wr (.cells #[.string (S k.nm), .int .i64 k.n, .slice qk k.ar.length dk] 24) fun b hb => ?_).drew)).trans (HKP2.out.mono fun b hb => ?_)).trans ⟨HGR.out.os, HGR.out.tape, HGR.out.output, by simpa using hgr24, fun b hb => ?_⟩)
            · have := hb.1; have := HKP.out.size; omega
            · have h1 := hb.step HKP.out.size HVB.out
              exact h1.step (by show wr.heap.size ≤ (wr.alloc _).heap.size; simp) (VB.refl _ _)
            · have := hb.1
              exact (Below.heap_setCell _ _ _ b (by show b ≠ V5.heap.size; omega)).trans (h24 b (by omega) (fun e => by have := (hown2 b e).1; omega))
          have HVB6 : Hid (VB w (.slice vp st.tm.length vc) v2) := (HVB.out.trans (VB.refl _ _) HKP.out.size).trans (w' := (wr.alloc (.cells #[.string (S k.nm), .int .i64 k.n, .slice qk k.ar.length dk] 24)).drew) HVB2.out (by show w.heap.size ≤ (wr.alloc _).heap.size; have := HKP.out.size; simp; omega)
          have HNE6 : Hid (∀ g, (Value.slice (some ⟨g2, 0, none⟩) (i + 1) cap2).ownBlock = some g → some g ≠ v2.ownBlock) := by
            refine hide fun g hg e => ?_
            have e' : g2 = g := by simpa [Value.ownBlock] using hg
            subst e'
            rcases HAT.out with ha | ha
            · rcases HVB2.out g2 e.symm with h | h
              · exact HNE.out g2 ha h.symm
              · have := (row_own HIR.out ha).2
                have e : (wr.alloc (.cells #[.string (S k.nm), .int .i64 k.n, .slice qk k.ar.length dk] 24)).drew.heap.size = wr.heap.size + 1 := by show (wr.alloc _).heap.size = _; simp
                omega
            · have := (row_own HWM2.out.row e.symm).2
              omega
          have hfb6 : (w4.setCell ⟨V5.heap.size, 1, none⟩ (.slice (some ⟨g2, 0, none⟩) (i + 1) cap2)).heap[fB]? = w2.heap[fB]? := (Below.heap_setCell _ _ _ fB (by show fB ≠ V5.heap.size; omega)).trans (h24 fB HWM2.out.maps_lt.2.2.1 fun e => by have := (hown2 fB e).1; omega)
          have HAV6 : Hid (∀ Z : Nat → Prop, (∀ b, Z b → b < w.heap.size) → Av Z fB w → Av Z fB (w4.setCell ⟨V5.heap.size, 1, none⟩ (.slice (some ⟨g2, 0, none⟩) (i + 1) cap2))) := hide fun Z hz ha => (HAVC.out Z (fun b hb => by have := hz b hb; have := HKP.out.size; show b < (wr.alloc _).heap.size; simp; omega) ((HAV.out Z hz ha).keep HFB1.out)).keep hfb6
          have HAV26 : Hid (Av (fun b => (Value.slice (some ⟨g2, 0, none⟩) (i + 1) cap2).ownBlock = some b) fB (w4.setCell ⟨V5.heap.size, 1, none⟩ (.slice (some ⟨g2, 0, none⟩) (i + 1) cap2))) := by
            refine hide fun fv j s p n c g hm hx hg hz => ?_
            have e' : g2 = g := by simpa [Value.ownBlock] using hz
            subst e'
            have hm2 : MapI w2 fB fv := hm.keep hfb6.symm
            rcases HAT.out with ha | ha
            · exact HAV3.out fv j s p n c g2 hm2 hx hg ha
            · have := HWM2.out.rows_lt hm2 hx hg
              omega
          have hV5s : V5.heap.size < (w4.setCell ⟨V5.heap.size, 1, none⟩ (.slice (some ⟨g2, 0, none⟩) (i + 1) cap2)).heap.size := by simp; omega
          clear h24 hown2 hwm4 hfb6
          generalize (w4.setCell ⟨V5.heap.size, 1, none⟩ (.slice (some ⟨g2, 0, none⟩) (i + 1) cap2)) = W6 at *
          go_wp2_with fail
          go_roundg (nk - (i + 1))
          case measure => omega
          case rel =>
            refine ⟨i + 1, v2, _, cap2, (acc.1 ++ [(lay k acc.2).1], (lay k acc.2).2), by omega, rfl, by go_num, ?_, HWM6.out, HKP6.out, HVB6.out, HIS6.out, HIR6.out, ?_, HNE6.out, ?_, HAV6.out, HAV26.out⟩
            · rw [HTK.out, layL_snoc, ← HACC.out]
            · rw [List.length_append, HAL.out]; rfl
            · have h1 := HLL.out; have h2 := HSZ.out; have h3 := HST.out
              show (lay k acc.2).2.tm.length ≤ _
              rw [h3]
              omega
        · have h1 : t.ar.take i = t.ar := List.take_of_length_le (by rw [HNK.out]; omega)
          rw [h1] at HACC HSZ
          have hii : ¬ (i : Int) < nk := by omega
          have hly : ly = (st.tm.length, ⟨acc.2.tm, updN acc.2.sh st.tm.length (t.nm, acc.1), acc.2.hp⟩) := by
            rw [HLAY.out]
            unfold layF
            rw [if_neg (by rw [hh]; simp), ← HACC.out]
          have HLY2 := hide hly
          have m2 := hwm.cell.cell 2
          have i0' := his.cell 0; have i1' := his.cell 1
          simp only [List.getElem?_toArray, List.getElem?_cons_succ, List.getElem?_cons_zero] at m2 i0' i1'
          clear hly h1 hacc hwm hkp hvb his hir hal hne hsz2 hav hav2
          go_upto_region 15 with fail
          refine region_J 7 (N := 6) (S := (fun W' : World => W'.cell? ⟨B, 2, none⟩ = some (.map (some fB)) ∧ W'.cell? ⟨V5.heap.size, 0, none⟩ = some (.string (S t.nm)) ∧ W'.cell? ⟨V5.heap.size, 1, none⟩ = some (.slice ip i ic))) (by kernel_rfl) (by kernel_rfl) ?_
          have hS : (fun W' : World => W'.cell? ⟨B, 2, none⟩ = some (.map (some fB)) ∧ W'.cell? ⟨V5.heap.size, 0, none⟩ = some (.string (S t.nm)) ∧ W'.cell? ⟨V5.heap.size, 1, none⟩ = some (.slice ip i ic)) wr.drew := ⟨m2, i0', i1'⟩
          refine take_D (i := 0) 71 (.pointer (some ⟨B, 0, none⟩)) rfl rfl (by kernel_rfl) (by kernel_rfl) (by kernel_rfl) (by kernel_rfl) (fun _ _ _ h => h) (Or.inl ⟨by rfl, fun W' hW => by obtain ⟨s0, s1, s2⟩ := hW; go_simp⟩) hS ?_
          simp only [Act.put, List.setIfInBounds_toArray, List.set_cons_zero, List.set_cons_succ]
          refine take_D (i := 1) 72 (.pointer (some ⟨B, 0, none⟩)) rfl rfl (by kernel_rfl) (by kernel_rfl) (by kernel_rfl) (by kernel_rfl) (fun _ _ _ h => h) (Or.inl ⟨by rfl, fun W' hW => by obtain ⟨s0, s1, s2⟩ := hW; go_simp⟩) hS ?_
          simp only [Act.put, List.setIfInBounds_toArray, List.set_cons_zero, List.set_cons_succ]
          refine take_D (i := 2) 73 (.pointer (some ⟨B, 2, none⟩)) rfl rfl (by kernel_rfl) (by kernel_rfl) (by kernel_rfl) (by kernel_rfl) (fun _ _ _ h => h) (Or.inl ⟨by rfl, fun W' hW => by obtain ⟨s0, s1, s2⟩ := hW; go_simp⟩) hS ?_
          simp only [Act.put, List.setIfInBounds_toArray, List.set_cons_zero, List.set_cons_succ]
          refine take_D (i := 3) 74 (.map (some fB)) rfl rfl (by kernel_rfl) (by kernel_rfl) (by kernel_rfl) (by kernel_rfl) (fun _ _ _ h => h) (Or.inl ⟨by rfl, fun W' hW => by obtain ⟨s0, s1, s2⟩ := hW; go_simp⟩) hS ?_
          simp only [Act.put, List.setIfInBounds_toArray, List.set_cons_zero, List.set_cons_succ]
          refine take_D (i := 4) 75 (.int .i64 (st.tm.length : Nat)) rfl rfl (by kernel_rfl) (by kernel_rfl) (by kernel_rfl) (by kernel_rfl) (fun _ _ _ h => h) (Or.inl ⟨by rfl, fun W' hW => by obtain ⟨s0, s1, s2⟩ := hW; go_simp⟩) hS ?_
          simp only [Act.put, List.setIfInBounds_toArray, List.set_cons_zero, List.set_cons_succ]
          refine take_D (i := 5) 76 (.agg #[.string (S t.nm), .slice ip i ic]) rfl rfl (by kernel_rfl) (by kernel_rfl) (by kernel_rfl) (by kernel_rfl) (fun _ _ _ h => h) (Or.inl ⟨by rfl, fun W' hW => by obtain ⟨s0, s1, s2⟩ := hW; go_simp⟩) hS ?_
          simp only [Act.put, List.setIfInBounds_toArray, List.set_cons_zero, List.set_cons_succ]
          refine ready_J (rs := [6]) (by kernel_rfl) (by simp) ?_
          intro jj hjj
          obtain rfl := List.mem_singleton.1 hjj
          clear hjj
          refine op_J rfl rfl fun K hK => ?_
          obtain ⟨fv, f1, f2, f3⟩ := HWM.out.fac
          refine wpO_store _ _ _ _ 62 rfl 3 81 Tryd.underlying62 Tryd.underlying3 fB fv rfl (show MapI wr.drew fB fv from f1) (st.tm.length : Nat) (.agg #[.string (S t.nm), .slice ip i ic]) rfl rfl fun V6 hm6 hst6 => ?_
          refine hK _ _ ⟨fun h => absurd h (by omega), ?_⟩
          clear hK K
          refine done_J (by kernel_rfl) ?_ _
          obtain ⟨mB, mh, mf, ml⟩ := HM.out.maps_lt
          have hsh : ShV wr.drew D v' (t.nm, acc.1) (.agg #[.string (S t.nm), .slice ip i ic]) := by
            refine ⟨ip, ic, by rw [HAL.out], ?_, fun g hg => HNE.out g (by rw [HAL.out] at hg; exact hg)⟩
            rw [HAL.out]
            exact base_mono (show wr.drew.ownsRow V5.heap.size 3 1 (.slice ip i ic) i (natV acc.1) from HIR.out) (by omega)
          have H6 := WM.fact (HWM.out.below (below_drew wr)) ⟨fun j s hs => by
            obtain ⟨x, e1, e2⟩ := f2 j s hs
            exact ⟨x, e1, e2.keep fun g _ _ _ => rfl⟩, f3⟩ f1 hst6 hm6 hsh
          have HM6 := hide H6.1
          have HK6 : Hid (KP (Wk B hB fB lB (.slice vp st.tm.length vc) w) w V6) := hide ((HKP.out.drew).trans (H6.2.mono fun b hb => (hb.step HKP.out.size HVB.out).step (Nat.le_refl _) (VB.refl _ _)))
          have HAV6 : Hid (∀ Z : Nat → Prop, (∀ b, Z b → b < w.heap.size) → Av Z fB w → Av Z fB V6) := by
            refine hide fun Z hz ha gv j s p n c g hm hx hg hzg => ?_
            obtain rfl := hm.uniq hm6
            by_cases e : (j : Int) = (st.tm.length : Nat)
            · rw [e, updV_at] at hx
              simp only [Option.some.injEq, Value.agg.injEq] at hx
              have hpp : (Value.slice ip i ic) = .slice p n c := by
                have := congrArg (fun a : Array Value => a[1]?) hx
                simpa using this
              rw [← hpp] at hg
              have := (row_own HIR.out hg).1
              have := hz g hzg
              omega
            · rw [updV_ne _ _ e] at hx
              exact HAV.out Z hz ha fv j s p n c g f1 hx hg hzg
          clear H6 hm6 hst6 hS hsh f1 f2 f3
          go_wp2_with fail
          go_ret
          obtain rfl := HLY2.out
          exact ⟨rfl, _, HM6.out, HK6.out, HVB.out, HAV6.out⟩
    · rw [hh] at HI
      have hlay1 : ∀ i, st.hp t.n = some i → ly = (i, st) := fun i hi => by rw [HLY.out, lay_eq]; unfold layF; rw [if_pos hh, hi]
      have hlay2 : st.hp t.n = none → ly = (st.tm.length, ⟨st.tm ++ [t], st.sh, updI st.hp t.n st.tm.length⟩) := fun hi => by rw [HLY.out, lay_eq]; unfold layF; rw [if_pos hh, hi]
      go_wp2_with fail
      refine (HI.out _).mono ?_
      rintro r V1 ⟨rfl, hb1⟩
      have HN1 := hide (HN.out.below hb1)
      have HXX := hide (HX.out.below hb1 HX.out.lt)
      have HBV1 := hide (HBW.out.trans (hb1.mono HBW.out.size))
      have hsV : V.heap.size ≤ V1.heap.size := hb1.size
      have v0 := HN1.out.cell.cell 0
      have y0 := HXX.out.cell 0; have y1 := HXX.out.cell 1; have y2 := HXX.out.cell 2
      simp only [List.getElem?_toArray, List.getElem?_cons_succ, List.getElem?_cons_zero] at v0 y0 y1 y2
      have hBV1 : B < V1.heap.size := by omega
      have hwV1 : w.heap.size < V1.heap.size := by omega
      clear hb1
      rcases hxb with ⟨i, hpi, rfl, rfl⟩ | ⟨hpn, rfl⟩
      · have HL2 := hide (hlay1 i hpi)
        clear hlay1 hlay2
        go_wp2_with fail
        go_ret
        obtain rfl := HL2.out
        exact ⟨rfl, _, HN1.out, KP.of_below HBV1.out fun b hb => hb.1, VB.refl _ _, fun Z _ hz => hz.keep (HBV1.out.block fB (by obtain ⟨fv, f1, _⟩ := HM.out.fac; exact f1.lt))⟩
      · have HL2 := hide (hlay2 hpn)
        have hnB : w.heap.size ≠ B := by omega
        clear hlay1 hlay2
        subst hv
        go_wp2_with (first
        | (at_builtin; refine wpList_append_lies _ rfl _ _ 27 rfl D 3 i0 (.int .i64 0) 1 8 Tryd.underlying27 hi hz0 hz1 hz2 rfl (by decide) (.slice vp st.tm.length vc) st.tm.length (natV (List.range st.tm.length)) rfl (by have := (HN1.out.alloc (.cells #[.int .i64 (st.tm.length : Nat)] 3)).row; rw [List.length_range] at this; exact this) ⟨V1.heap.size, 0, none⟩ 1 1 [.int .i64 (st.tm.length : Nat)] rfl rfl (cell_one_new _ _ _) (by simp [Value.oneCell']) (by omega) (by unfold maxLen; omega) (by omega) (by simp; omega) (V1.heap.size + 1) (by simp) ?_; intro g cap w3 hown hgr hat hlt
           have kk := WM.push HN1.out hown hgr hat (by omega)
           have kB : Hold B #[.slice vp st.tm.length vc, .map (some hB), .map (some fB), .map (some lB)] 64 w3 := (hgr.block B (by simp; omega) (row_ne HN1.out.cell HN1.out.row (by decide))).trans (HN1.out.cell.alloc _)
           have z0 := kB.cell 0
           have zf := kB.frozen 0
           have kX : Hold w.heap.size #[.string (S t.nm), .int .i64 t.n, .slice pk t.ar.length ck] 24 w3 := (hgr.block w.heap.size (by simp; omega) (row_ne HXX.out HN1.out.row (by decide))).trans (HXX.out.alloc _)
           have d0 := kX.cell 0; have d1 := kX.cell 1; have d2 := kX.cell 2
           simp only [List.getElem?_toArray, List.getElem?_cons_succ, List.getElem?_cons_zero] at z0 d0 d1 d2
           have KX := hide kX
           clear kX
           have KK := hide kk; have KB := hide kB; have HGR := hide hgr
           clear kk kB hgr hown hat
           go_frame)
        | fail)
        have HFE : Hid ((w3.setCell ⟨B, 0, none⟩ (.slice (some ⟨g, 0, none⟩) (st.tm.length + 1) cap)).heap[fB]? = w.heap[fB]?) := by
          obtain ⟨fv, f1, _⟩ := HN1.out.fac
          obtain ⟨fv', f1', _⟩ := HM.out.fac
          exact hide ((Below.heap_setCell _ _ _ fB (f1.ne HN1.out.cell)).trans ((HGR.out.block fB (by have := f1.lt; simp; omega) (f1.row_ne HN1.out.row)).trans ((Below.heap_alloc _ _ _ f1.lt).trans (HBV1.out.block fB f1'.lt))))
        have HFL : Hid (fB < (w3.setCell ⟨B, 0, none⟩ (.slice (some ⟨g, 0, none⟩) (st.tm.length + 1) cap)).heap.size) := by
          obtain ⟨fv, f1, _⟩ := KK.out.1.fac
          exact hide f1.lt
        refine (HI.out _).mono ?_
        rintro r V5 ⟨rfl, hb5⟩
        have HFE5 := hide ((hb5.block fB HFL.out).trans HFE.out)
        have HM5 := hide (KK.out.1.below hb5)
        have HX5 := hide ((KX.out.other hnB 0 (.slice (some ⟨g, 0, none⟩) (st.tm.length + 1) cap)).below hb5 (by have := KX.out.lt; simp; omega))
        have HK5 : Hid (KP (Wk B hB fB lB (.slice vp st.tm.length vc) w) w V5) := ((KP.of_below HBV1.out fun b hb => hb.1).trans (KK.out.2.1.mono fun b hb => hb.step HBV1.out.size (VB.refl _ _))).trans (KP.of_below hb5 fun b hb => by have := hb.1; have := KK.out.2.1.size; have := HBV1.out.size; omega)
        have HVB5 : Hid (VB w (.slice vp st.tm.length vc) (.slice (some ⟨g, 0, none⟩) (st.tm.length + 1) cap)) := (VB.refl _ _).trans KK.out.2.2 HBV1.out.size
        clear KK KB KX HGR z0 zf d0 d1 d2 hlt hb5
        go_upto_region 7 with fail
        have e1 := HM5.out.cell.cell 1
        have e2 := HX5.out.cell 1
        simp only [List.getElem?_toArray, List.getElem?_cons_succ, List.getElem?_cons_zero] at e1 e2
        refine region_J 8 (N := 7) (S := (fun W' : World => W'.cell? ⟨B, 1, none⟩ = some (.map (some hB)) ∧ W'.cell? ⟨w.heap.size, 1, none⟩ = some (.int .i64 t.n))) (by kernel_rfl) (by kernel_rfl) ?_
        have hS : (fun W' : World => W'.cell? ⟨B, 1, none⟩ = some (.map (some hB)) ∧ W'.cell? ⟨w.heap.size, 1, none⟩ = some (.int .i64 t.n)) V5.drew := ⟨e1, e2⟩
        refine take_D (i := 0) 44 (.pointer (some ⟨B, 0, none⟩)) rfl rfl (by kernel_rfl) (by kernel_rfl) (by kernel_rfl) (by kernel_rfl) (fun _ _ _ h => h) (Or.inl ⟨by rfl, fun W' hW => by obtain ⟨s0, s1⟩ := hW; go_simp⟩) hS ?_
        simp only [Act.put, List.setIfInBounds_toArray, List.set_cons_zero, List.set_cons_succ]
        refine take_D (i := 1) 45 (.pointer (some ⟨B, 0, none⟩)) rfl rfl (by kernel_rfl) (by kernel_rfl) (by kernel_rfl) (by kernel_rfl) (fun _ _ _ h => h) (Or.inl ⟨by rfl, fun W' hW => by obtain ⟨s0, s1⟩ := hW; go_simp⟩) hS ?_
        simp only [Act.put, List.setIfInBounds_toArray, List.set_cons_zero, List.set_cons_succ]
        refine take_D (i := 2) 46 (.pointer (some ⟨B, 1, none⟩)) rfl rfl (by kernel_rfl) (by kernel_rfl) (by kernel_rfl) (by kernel_rfl) (fun _ _ _ h => h) (Or.inl ⟨by rfl, fun W' hW => by obtain ⟨s0, s1⟩ := hW; go_simp⟩) hS ?_
        simp only [Act.put, List.setIfInBounds_toArray, List.set_cons_zero, List.set_cons_succ]
        refine take_D (i := 3) 47 (.map (some hB)) rfl rfl (by kernel_rfl) (by kernel_rfl) (by kernel_rfl) (by kernel_rfl) (fun _ _ _ h => h) (Or.inl ⟨by rfl, fun W' hW => by obtain ⟨s0, s1⟩ := hW; go_simp⟩) hS ?_
        simp only [Act.put, List.setIfInBounds_toArray, List.set_cons_zero, List.set_cons_succ]
        refine take_D (i := 4) 48 (.pointer (some ⟨w.heap.size, 1, none⟩)) rfl rfl (by kernel_rfl) (by kernel_rfl) (by kernel_rfl) (by kernel_rfl) (fun _ _ _ h => h) (Or.inl ⟨by rfl, fun W' hW => by obtain ⟨s0, s1⟩ := hW; go_simp⟩) hS ?_
        simp only [Act.put, List.setIfInBounds_toArray, List.set_cons_zero, List.set_cons_succ]
        refine take_D (i := 5) 49 (.int .i64 t.n) rfl rfl (by kernel_rfl) (by kernel_rfl) (by kernel_rfl) (by kernel_rfl) (fun _ _ _ h => h) (Or.inl ⟨by rfl, fun W' hW => by obtain ⟨s0, s1⟩ := hW; go_simp⟩) hS ?_
        simp only [Act.put, List.setIfInBounds_toArray, List.set_cons_zero, List.set_cons_succ]
        refine take_D (i := 6) 50 (.int .i64 st.tm.length) rfl rfl (by kernel_rfl) (by kernel_rfl) (by kernel_rfl) (by kernel_rfl) (fun _ _ _ h => h) (Or.inl ⟨by rfl, fun W' hW => by obtain ⟨s0, s1⟩ := hW; go_simp⟩) hS ?_
        simp only [Act.put, List.setIfInBounds_toArray, List.set_cons_zero, List.set_cons_succ]
        refine ready_J (rs := [7]) (by kernel_rfl) (by simp) ?_
        intro jj hjj
        obtain rfl := List.mem_singleton.1 hjj
        clear hjj
        refine op_J rfl rfl fun K hK => ?_
        refine wpO_store _ _ _ _ 56 rfl 3 3 Tryd.underlying56 Tryd.underlying3 hB (natM st.hp) rfl (show MapI V5.drew hB _ from HM5.out.hol) t.n (.int .i64 (st.tm.length : Nat)) rfl rfl fun V6 hm6 hst6 => ?_
        refine hK _ _ ⟨fun h => absurd h (by omega), ?_⟩
        clear hK K
        refine done_J (by kernel_rfl) ?_ _
        have H6 := WM.hole (HM5.out.below (below_drew _)) hst6 hm6
        have HM6 := hide H6.1
        have HK6 : Hid (KP (Wk B hB fB lB (.slice vp st.tm.length vc) w) w V6) := HK5.out.trans ((KP.of_below (P := fun b => b < V5.heap.size) (below_drew V5) (fun b hb => hb)).mono (fun b hb => Nat.lt_of_lt_of_le hb.1 HK5.out.size) |>.trans (H6.2.mono fun b hb => hb.step HK5.out.size HVB5.out))
        have HFE6 : Hid (V6.heap[fB]? = w.heap[fB]?) := hide ((hst6.ktail fB (by obtain ⟨fv, f1, _⟩ := HM5.out.fac; exact f1.lt) HM.out.ne.1.symm).trans HFE5.out)
        clear H6 hm6 hst6 hS
        go_wp2_with fail
        go_ret
        obtain rfl := HL2.out
        refine ⟨rfl, _, ?_, HK6.out, HVB5.out, fun Z _ hz => hz.keep HFE6.out⟩
        have := HM6.out
        simpa using this
end Go.Proofs.YteoflpalmckikaaDoor
