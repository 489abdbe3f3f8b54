/-
  THE WALKS OF ty.Apply AND ITS CLOSURE.
-/
import Derived.Test.YteoflpalmckikaaDoorCanonP
import Derived.Test.YteoflpalmckikaaDoorLawM
namespace Go.Proofs.YteoflpalmckikaaDoor
open Go.RowKit
set_option linter.unusedVariables false
set_option linter.unusedSimpArgs false
theorem hls_bds {P : Nat → Prop} {w : World} (t : Ty) : ∀ {cs}, TyIn P w t cs → ∀ n ∈ hls t, -9223372036854775808 ≤ n ∧ n ≤ 9223372036854775807 := by
  induction t using Ty.ind with
  | _ t ih =>
    intro cs h n hn
    cases hh : t.nm.isEmpty
    · rw [hls_node t hh] at hn
      obtain ⟨k, hk, hnk⟩ := List.mem_flatMap.1 hn
      obtain ⟨pk, ck, _, _, _, _, hm⟩ := (TyIn_iff _ _ _ _).1 h
      obtain ⟨i, hi, rfl⟩ := List.getElem_of_mem hk
      rcases hm with hm | ⟨b, o, _, _, hm⟩
      · rw [hm] at hi; cases hi
      · obtain ⟨ds, _, _, e3⟩ := hm i t.ar[i] (List.getElem?_eq_getElem hi)
        exact ih _ hk e3 n hnk
    · rw [hls_at t hh] at hn
      obtain rfl := List.mem_singleton.1 hn
      exact h.bds.2
/-- A type, filled with the holes that it has, is that type. -/
theorem refill_any (t : Ty) (hok : allT ok1 t = true) {P : Nat → Prop} {w : World} {pk : Option Addr} {ck : Nat} (hP : ∀ b, P b → b < w.heap.size) (hE : TyIn P w t [.string (S t.nm), .int .i64 t.n, .slice pk t.ar.length ck]) (hs : tsz t ≤ 1000000) :
    Calls Tryd.prog 36 #[.agg (cs3 t pk ck), .func (.func 38) #[] #[]] w (TQ t w) := by
  have h := filled_any hole t (P := P) (w := w) (pk := pk) (ck := ck) (fv := .func (.func 38) #[] #[]) hP hE hs (fun n hn W hW => .inl ⟨rfl, hole_any n W (hls_bds t hE n hn)⟩)
  rw [sub_id t hok] at h
  exact h
/-- The map of facts. -/
def FactM (P : Nat → Prop) (we : World) (l : List (Int × Ty)) (g : Int → Option Value) : Prop := ∀ m, match l.find? (fun f => f.1 == m) with
  | some f => ∃ pk ck, g m = some (.agg (cs3 f.2 pk ck)) ∧ TyIn P we f.2 [.string (S f.2.nm), .int .i64 f.2.n, .slice pk f.2.ar.length ck]
  | none => g m = none
theorem look_find {l : List (Int × Ty)} {m : Int} {f : Int × Ty} (h : l.find? (fun f => f.1 == m) = some f) : look l m = f.2 := by unfold look; rw [h]
theorem look_nofind {l : List (Int × Ty)} {m : Int} (h : l.find? (fun f => f.1 == m) = none) : look l m = hole m := by unfold look; rw [h]
theorem zero24 (w : World) : (zeroValue 24).run Tryd.prog w = .ok (.agg #[.string ⟨#[]⟩, .int .i64 0, .slice none 0 0]) w := by kernel_rfl
set_option maxHeartbeats 4000000 in
set_option maxRecDepth 100000 in
theorem apply1_any {P : Nat → Prop} {we W : World} {Fb Fm : Nat} {n : Int} {l : List (Int × Ty)} {g : Int → Option Value} (hP : ∀ b, P b → b < we.heap.size) (hwe : Below we.heap.size we W) (hb : Hold Fb #[.map (some Fm)] 59 W) (hm : MapI W Fm g) (hg : FactM P we l g) (hn : -9223372036854775808 ≤ n ∧ n ≤ 9223372036854775807) (hl : ∀ f ∈ l, chk f.2 = true) :
    Calls Tryd.prog 42 #[.int .i64 n, .pointer (some ⟨Fb, 0, none⟩)] W (TQ (look l n) W) := by
  have b0 := hb.cell 0
  have hlt := hb.lt
  simp only [List.getElem?_toArray, List.getElem?_cons_succ, List.getElem?_cons_zero] at b0
  have hM := hm.alloc (.cells #[.string ⟨#[]⟩, .int .i64 0, .slice none 0 0] 24)
  have hR := Hold.new W #[.string ⟨#[]⟩, .int .i64 0, .slice none 0 0] 24
  have hW : Below W.heap.size W (W.alloc (.cells #[.string ⟨#[]⟩, .int .i64 0, .slice none 0 0] 24)) := (Below.refl _ W).alloc (Nat.le_refl _) _
  have hlk := hM.run_look_ok (P := Tryd.prog) (T := 59) (K := 3) (E := 24) Tryd.underlying59 Tryd.underlying3 (zero24 _) n
  have hgn := hg n
  cases hf : l.find? (fun f => f.1 == n) with
  | some f =>
    rw [hf] at hgn
    obtain ⟨pk, ck, hg1, hin⟩ := hgn
    rw [hg1] at hlk
    simp only [Option.getD_some, Option.isSome_some] at hlk
    rw [look_find hf]
    obtain ⟨hok, hd, hsz⟩ := (chk_iff _).1 (hl f (List.mem_of_find?_eq_some hf))
    have hX := Hold.new (W.alloc (.cells #[.string ⟨#[]⟩, .int .i64 0, .slice none 0 0] 24)) (cs3 f.2 pk ck) 24
    rw [World.size_alloc] at hX
    have hW2 := hW.alloc (by simp) (.cells (cs3 f.2 pk ck) 24)
    have hR2 := hR.alloc (.cells (cs3 f.2 pk ck) 24)
    have hcall := refill_any f.2 hok (P := P) (w := (W.alloc (.cells #[.string ⟨#[]⟩, .int .i64 0, .slice none 0 0] 24)).alloc (.cells (cs3 f.2 pk ck) 24)) (pk := pk) (ck := ck) (fun b hb => by have := hP b hb; have := hwe.size; simp; omega) (TyIn.keep (KP.of_below (hwe.trans (hW2.mono hwe.size)) hP) (fun b hb => hb) _ _ hin) (by omega)
    have hWs : ((W.alloc (.cells #[.string ⟨#[]⟩, .int .i64 0, .slice none 0 0] 24)).alloc (.cells (cs3 f.2 pk ck) 24)).heap.size = W.heap.size + 1 + 1 := by simp
    have HWS := hide hWs
    have x0 := hX.cell 0; have x1 := hX.cell 1; have x2 := hX.cell 2
    unfold cs3 at *
    simp only [List.getElem?_toArray, List.getElem?_cons_succ, List.getElem?_cons_zero] at x0 x1 x2
    generalize f.2 = te at *
    have HM := hide hM; have HR2 := hide hR2; have HW2 := hide hW2; have HC := hide hcall; have HX := hide hX
    clear hM hR2 hW2 hcall hX hR hW hb hm hin hg hl hf hWs
    go_enter Tryd.func42, Tryd.ntmps42
    go_wp2_with fail
    refine HC.out.mono ?_
    rintro r w2 ⟨qk, dk, rfl, hb2, hin2⟩
    have r2 := HR2.out.below hb2 HR2.out.lt
    have hf0 := r2.frozen 0
    have hf1 := r2.frozen 1
    have hf2 := r2.frozen 2
    have hr0 := r2.cell 0
    have hr1 := r2.cell 1
    have hr2 := r2.cell 2
    simp only [List.getElem?_toArray, List.getElem?_cons_succ, List.getElem?_cons_zero] at hr0 hr1 hr2
    have HB2 := hide (HW2.out.trans (hb2.mono HW2.out.size))
    have HBB := hide hb2
    have HIN2 := hide hin2
    have HR2' := hide r2
    have hs2 := r2.lt
    clear hb2 hin2 r2
    unfold cs3
    go_wp2_with fail
    have hro := hold3 HR2'.out (.string (S te.nm)) (.int .i64 te.n) (.slice qk te.ar.length dk)
    have q0 := hro.cell 0
    have q1 := hro.cell 1
    have q2 := hro.cell 2
    simp only [List.getElem?_toArray, List.getElem?_cons_succ, List.getElem?_cons_zero] at q0 q1 q2
    have HTQ : Hid (TQ te W (.returned (.agg #[.string (S te.nm), .int .i64 te.n, .slice qk te.ar.length dk])) (((w2.setCell ⟨W.heap.size, 0, none⟩ (.string (S te.nm))).setCell ⟨W.heap.size, 1, none⟩ (.int .i64 te.n)).setCell ⟨W.heap.size, 2, none⟩ (.slice qk te.ar.length dk))) :=
      tq_cell (t := te) (w := W) (W := w2) (pk := qk) (ck := dk) (B := W.heap.size) (by omega) HB2.out (TyIn.keep (KP.refl _ _) (fun b hb => ⟨by have := hb.1; have := HWS.out; omega, hb.2, by have := hb.1; have := HWS.out; omega⟩) _ _ HIN2.out)
    generalize ((w2.setCell ⟨W.heap.size, 0, none⟩ (.string (S te.nm))).setCell ⟨W.heap.size, 1, none⟩ (.int .i64 te.n)).setCell ⟨W.heap.size, 2, none⟩ (.slice qk te.ar.length dk) = W3 at *
    exact bodyPost_ret (v := .agg #[.string (S te.nm), .int .i64 te.n, .slice qk te.ar.length dk]) (by simp only [results, Tryd.results42]; go_simp) rfl HTQ.out
  | none =>
    rw [hf] at hgn
    have hgn' : g n = none := hgn
    rw [hgn'] at hlk
    simp only [Option.getD_none, Option.isSome_none] at hlk
    rw [look_nofind hf]
    have hW2 := hW.alloc (by simp) (.cells #[.string ⟨#[]⟩, .int .i64 0, .slice none 0 0] 24)
    have hR2 := hR.alloc (.cells #[.string ⟨#[]⟩, .int .i64 0, .slice none 0 0] 24)
    have hcall := hole_any n ((W.alloc (.cells #[.string ⟨#[]⟩, .int .i64 0, .slice none 0 0] 24)).alloc (.cells #[.string ⟨#[]⟩, .int .i64 0, .slice none 0 0] 24)) hn
    have hWs : ((W.alloc (.cells #[.string ⟨#[]⟩, .int .i64 0, .slice none 0 0] 24)).alloc (.cells #[.string ⟨#[]⟩, .int .i64 0, .slice none 0 0] 24)).heap.size = W.heap.size + 1 + 1 := by simp
    have HWS := hide hWs
    generalize hole n = te at *
    have HM := hide hM; have HR2 := hide hR2; have HW2 := hide hW2; have HC := hide hcall
    clear hM hR2 hW2 hcall hR hW hb hm hgn hgn' hg hl hf hWs
    go_enter Tryd.func42, Tryd.ntmps42
    go_wp2_with fail
    refine HC.out.mono ?_
    rintro r w2 ⟨qk, dk, rfl, hb2, hin2⟩
    have r2 := HR2.out.below hb2 HR2.out.lt
    have hf0 := r2.frozen 0
    have hf1 := r2.frozen 1
    have hf2 := r2.frozen 2
    have hr0 := r2.cell 0
    have hr1 := r2.cell 1
    have hr2 := r2.cell 2
    simp only [List.getElem?_toArray, List.getElem?_cons_succ, List.getElem?_cons_zero] at hr0 hr1 hr2
    have HB2 := hide (HW2.out.trans (hb2.mono HW2.out.size))
    have HBB := hide hb2
    have HIN2 := hide hin2
    have HR2' := hide r2
    have hs2 := r2.lt
    clear hb2 hin2 r2
    unfold cs3
    go_wp2_with fail
    have hro := hold3 HR2'.out (.string (S te.nm)) (.int .i64 te.n) (.slice qk te.ar.length dk)
    have q0 := hro.cell 0
    have q1 := hro.cell 1
    have q2 := hro.cell 2
    simp only [List.getElem?_toArray, List.getElem?_cons_succ, List.getElem?_cons_zero] at q0 q1 q2
    have HTQ : Hid (TQ te W (.returned (.agg #[.string (S te.nm), .int .i64 te.n, .slice qk te.ar.length dk])) (((w2.setCell ⟨W.heap.size, 0, none⟩ (.string (S te.nm))).setCell ⟨W.heap.size, 1, none⟩ (.int .i64 te.n)).setCell ⟨W.heap.size, 2, none⟩ (.slice qk te.ar.length dk))) :=
      tq_cell (t := te) (w := W) (W := w2) (pk := qk) (ck := dk) (B := W.heap.size) (by omega) HB2.out (TyIn.keep (KP.refl _ _) (fun b hb => ⟨by have := hb.1; have := HWS.out; omega, hb.2, by have := hb.1; have := HWS.out; omega⟩) _ _ HIN2.out)
    generalize ((w2.setCell ⟨W.heap.size, 0, none⟩ (.string (S te.nm))).setCell ⟨W.heap.size, 1, none⟩ (.int .i64 te.n)).setCell ⟨W.heap.size, 2, none⟩ (.slice qk te.ar.length dk) = W3 at *
    exact bodyPost_ret (v := .agg #[.string (S te.nm), .int .i64 te.n, .slice qk te.ar.length dk]) (by simp only [results, Tryd.results42]; go_simp) rfl HTQ.out
/-- A fact's four cells. -/
def cs4 (f : Int × Ty) (pk : Option Addr) (ck : Nat) : Array Value := #[.int .i64 f.1, .string (S f.2.nm), .int .i64 f.2.n, .slice pk f.2.ar.length ck]
theorem fm_at {P : Nat → Prop} {w : World} {l : List (Int × Ty)} {pk : Option Addr} (hE : RM 4 P w (FaIn P w) pk l) {i : Nat} (hi : i < l.length) : ∃ b o qk dk, pk = some ⟨b, o, none⟩ ∧ P b ∧ (-9223372036854775808 ≤ l[i].1 ∧ l[i].1 ≤ 9223372036854775807) ∧ TyIn P w l[i].2 [.string (S l[i].2.nm), .int .i64 l[i].2.n, .slice qk l[i].2.ar.length dk] ∧
    w.cell? ⟨b, o + i * 4, none⟩ = some (.int .i64 l[i].1) ∧ w.cell? ⟨b, o + i * 4 + 1, none⟩ = some (.string (S l[i].2.nm)) ∧ w.cell? ⟨b, o + i * 4 + 2, none⟩ = some (.int .i64 l[i].2.n) ∧ w.cell? ⟨b, o + i * 4 + 3, none⟩ = some (.slice qk l[i].2.ar.length dk) := by
  rcases hE with h | ⟨b, o, hp, hb, hm⟩
  · rw [h] at hi; cases hi
  · obtain ⟨ds, h1, h2, ds', rfl, h4, h3⟩ := hm i l[i] (by simp)
    obtain ⟨qk, dk, rfl, _⟩ := (TyIn_iff _ _ _ _).1 h3
    exact ⟨b, o, qk, dk, hp, hb, h4, h3, h2 0 _ rfl, h2 1 _ rfl, h2 2 _ rfl, h2 3 _ rfl⟩
/-- One more fact. -/
theorem FactM.push {P : Nat → Prop} {we : World} {l : List (Int × Ty)} {f : Int × Ty} {g : Int → Option Value} (h : FactM P we l g) : (∀ v, g f.1 = some v → FactM P we (l ++ [f]) g) ∧ (g f.1 = none → ∀ pk ck, TyIn P we f.2 [.string (S f.2.nm), .int .i64 f.2.n, .slice pk f.2.ar.length ck] → FactM P we (l ++ [f]) (updV g f.1 (.agg (cs3 f.2 pk ck)))) := by
  have hf := h f.1
  refine ⟨fun v hv m => ?_, fun hn pk ck hE m => ?_⟩
  · have hm := h m
    rw [List.find?_append]
    cases hx : l.find? (fun f => f.1 == m) with
    | some y => rw [hx] at hm; exact hm
    | none =>
      rw [hx] at hm
      simp only [Option.none_or, List.find?_cons, List.find?_nil]
      cases he : (f.1 == m) with
      | false => exact hm
      | true =>
        have e : f.1 = m := by simpa using he
        rw [← e] at hm
        rw [hm] at hv
        cases hv
  · have hm := h m
    rw [List.find?_append]
    cases hx : l.find? (fun f => f.1 == m) with
    | some y =>
      rw [hx] at hm
      have hne : m ≠ f.1 := by
        rintro rfl
        obtain ⟨_, _, h1, _⟩ := hm
        rw [hn] at h1
        cases h1
      simp only [Option.some_or]
      rw [updV_ne _ _ hne]
      exact hm
    | none =>
      rw [hx] at hm
      simp only [Option.none_or, List.find?_cons, List.find?_nil]
      cases he : (f.1 == m) with
      | false =>
        have hne : m ≠ f.1 := fun e => by rw [e] at he; simp at he
        rw [updV_ne _ _ hne]
        exact hm
      | true =>
        have e : f.1 = m := by simpa using he
        rw [← e, updV_at]
        exact ⟨pk, ck, rfl, hE⟩
def factOk (f : Int × Ty) : Bool := decide (0 ≤ f.1) && chk f.2
theorem applyM_no (l : List (Int × Ty)) (t : Ty) (h : chk t = false ∨ l.all factOk = false) : applyM l t = ⟨[], 0, []⟩ := by
  unfold applyM
  rw [if_neg]
  rcases h with h | h
  · rw [h]; simp
  · rw [show (l.all fun f => decide (0 ≤ f.1) && chk f.2) = false from h]; simp
theorem applyM_yes (l : List (Int × Ty)) (t : Ty) (h : chk t = true) (h2 : l.all factOk = true) : applyM l t = sub (look l) t := by
  unfold applyM
  rw [if_pos]
  rw [h, show (l.all fun f => decide (0 ≤ f.1) && chk f.2) = true from h2]
  rfl
set_option maxHeartbeats 8000000 in
set_option maxRecDepth 100000 in
theorem apply_any (l : List (Int × Ty)) (t : Ty) {P : Nat → Prop} {w : World} {pk pl : Option Addr} {ck cl : Nat} (hP : ∀ b, P b → b < w.heap.size) (hE : TyIn P w t [.string (S t.nm), .int .i64 t.n, .slice pk t.ar.length ck]) (hL : RM 4 P w (FaIn P w) pl l) (hll : l.length ≤ 1000000) :
    Calls Tryd.prog 22 #[.slice pl l.length cl, .agg (cs3 t pk ck)] w (TQ (applyM l t) w) := by
  have hB0 : Below w.heap.size w ((w.alloc (.cells (cs3 t pk ck) 24)).alloc (.cells #[.string ⟨#[]⟩, .int .i64 0, .slice none 0 0] 24)) := ((Below.refl _ w).alloc (Nat.le_refl _) _).alloc (by simp) _
  have hW0 : Hold w.heap.size (cs3 t pk ck) 24 ((w.alloc (.cells (cs3 t pk ck) 24)).alloc (.cells #[.string ⟨#[]⟩, .int .i64 0, .slice none 0 0] 24)) := (Hold.new w _ 24).alloc _
  have hR0 : Hold (w.heap.size + 1) #[.string ⟨#[]⟩, .int .i64 0, .slice none 0 0] 24 ((w.alloc (.cells (cs3 t pk ck) 24)).alloc (.cells #[.string ⟨#[]⟩, .int .i64 0, .slice none 0 0] 24)) := by have := Hold.new (w.alloc (.cells (cs3 t pk ck) 24)) #[.string ⟨#[]⟩, .int .i64 0, .slice none 0 0] 24; simpa using this
  have hc := check_any t (P := P) (w := (w.alloc (.cells (cs3 t pk ck) 24)).alloc (.cells #[.string ⟨#[]⟩, .int .i64 0, .slice none 0 0] 24)) (pk := pk) (ck := ck) (fun b hb => by have := hP b hb; simp; omega) (TyIn.keep (KP.of_below hB0 hP) (fun b hb => hb) _ _ hE)
  have HC := hide hc
  have HB0 := hide hB0
  have HW0 := hide hW0
  have HR0 := hide hR0
  have HE := hide hE
  have HL := hide hL
  clear hc hB0 hW0 hR0 hE hL
  cases hch : chk t
  · have hno := applyM_no l t (.inl hch)
    rw [hno]
    rw [hch] at HC
    clear hno
    generalize hnl : l.length = nl at *
    unfold cs3 at *
    go_enter Tryd.func22, Tryd.ntmps22
    go_wp2_with fail
    refine HC.out.mono ?_
    rintro r w1 ⟨rfl, hb1⟩
    have HB1 := hide (HB0.out.trans (hb1.mono HB0.out.size))
    have HR1 := hide (HR0.out.below hb1 HR0.out.lt)
    clear hb1
    have hf0 := HR1.out.frozen 0
    have hf1 := HR1.out.frozen 1
    have hf2 := HR1.out.frozen 2
    have hr0 := HR1.out.cell 0
    have hr1 := HR1.out.cell 1
    have hr2 := HR1.out.cell 2
    have hs2 := HR1.out.lt
    simp only [List.getElem?_toArray, List.getElem?_cons_succ, List.getElem?_cons_zero] at hr0 hr1 hr2
    go_wp2_with fail
    have hro := hold3 HR1.out (.string ⟨#[]⟩) (.int .i64 0) (.slice none 0 0)
    have q0 := hro.cell 0
    have q1 := hro.cell 1
    have q2 := hro.cell 2
    simp only [List.getElem?_toArray, List.getElem?_cons_succ, List.getElem?_cons_zero] at q0 q1 q2
    have HTQ : Hid (TQ ⟨[], 0, []⟩ w (.returned (.agg #[.string ⟨#[]⟩, .int .i64 0, .slice none 0 0])) (((w1.setCell ⟨w.heap.size + 1, 0, none⟩ (.string ⟨#[]⟩)).setCell ⟨w.heap.size + 1, 1, none⟩ (.int .i64 0)).setCell ⟨w.heap.size + 1, 2, none⟩ (.slice none 0 0))) :=
      tq_cell (t := ⟨[], 0, []⟩) (w := w) (W := w1) (pk := none) (ck := 0) (B := w.heap.size + 1) (by omega) HB1.out (zero_in _ _)
    generalize ((w1.setCell ⟨w.heap.size + 1, 0, none⟩ (.string ⟨#[]⟩)).setCell ⟨w.heap.size + 1, 1, none⟩ (.int .i64 0)).setCell ⟨w.heap.size + 1, 2, none⟩ (.slice none 0 0) = W3 at *
    exact bodyPost_ret (v := .agg #[.string ⟨#[]⟩, .int .i64 0, .slice none 0 0]) (by simp only [results, Tryd.results22]; go_simp) rfl HTQ.out
  · rw [hch] at HC
    have HYES := hide (applyM_yes l t hch)
    have HNO := hide (fun h => applyM_no l t (.inr h))
    have htsz : tsz t ≤ 1000000 := Nat.le_trans ((chk_iff t).1 hch).2.2 (by omega)
    have hmm := @run_makeMap Tryd.prog
    generalize hap : applyM l t = ap at *
    generalize hnl : l.length = nl at *
    have HNL := hide hnl
    clear hap hnl
    unfold cs3 at HC HW0 HB0 HR0
    unfold cs3
    go_enter Tryd.func22, Tryd.ntmps22
    go_wp2_with fail
    refine HC.out.mono ?_
    rintro r w1 ⟨rfl, hb1⟩
    have HB1 := hide (HB0.out.trans (hb1.mono HB0.out.size))
    have r1 := HR0.out.below hb1 HR0.out.lt
    have hW1 := HW0.out.below hb1 HW0.out.lt
    have hs1 : w.heap.size + 1 < w1.heap.size := r1.lt
    have hV := (Hold.new (w1.alloc (.map #[] 0)) #[.map (some w1.heap.size)] 59)
    rw [World.size_alloc] at hV
    have hVm := (MapI.made w1).alloc (.cells #[.map (some w1.heap.size)] 59)
    have hVB : Below w1.heap.size w1 ((w1.alloc (.map #[] 0)).alloc (.cells #[.map (some w1.heap.size)] 59)) := ((Below.refl _ w1).alloc (Nat.le_refl _) _).alloc (by simp) _
    have HV := hide hV; have HVM := hide hVm; have HVB := hide hVB
    have HVW := hide (hW1.below hVB hW1.lt)
    have HVR := hide (r1.below hVB r1.lt)
    have hVs : ((w1.alloc (.map #[] 0)).alloc (.cells #[.map (some w1.heap.size)] 59)).heap.size = w1.heap.size + 2 := by simp
    have HVS := hide hVs
    clear hb1 r1 hW1 hV hVm hVB hVs
    go_wp2_with fail
    generalize (w1.alloc (.map #[] 0)).alloc (.cells #[.map (some w1.heap.size)] 59) = V at *
    go_loopg [17] nl (fun k s17 wr => ∃ (i : Nat) (g : Int → Option Value), i ≤ nl ∧ k = nl - i ∧ s17 = .int .i64 i ∧ (l.take i).all factOk = true ∧ MapI wr w1.heap.size g ∧ FactM P w (l.take i) g ∧ Below w.heap.size w wr ∧ Hold w.heap.size #[.string (S t.nm), .int .i64 t.n, .slice pk t.ar.length ck] 24 wr ∧ Hold (w.heap.size + 1) #[.string ⟨#[]⟩, .int .i64 0, .slice none 0 0] 24 wr ∧ Hold (w1.heap.size + 1) #[.map (some w1.heap.size)] 59 wr ∧ w1.heap.size + 2 ≤ wr.heap.size)
    case atStart => exact ⟨0, _, Nat.zero_le _, by omega, rfl, by simp, HVM.out, fun m => (by rfl), HB1.out.trans (HVB.out.mono HB1.out.size), HVW.out, HVR.out, HV.out, by have := HVS.out; omega⟩
    case round =>
      obtain ⟨i, g, hi1, rfl, rfl, hal, hmp, hfm, hbr, hbx, hrs, hfb, hsz⟩ := hrel
      have HAL := hide hal; have HMP := hide hmp; have HFM := hide hfm; have HBR := hide hbr; have HBX := hide hbx; have HRS := hide hrs; have HFB := hide hfb
      by_cases hlt : i < nl
      · have hil : i < l.length := by rw [HNL.out]; exact hlt
        obtain ⟨b, o, qk, dk, hpl, hPb, hn, hIn, a0, a1, a2, a3⟩ := fm_at HL.out hil
        have hcc : ∀ x, wr.cell? ⟨b, x, none⟩ = w.cell? ⟨b, x, none⟩ := fun x => hbr.cell (p := ⟨b, x, none⟩) (hP b hPb)
        rw [← hcc] at a0 a1 a2 a3
        have htk := all_take factOk hil
        have htk2 : l.take (i + 1) = l.take i ++ [l[i]] := List.take_succ_eq_append_getElem hil
        have hbad := all_bad factOk l i hil
        have hpush := (FactM.push (f := l[i]) hfm)
        have hfo : factOk l[i] = (decide (0 ≤ l[i].1) && chk l[i].2) := rfl
        subst hpl
        generalize l[i] = f at *
        have HTK := hide htk; have HTK2 := hide htk2; have HBAD := hide hbad; have HPUSH := hide hpush; have HFO := hide hfo; have HIN := hide hIn
        have f0 := hfb.cell 0
        have hfbl := hfb.lt
        have hbl : b < wr.heap.size := by have := hP b hPb; have := hbr.size; omega
        simp only [List.getElem?_toArray, List.getElem?_cons_succ, List.getElem?_cons_zero] at f0
        have hii : (i : Int) < nl := by omega
        clear hal hmp hfm hbr hbx hrs hfb hcc htk htk2 hbad hpush hfo hIn
        by_cases hneg : f.1 < 0
        · have hap := HNO.out (HBAD.out (by rw [HFO.out, decide_eq_false (by omega)]; rfl))
          rw [hap]
          have HRA := hide (HRS.out.alloc (.cells #[.int .i64 f.1, .string (S f.2.nm), .int .i64 f.2.n, .slice qk f.2.ar.length dk] 34))
          have HBA := hide (HBR.out.alloc HBR.out.size (.cells #[.int .i64 f.1, .string (S f.2.nm), .int .i64 f.2.n, .slice qk f.2.ar.length dk] 34))
          clear hap HNO HYES
          have hf0 := HRA.out.frozen 0
          have hf1 := HRA.out.frozen 1
          have hf2 := HRA.out.frozen 2
          have hr0 := HRA.out.cell 0
          have hr1 := HRA.out.cell 1
          have hr2 := HRA.out.cell 2
          have hs2 := HRA.out.lt
          simp only [List.getElem?_toArray, List.getElem?_cons_succ, List.getElem?_cons_zero] at hr0 hr1 hr2
          go_wp2_with fail
          have hro := hold3 HRA.out (.string ⟨#[]⟩) (.int .i64 0) (.slice none 0 0)
          have q0 := hro.cell 0
          have q1 := hro.cell 1
          have q2 := hro.cell 2
          simp only [List.getElem?_toArray, List.getElem?_cons_succ, List.getElem?_cons_zero] at q0 q1 q2
          have HTQ : Hid (TQ ⟨[], 0, []⟩ w (.returned (.agg #[.string ⟨#[]⟩, .int .i64 0, .slice none 0 0])) ((((wr.alloc (.cells #[.int .i64 f.1, .string (S f.2.nm), .int .i64 f.2.n, .slice qk f.2.ar.length dk] 34)).setCell ⟨w.heap.size + 1, 0, none⟩ (.string ⟨#[]⟩)).setCell ⟨w.heap.size + 1, 1, none⟩ (.int .i64 0)).setCell ⟨w.heap.size + 1, 2, none⟩ (.slice none 0 0))) :=
            tq_cell (t := ⟨[], 0, []⟩) (w := w) (W := (wr.alloc (.cells #[.int .i64 f.1, .string (S f.2.nm), .int .i64 f.2.n, .slice qk f.2.ar.length dk] 34))) (pk := none) (ck := 0) (B := w.heap.size + 1) (by omega) HBA.out (zero_in _ _)
          generalize (((wr.alloc (.cells #[.int .i64 f.1, .string (S f.2.nm), .int .i64 f.2.n, .slice qk f.2.ar.length dk] 34)).setCell ⟨w.heap.size + 1, 0, none⟩ (.string ⟨#[]⟩)).setCell ⟨w.heap.size + 1, 1, none⟩ (.int .i64 0)).setCell ⟨w.heap.size + 1, 2, none⟩ (.slice none 0 0) = W3 at *
          exact bodyPost_ret (v := .agg #[.string ⟨#[]⟩, .int .i64 0, .slice none 0 0]) (by simp only [results, Tryd.results22]; go_simp) rfl HTQ.out
        · have hge : 0 ≤ f.1 := by omega
          have HRA := hide (HRS.out.alloc (.cells #[.int .i64 f.1, .string (S f.2.nm), .int .i64 f.2.n, .slice qk f.2.ar.length dk] 34))
          have HBA := hide (HBR.out.alloc HBR.out.size (.cells #[.int .i64 f.1, .string (S f.2.nm), .int .i64 f.2.n, .slice qk f.2.ar.length dk] 34))
          have HMA := hide (HMP.out.alloc (.cells #[.int .i64 f.1, .string (S f.2.nm), .int .i64 f.2.n, .slice qk f.2.ar.length dk] 34))
          have HFA := hide (HFB.out.alloc (.cells #[.int .i64 f.1, .string (S f.2.nm), .int .i64 f.2.n, .slice qk f.2.ar.length dk] 34))
          have HXA := hide (HBX.out.alloc (.cells #[.int .i64 f.1, .string (S f.2.nm), .int .i64 f.2.n, .slice qk f.2.ar.length dk] 34))
          have HYA := hide (Hold.new wr #[.int .i64 f.1, .string (S f.2.nm), .int .i64 f.2.n, .slice qk f.2.ar.length dk] 34)
          have hcf := check_any f.2 (P := P) (w := wr.alloc (.cells #[.int .i64 f.1, .string (S f.2.nm), .int .i64 f.2.n, .slice qk f.2.ar.length dk] 34)) (pk := qk) (ck := dk) (fun b hb => by have := hP b hb; have := HBR.out.size; simp; omega) (TyIn.keep (KP.of_below HBA.out hP) (fun b hb => hb) _ _ HIN.out)
          have HCF := hide hcf
          have hwrs : (wr.alloc (.cells #[.int .i64 f.1, .string (S f.2.nm), .int .i64 f.2.n, .slice qk f.2.ar.length dk] 34)).heap.size = wr.heap.size + 1 := by simp
          have HWRS := hide hwrs
          unfold cs3 at HCF
          clear hcf hwrs
          cases hcb : chk f.2
          · rw [hcb] at HCF
            have hap := HNO.out (HBAD.out (by rw [HFO.out, hcb]; simp))
            rw [hap]
            clear hap HNO HYES
            go_wp2_with fail
            refine HCF.out.mono ?_
            rintro r w3 ⟨rfl, hb3⟩
            have HB3 := hide (HBA.out.trans (hb3.mono HBA.out.size))
            have HR3 := hide (HRA.out.below hb3 HRA.out.lt)
            clear hb3
            have hf0 := HR3.out.frozen 0
            have hf1 := HR3.out.frozen 1
            have hf2 := HR3.out.frozen 2
            have hr0 := HR3.out.cell 0
            have hr1 := HR3.out.cell 1
            have hr2 := HR3.out.cell 2
            have hs2 := HR3.out.lt
            simp only [List.getElem?_toArray, List.getElem?_cons_succ, List.getElem?_cons_zero] at hr0 hr1 hr2
            go_wp2_with fail
            have hro := hold3 HR3.out (.string ⟨#[]⟩) (.int .i64 0) (.slice none 0 0)
            have q0 := hro.cell 0
            have q1 := hro.cell 1
            have q2 := hro.cell 2
            simp only [List.getElem?_toArray, List.getElem?_cons_succ, List.getElem?_cons_zero] at q0 q1 q2
            have HTQ : Hid (TQ ⟨[], 0, []⟩ w (.returned (.agg #[.string ⟨#[]⟩, .int .i64 0, .slice none 0 0])) (((w3.setCell ⟨w.heap.size + 1, 0, none⟩ (.string ⟨#[]⟩)).setCell ⟨w.heap.size + 1, 1, none⟩ (.int .i64 0)).setCell ⟨w.heap.size + 1, 2, none⟩ (.slice none 0 0))) :=
              tq_cell (t := ⟨[], 0, []⟩) (w := w) (W := w3) (pk := none) (ck := 0) (B := w.heap.size + 1) (by omega) HB3.out (zero_in _ _)
            generalize ((w3.setCell ⟨w.heap.size + 1, 0, none⟩ (.string ⟨#[]⟩)).setCell ⟨w.heap.size + 1, 1, none⟩ (.int .i64 0)).setCell ⟨w.heap.size + 1, 2, none⟩ (.slice none 0 0) = W3 at *
            exact bodyPost_ret (v := .agg #[.string ⟨#[]⟩, .int .i64 0, .slice none 0 0]) (by simp only [results, Tryd.results22]; go_simp) rfl HTQ.out
          · rw [hcb] at HCF
            have HOK := hide (show factOk f = true by rw [HFO.out, hcb, decide_eq_true hge]; rfl)
            go_wp2_with fail
            refine HCF.out.mono ?_
            rintro r w3 ⟨rfl, hb3⟩
            have HB3 := hide (HBA.out.trans (hb3.mono HBA.out.size))
            have HR3 := hide (HRA.out.below hb3 HRA.out.lt)
            have HM3 := hide (HMA.out.below hb3 HMA.out.lt)
            have HF3 := hide (HFA.out.below hb3 HFA.out.lt)
            have HX3 := hide (HXA.out.below hb3 HXA.out.lt)
            have HY3 := hide (HYA.out.below hb3 HYA.out.lt)
            have hs3 : wr.heap.size + 1 ≤ w3.heap.size := by have := hb3.size; have := HWRS.out; omega
            have y0 := HY3.out.cell 0; have y1 := HY3.out.cell 1; have y2 := HY3.out.cell 2; have y3 := HY3.out.cell 3
            have g0 := HF3.out.cell 0
            simp only [List.getElem?_toArray, List.getElem?_cons_succ, List.getElem?_cons_zero] at y0 y1 y2 y3 g0
            have hlk := HM3.out.run_look_ok (P := Tryd.prog) (T := 59) (K := 3) (E := 24) Tryd.underlying59 Tryd.underlying3 (zero24 _) f.1
            clear hb3
            cases hgf : g f.1 with
            | some v =>
              rw [hgf] at hlk
              simp only [Option.getD_some, Option.isSome_some] at hlk
              have HFP := hide (HPUSH.out.1 v hgf)
              obtain ⟨pv, cv, rfl⟩ : ∃ pv : Ty × Option Addr × Nat, ∃ cv : Unit, v = .agg (cs3 pv.1 pv.2.1 pv.2.2) := by
                have := HFM.out f.1
                cases hx : (l.take i).find? (fun y => y.1 == f.1) with
                | none => rw [hx] at this; rw [show g f.1 = none from this] at hgf; cases hgf
                | some y =>
                  rw [hx] at this
                  obtain ⟨qk', ck', h1, _⟩ := this
                  rw [h1] at hgf
                  exact ⟨(y.2, qk', ck'), (), (Option.some.inj hgf).symm⟩
              unfold cs3 at hlk
              clear hgf
              go_wp2_with fail
              go_roundg (nl - (i + 1))
              case measure => omega
              case rel =>
                refine ⟨i + 1, g, by omega, rfl, by go_num, by rw [HTK.out, HAL.out, HOK.out]; rfl, HM3.out.alloc _, by rw [HTK2.out]; exact HFP.out, HB3.out.alloc HB3.out.size _, HX3.out.alloc _, HR3.out.alloc _, HF3.out.alloc _, ?_⟩
                simp; omega
            | none =>
              rw [hgf] at hlk
              simp only [Option.getD_none, Option.isSome_none] at hlk
              have HFP := hide (HPUSH.out.2 hgf qk dk HIN.out)
              have hf3l : w1.heap.size + 1 < w3.heap.size := HF3.out.lt
              have hy3l : wr.heap.size < w3.heap.size := by omega
              clear hgf
              go_wp2_with (first
                | (at_mapUpdate; refine wpList_store _ rfl _ _ _ 59 rfl 3 24 Tryd.underlying59 Tryd.underlying3 w1.heap.size g rfl (HM3.out.alloc _) f.1 (.agg #[.string (S f.2.nm), .int .i64 f.2.n, .slice qk f.2.ar.length dk]) rfl rfl ?_; intro w4 hm4 hst4; go_frame)
                | go_in)
              go_roundg (nl - (i + 1))
              case measure => omega
              case rel =>
                have hkp := Stored.kp hst4
                have hn1 : w1.heap.size ≠ w.heap.size := by omega
                have hn2 : w1.heap.size ≠ w.heap.size + 1 := by omega
                have hn3 : w1.heap.size ≠ w1.heap.size + 1 := by omega
                have hB4 := HB3.out.alloc HB3.out.size (.cells #[.string ⟨#[]⟩, .int .i64 0, .slice none 0 0] 24)
                refine ⟨i + 1, _, by omega, rfl, by go_num, by rw [HTK.out, HAL.out, HOK.out]; rfl, hm4, by rw [HTK2.out]; exact HFP.out, hB4.trans (hkp.below fun x hx => ⟨by have := hB4.size; omega, by omega⟩), (HX3.out.alloc _).stored hst4 hn1, (HR3.out.alloc _).stored hst4 hn2, (HF3.out.alloc _).stored hst4 hn3, ?_⟩
                have := hst4.2
                simp at this
                omega
      · have h1 : l.take i = l := List.take_of_length_le (by rw [HNL.out]; omega)
        rw [h1] at HAL HFM
        have hii : ¬ (i : Int) < nl := by omega
        have hap := HYES.out HAL.out
        have c0 := hbx.cell 0; have c1 := hbx.cell 1; have c2 := hbx.cell 2
        simp only [List.getElem?_toArray, List.getElem?_cons_succ, List.getElem?_cons_zero] at c0 c1 c2
        have hbl : w.heap.size < wr.heap.size := hbx.lt
        have hall : ∀ f ∈ l, chk f.2 = true := fun f hf => by
          have := List.all_eq_true.1 HAL.out f hf
          unfold factOk at this
          simp only [Bool.and_eq_true] at this
          exact this.2
        have hcall := filled_any (look l) t (P := P) (w := wr) (pk := pk) (ck := ck) (fv := .func (.func 42) #[] #[.pointer (some ⟨w1.heap.size + 1, 0, none⟩)]) (fun b hb => by have := hP b hb; have := hbr.size; omega) (TyIn.keep (KP.of_below hbr hP) (fun b hb => hb) _ _ HE.out) htsz (fun n hn W' hW' => .inr (.inr ⟨_, rfl, apply1_any hP (hbr.trans (hW'.mono hbr.size)) (hfb.below hW' hfb.lt) (hmp.below hW' hmp.lt) HFM.out (hls_bds t HE.out n hn) hall⟩))
        rw [← hap] at hcall
        have HCALL := hide hcall
        unfold cs3 at HCALL
        clear hcall hall hal hmp hfm hbr hbx hrs hfb h1 hap HYES HNO
        go_wp2_with fail
        refine HCALL.out.mono ?_
        rintro r w2 ⟨qk, dk, rfl, hb2, hin2⟩
        have r2 := HRS.out.below hb2 HRS.out.lt
        have hf0 := r2.frozen 0
        have hf1 := r2.frozen 1
        have hf2 := r2.frozen 2
        have hr0 := r2.cell 0
        have hr1 := r2.cell 1
        have hr2 := r2.cell 2
        simp only [List.getElem?_toArray, List.getElem?_cons_succ, List.getElem?_cons_zero] at hr0 hr1 hr2
        have HB2 := hide (HBR.out.trans (hb2.mono HBR.out.size))
        have HBB := hide hb2
        have HIN2 := hide hin2
        have HR2' := hide r2
        have hs2 := r2.lt
        clear hb2 hin2 r2
        unfold cs3
        go_wp2_with fail
        have hro := hold3 HR2'.out (.string (S ap.nm)) (.int .i64 ap.n) (.slice qk ap.ar.length dk)
        have q0 := hro.cell 0
        have q1 := hro.cell 1
        have q2 := hro.cell 2
        simp only [List.getElem?_toArray, List.getElem?_cons_succ, List.getElem?_cons_zero] at q0 q1 q2
        have HTQ : Hid (TQ ap w (.returned (.agg #[.string (S ap.nm), .int .i64 ap.n, .slice qk ap.ar.length dk])) (((w2.setCell ⟨w.heap.size + 1, 0, none⟩ (.string (S ap.nm))).setCell ⟨w.heap.size + 1, 1, none⟩ (.int .i64 ap.n)).setCell ⟨w.heap.size + 1, 2, none⟩ (.slice qk ap.ar.length dk))) :=
          tq_cell (t := ap) (w := w) (W := w2) (pk := qk) (ck := dk) (B := w.heap.size + 1) (by omega) HB2.out (TyIn.keep (KP.refl _ _) (fun b hb => ⟨by have := hb.1; omega, hb.2, by have := hb.1; omega⟩) _ _ HIN2.out)
        generalize ((w2.setCell ⟨w.heap.size + 1, 0, none⟩ (.string (S ap.nm))).setCell ⟨w.heap.size + 1, 1, none⟩ (.int .i64 ap.n)).setCell ⟨w.heap.size + 1, 2, none⟩ (.slice qk ap.ar.length dk) = W3 at *
        exact bodyPost_ret (v := .agg #[.string (S ap.nm), .int .i64 ap.n, .slice qk ap.ar.length dk]) (by simp only [results, Tryd.results22]; go_simp) rfl HTQ.out
end Go.Proofs.YteoflpalmckikaaDoor
