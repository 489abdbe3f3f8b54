/-
  THE WALK OF ty.Unify.
-/
import Derived.Test.YteoflpalmckikaaDoorToldP
import Derived.Test.YteoflpalmckikaaDoorTieP
namespace Go.Proofs.YteoflpalmckikaaDoor
open Go.RowKit
set_option linter.unusedVariables false
set_option linter.unusedSimpArgs false
theorem lay_wide (t : Ty) : ∀ (st : LS) i s, (lay t st).2.sh i = some s → st.sh i = some s ∨ s.2.length ≤ tsz t := by
  induction t using Ty.ind with
  | _ t ih =>
    intro st i s
    rw [lay_eq]
    unfold layF
    by_cases hn : t.nm.isEmpty = true
    · rw [if_pos hn]
      cases hh : st.hp t.n with
      | some j => exact fun h => .inl h
      | none => exact fun h => .inl h
    · rw [if_neg hn]
      have key : ∀ (l : List Ty), (∀ k ∈ l, k ∈ t.ar) → ∀ (acc : List Nat × LS), ((layL (l.map fun k => (k, lay k)) acc).2.sh i = some s → acc.2.sh i = some s ∨ ∃ k ∈ l, s.2.length ≤ tsz k) ∧ (layL (l.map fun k => (k, lay k)) acc).1.length = acc.1.length + l.length := by
        intro l
        induction l with
        | nil => exact fun _ acc => ⟨fun h => .inl h, rfl⟩
        | cons k r ihr =>
          intro hl acc
          obtain ⟨h1, h2⟩ := ihr (fun q hq => hl q (List.mem_cons_of_mem _ hq)) (acc.1 ++ [(lay k acc.2).1], (lay k acc.2).2)
          refine ⟨fun h => ?_, ?_⟩
          · rcases h1 h with h3 | ⟨q, h3, h4⟩
            · rcases ih k (hl k List.mem_cons_self) acc.2 i s h3 with h5 | h5
              · exact .inl h5
              · exact .inr ⟨k, List.mem_cons_self, h5⟩
            · exact .inr ⟨q, List.mem_cons_of_mem _ h3, h4⟩
          · have e : layL ((k :: r).map fun k => (k, lay k)) acc = layL (r.map fun k => (k, lay k)) (acc.1 ++ [(lay k acc.2).1], (lay k acc.2).2) := rfl
            rw [e, h2]
            simp
            omega
      obtain ⟨k1, k2⟩ := key t.ar (fun _ h => h) ([], LS.mk (st.tm ++ [t]) st.sh st.hp)
      intro h
      have h' : updN (layL (t.ar.map fun k => (k, lay k)) ([], LS.mk (st.tm ++ [t]) st.sh st.hp)).2.sh st.tm.length (t.nm, (layL (t.ar.map fun k => (k, lay k)) ([], LS.mk (st.tm ++ [t]) st.sh st.hp)).1) i = some s := h
      unfold updN at h'
      split at h'
      · cases h'
        right
        rw [k2, tsz_eq]
        have := ar_le t
        simp
        omega
      · rcases k1 h' with h1 | ⟨k, h1, h2⟩
        · exact .inl h1
        · right
          obtain ⟨q, hq, rfl⟩ := List.getElem_of_mem h1
          have := sum_take_two tsz t.ar q t.ar[q] (List.getElem?_eq_getElem hq)
          rw [tsz_eq]
          omega
def UQ (a b : Ty) (w : World) (r : Ending) (w' : World) : Prop := Below w.heap.size w w' ∧ ∃ (l : List (Int × Ty)) (e : Int) (p : Option Addr) (c : Nat), r = .returned (.tuple #[.slice p l.length c, .int .i64 e]) ∧ SlOK p l.length c ∧ RM 4 (New w.heap.size w'.heap.size) w' (FaIn (New w.heap.size w'.heap.size) w') p l ∧ l.length ≤ 10000 ∧ ((chk a = true ∧ chk b = true ∧ UnifyQ a b l e) ∨ ((chk a = false ∨ chk b = false) ∧ l = [] ∧ e = 80))
set_option maxHeartbeats 16000000 in
set_option maxRecDepth 100000 in
theorem unify_any (a b : Ty) {P : Nat → Prop} {w : World} {pk qk : Option Addr} {ck dk : Nat} (hP : ∀ x, P x → x < w.heap.size) (hA : TyIn P w a [.string (S a.nm), .int .i64 a.n, .slice pk a.ar.length ck]) (hB : TyIn P w b [.string (S b.nm), .int .i64 b.n, .slice qk b.ar.length dk]) :
    Calls Tryd.prog 24 #[.agg (cs3 a pk ck), .agg (cs3 b qk dk)] w (UQ a b w) := by
  have hB0 : Below w.heap.size w ((w.alloc (.cells #[.string (S a.nm), .int .i64 a.n, .slice pk a.ar.length ck] 24)).alloc (.cells #[.string (S b.nm), .int .i64 b.n, .slice qk b.ar.length dk] 24)) := ((Below.refl _ w).alloc (Nat.le_refl _) _).alloc (by simp) _
  have hX : Hold w.heap.size #[.string (S a.nm), .int .i64 a.n, .slice pk a.ar.length ck] 24 ((w.alloc (.cells #[.string (S a.nm), .int .i64 a.n, .slice pk a.ar.length ck] 24)).alloc (.cells #[.string (S b.nm), .int .i64 b.n, .slice qk b.ar.length dk] 24)) := (Hold.new w _ 24).alloc _
  have hY : Hold (w.heap.size + 1) #[.string (S b.nm), .int .i64 b.n, .slice qk b.ar.length dk] 24 ((w.alloc (.cells #[.string (S a.nm), .int .i64 a.n, .slice pk a.ar.length ck] 24)).alloc (.cells #[.string (S b.nm), .int .i64 b.n, .slice qk b.ar.length dk] 24)) := by have := Hold.new (w.alloc (.cells #[.string (S a.nm), .int .i64 a.n, .slice pk a.ar.length ck] 24)) #[.string (S b.nm), .int .i64 b.n, .slice qk b.ar.length dk] 24; simpa using this
  have hc := check_any a (P := P) (w := ((w.alloc (.cells #[.string (S a.nm), .int .i64 a.n, .slice pk a.ar.length ck] 24)).alloc (.cells #[.string (S b.nm), .int .i64 b.n, .slice qk b.ar.length dk] 24))) (pk := pk) (ck := ck) (fun x hx => by have := hP x hx; simp; omega) (TyIn.keep (KP.of_below hB0 hP) (fun x hx => hx) _ _ hA)
  have hs0 : ((w.alloc (.cells #[.string (S a.nm), .int .i64 a.n, .slice pk a.ar.length ck] 24)).alloc (.cells #[.string (S b.nm), .int .i64 b.n, .slice qk b.ar.length dk] 24)).heap.size = w.heap.size + 2 := by simp
  have HC := hide hc; have HB0 := hide hB0; have HX := hide hX; have HY := hide hY; have HA := hide hA; have HB := hide hB; have HS0 := hide hs0
  have x0 := hX.cell 0; have x1 := hX.cell 1; have x2 := hX.cell 2
  have y0 := hY.cell 0; have y1 := hY.cell 1; have y2 := hY.cell 2
  simp only [List.getElem?_toArray, List.getElem?_cons_succ, List.getElem?_cons_zero] at x0 x1 x2 y0 y1 y2
  have hmm := @run_makeMap Tryd.prog
  clear hc hB0 hX hY hA hB hs0
  cases hch : chk a with
  | false =>
    rw [hch] at HC
    unfold cs3 at *
    go_enter Tryd.func24, Tryd.ntmps24
    go_wp2_with fail
    refine HC.out.mono ?_
    rintro r w1 ⟨rfl, hb1⟩
    go_wp2_with fail
    refine bodyPost_ret (v := .tuple #[.slice none 0 0, .int .i64 80]) (by simp only [results, Tryd.results24]; go_simp) rfl ?_
    exact ⟨HB0.out.trans (hb1.mono (by rw [HS0.out]; omega)), [], 80, none, 0, rfl, ⟨Nat.le_refl _, by omega, fun _ => rfl⟩, .inl rfl, by simp, .inr ⟨.inl hch, rfl, rfl⟩⟩
  | true =>
    rw [hch] at HC
    unfold cs3 at *
    go_enter Tryd.func24, Tryd.ntmps24
    go_wp2_with fail
    refine HC.out.mono ?_
    rintro r w1 ⟨rfl, hb1⟩
    have hb01 : Below w.heap.size w w1 := HB0.out.trans (hb1.mono (by rw [HS0.out]; omega))
    have hs1 : w.heap.size + 2 ≤ w1.heap.size := by have := hb1.size; rw [HS0.out] at this; exact this
    have hX1 := HX.out.below hb1 HX.out.lt
    have hY1 := HY.out.below hb1 HY.out.lt
    have hc2 := check_any b (P := P) (w := w1) (pk := qk) (ck := dk) (fun x hx => by have := hP x hx; omega) (TyIn.keep (KP.of_below hb01 hP) (fun x hx => hx) _ _ HB.out)
    have HC2 := hide hc2; have HB01 := hide hb01; have HX1 := hide hX1; have HY1 := hide hY1
    clear x0 x1 x2 y0 y1 y2
    have x0 := hX1.cell 0; have x1 := hX1.cell 1; have x2 := hX1.cell 2
    have y0 := hY1.cell 0; have y1 := hY1.cell 1; have y2 := hY1.cell 2
    simp only [List.getElem?_toArray, List.getElem?_cons_succ, List.getElem?_cons_zero] at x0 x1 x2 y0 y1 y2
    clear hb1 hb01 hX1 hY1 hc2 HC
    cases hcb : chk b with
    | false =>
      rw [hcb] at HC2
      unfold cs3 at *
      go_wp2_with fail
      refine HC2.out.mono ?_
      rintro r w2 ⟨rfl, hb2⟩
      go_wp2_with fail
      refine bodyPost_ret (v := .tuple #[.slice none 0 0, .int .i64 80]) (by simp only [results, Tryd.results24]; go_simp) rfl ?_
      exact ⟨HB01.out.trans (hb2.mono (by omega)), [], 80, none, 0, rfl, ⟨Nat.le_refl _, by omega, fun _ => rfl⟩, .inl rfl, by simp, .inr ⟨.inr hcb, rfl, rfl⟩⟩
    | true =>
      rw [hcb] at HC2
      unfold cs3 at *
      go_wp2_with fail
      refine HC2.out.mono ?_
      rintro r w2 ⟨rfl, hb2⟩
      have hb02 : Below w.heap.size w w2 := HB01.out.trans (hb2.mono (by omega))
      have hs2 : w.heap.size + 2 ≤ w2.heap.size := Nat.le_trans hs1 hb2.size
      have hX2 := HX1.out.below hb2 HX1.out.lt
      have hY2 := HY1.out.below hb2 HY1.out.lt
      have HB02 := hide hb02; have HX2 := hide hX2; have HY2 := hide hY2
      clear x0 x1 x2 y0 y1 y2 hb2 hb02 hX2 hY2 HC2
      go_upto_region 4 with fail
      have hVs : ((((w2.alloc (.map #[] 0)).alloc (.map #[] 0)).alloc (.map #[] 0)).alloc (.cells #[.slice none 0 0, .map (some w2.heap.size), .map (some (w2.heap.size + 1)), .map (some (w2.heap.size + 2))] 64)).heap.size = w2.heap.size + 4 := by simp
      have hVB : Below w2.heap.size w2 ((((w2.alloc (.map #[] 0)).alloc (.map #[] 0)).alloc (.map #[] 0)).alloc (.cells #[.slice none 0 0, .map (some w2.heap.size), .map (some (w2.heap.size + 1)), .map (some (w2.heap.size + 2))] 64)) := ((((Below.refl _ w2).alloc (Nat.le_refl _) _).alloc (by simp) _).alloc (by simp; omega) _).alloc (by simp; omega) _
      have hVC : Hold (w2.heap.size + 3) #[.slice none 0 0, .map (some w2.heap.size), .map (some (w2.heap.size + 1)), .map (some (w2.heap.size + 2))] 64 ((((w2.alloc (.map #[] 0)).alloc (.map #[] 0)).alloc (.map #[] 0)).alloc (.cells #[.slice none 0 0, .map (some w2.heap.size), .map (some (w2.heap.size + 1)), .map (some (w2.heap.size + 2))] 64)) := by
        have := Hold.new (((w2.alloc (.map #[] 0)).alloc (.map #[] 0)).alloc (.map #[] 0)) #[.slice none 0 0, .map (some w2.heap.size), .map (some (w2.heap.size + 1)), .map (some (w2.heap.size + 2))] 64
        simpa using this
      have hV1 : MapI ((((w2.alloc (.map #[] 0)).alloc (.map #[] 0)).alloc (.map #[] 0)).alloc (.cells #[.slice none 0 0, .map (some w2.heap.size), .map (some (w2.heap.size + 1)), .map (some (w2.heap.size + 2))] 64)) w2.heap.size (fun _ => none) := ((MapI.made w2).alloc _).alloc _ |>.alloc _
      have hV2 : MapI ((((w2.alloc (.map #[] 0)).alloc (.map #[] 0)).alloc (.map #[] 0)).alloc (.cells #[.slice none 0 0, .map (some w2.heap.size), .map (some (w2.heap.size + 1)), .map (some (w2.heap.size + 2))] 64)) (w2.heap.size + 1) (fun _ => none) := by
        have := (((MapI.made (w2.alloc (.map #[] 0))).alloc (.map #[] 0)).alloc (.cells #[.slice none 0 0, .map (some w2.heap.size), .map (some (w2.heap.size + 1)), .map (some (w2.heap.size + 2))] 64))
        simpa using this
      have hV3 : MapI ((((w2.alloc (.map #[] 0)).alloc (.map #[] 0)).alloc (.map #[] 0)).alloc (.cells #[.slice none 0 0, .map (some w2.heap.size), .map (some (w2.heap.size + 1)), .map (some (w2.heap.size + 2))] 64)) (w2.heap.size + 2) (fun _ => none) := by
        have := ((MapI.made ((w2.alloc (.map #[] 0)).alloc (.map #[] 0))).alloc (.cells #[.slice none 0 0, .map (some w2.heap.size), .map (some (w2.heap.size + 1)), .map (some (w2.heap.size + 2))] 64))
        simpa using this
      have hWM : WM w2.heap.size (w2.heap.size + 3) w2.heap.size (w2.heap.size + 1) (w2.heap.size + 2) (.slice none 0 0) (List.range (⟨[], fun _ => none, fun _ => none⟩ : LS).tm.length) (⟨[], fun _ => none, fun _ => none⟩ : LS).hp (⟨[], fun _ => none, fun _ => none⟩ : LS).sh (fun _ => none) ((((w2.alloc (.map #[] 0)).alloc (.map #[] 0)).alloc (.map #[] 0)).alloc (.cells #[.slice none 0 0, .map (some w2.heap.size), .map (some (w2.heap.size + 1)), .map (some (w2.heap.size + 2))] 64)) :=
        ⟨⟨by omega, by omega, by omega, by omega⟩, ⟨by omega, by omega, by omega⟩, hVC, World.ownsRow_nil _ _ _ _, hV1, ⟨_, hV2, fun i s h => (by cases h), fun _ _ => rfl⟩, ⟨_, hV3, fun _ => rfl⟩, by show 0 ≤ _; omega⟩
      have hX4 := HX2.out.below hVB HX2.out.lt
      have hY4 := HY2.out.below hVB HY2.out.lt
      have x0 := hX4.cell 0; have x1 := hX4.cell 1; have x2 := hX4.cell 2
      have y0 := hY4.cell 0; have y1 := hY4.cell 1; have y2 := hY4.cell 2
      simp only [List.getElem?_toArray, List.getElem?_cons_succ, List.getElem?_cons_zero] at x0 x1 x2 y0 y1 y2
      have hb04 : Below w.heap.size w ((((w2.alloc (.map #[] 0)).alloc (.map #[] 0)).alloc (.map #[] 0)).alloc (.cells #[.slice none 0 0, .map (some w2.heap.size), .map (some (w2.heap.size + 1)), .map (some (w2.heap.size + 2))] 64)) := HB02.out.trans (hVB.mono HB02.out.size)
      have hca := (chk_iff a).1 hch
      have hcb' := (chk_iff b).1 hcb
      have hla := lay_any (le := fun _ => none) a (P := P) (w := ((((w2.alloc (.map #[] 0)).alloc (.map #[] 0)).alloc (.map #[] 0)).alloc (.cells #[.slice none 0 0, .map (some w2.heap.size), .map (some (w2.heap.size + 1)), .map (some (w2.heap.size + 2))] 64)).drew) (pk := pk) (ck := ck) (fun x hx => by have := hP x hx; omega) (TyIn.keep ((KP.of_below hb04 hP).drew) (fun x hx => hx) _ _ HA.out) (hWM.below (below_drew _)) (by have := hca.2.2; show 0 + _ ≤ _; omega)
      have HLA := hide hla; have HVS := hide hVs; have HX4 := hide hX4; have HY4 := hide hY4; have HB04 := hide hb04; have HCA := hide hca; have HCB := hide hcb'
      clear hla hVs hVB hVC hV1 hV2 hV3 hWM hX4 hY4 hb04 hca hcb'
      generalize ((((w2.alloc (.map #[] 0)).alloc (.map #[] 0)).alloc (.map #[] 0)).alloc (.cells #[.slice none 0 0, .map (some w2.heap.size), .map (some (w2.heap.size + 1)), .map (some (w2.heap.size + 2))] 64)) = V4 at *
      refine region_J 9 (N := 9) (S := (fun W' : World => W'.cell? ⟨w.heap.size, 0, none⟩ = some (.string (S a.nm)) ∧ W'.cell? ⟨w.heap.size, 1, none⟩ = some (.int .i64 a.n) ∧ W'.cell? ⟨w.heap.size, 2, none⟩ = some (.slice pk a.ar.length ck) ∧ W'.cell? ⟨w.heap.size + 1, 0, none⟩ = some (.string (S b.nm)) ∧ W'.cell? ⟨w.heap.size + 1, 1, none⟩ = some (.int .i64 b.n) ∧ W'.cell? ⟨w.heap.size + 1, 2, none⟩ = some (.slice qk b.ar.length dk))) (by kernel_rfl) (by kernel_rfl) ?_
      have hS : (fun W' : World => W'.cell? ⟨w.heap.size, 0, none⟩ = some (.string (S a.nm)) ∧ W'.cell? ⟨w.heap.size, 1, none⟩ = some (.int .i64 a.n) ∧ W'.cell? ⟨w.heap.size, 2, none⟩ = some (.slice pk a.ar.length ck) ∧ W'.cell? ⟨w.heap.size + 1, 0, none⟩ = some (.string (S b.nm)) ∧ W'.cell? ⟨w.heap.size + 1, 1, none⟩ = some (.int .i64 b.n) ∧ W'.cell? ⟨w.heap.size + 1, 2, none⟩ = some (.slice qk b.ar.length dk)) V4.drew := ⟨x0, x1, x2, y0, y1, y2⟩
      refine take_D (i := 0) 22 (.pointer (some ⟨w2.heap.size + 3, 0, none⟩)) rfl rfl (by kernel_rfl) (by kernel_rfl) (by kernel_rfl) (by kernel_rfl) (fun _ _ _ h => h) (Or.inl ⟨by rfl, fun W' hW => by obtain ⟨s0, s1, s2, s3, s4, s5⟩ := hW; go_simp⟩) hS ?_
      simp only [Act.put, List.setIfInBounds_toArray, List.set_cons_zero, List.set_cons_succ]
      refine take_D (i := 1) 23 (.pointer (some ⟨w2.heap.size + 3, 0, none⟩)) rfl rfl (by kernel_rfl) (by kernel_rfl) (by kernel_rfl) (by kernel_rfl) (fun _ _ _ h => h) (Or.inl ⟨by rfl, fun W' hW => by obtain ⟨s0, s1, s2, s3, s4, s5⟩ := hW; go_simp⟩) hS ?_
      simp only [Act.put, List.setIfInBounds_toArray, List.set_cons_zero, List.set_cons_succ]
      refine take_D (i := 2) 24 (.agg #[.string (S a.nm), .int .i64 a.n, .slice pk a.ar.length ck]) rfl rfl (by kernel_rfl) (by kernel_rfl) (by kernel_rfl) (by kernel_rfl) (fun _ _ _ h => h) (Or.inl ⟨by rfl, fun W' hW => by obtain ⟨s0, s1, s2, s3, s4, s5⟩ := hW; go_simp⟩) hS ?_
      simp only [Act.put, List.setIfInBounds_toArray, List.set_cons_zero, List.set_cons_succ]
      refine take_D (i := 4) 26 (.pointer (some ⟨w2.heap.size + 3, 0, none⟩)) rfl rfl (by kernel_rfl) (by kernel_rfl) (by kernel_rfl) (by kernel_rfl) (fun _ _ _ h => h) (Or.inl ⟨by rfl, fun W' hW => by obtain ⟨s0, s1, s2, s3, s4, s5⟩ := hW; go_simp⟩) hS ?_
      simp only [Act.put, List.setIfInBounds_toArray, List.set_cons_zero, List.set_cons_succ]
      refine take_D (i := 5) 27 (.agg #[.string (S b.nm), .int .i64 b.n, .slice qk b.ar.length dk]) rfl rfl (by kernel_rfl) (by kernel_rfl) (by kernel_rfl) (by kernel_rfl) (fun _ _ _ h => h) (Or.inl ⟨by rfl, fun W' hW => by obtain ⟨s0, s1, s2, s3, s4, s5⟩ := hW; go_simp⟩) hS ?_
      simp only [Act.put, List.setIfInBounds_toArray, List.set_cons_zero, List.set_cons_succ]
      refine ready_J (rs := [3]) (by kernel_rfl) (by simp) ?_
      intro jj hjj
      obtain rfl := List.mem_singleton.1 hjj
      clear hjj
      refine op_J rfl rfl fun K hK => ?_
      go_simp
      refine HLA.out.mono ?_
      rintro r w5 ⟨rfl, v5, hm5, hk5, hvb5, hav5⟩
      have hXk : ∀ b, b < w2.heap.size → Wk (w2.heap.size + 3) w2.heap.size (w2.heap.size + 1) (w2.heap.size + 2) (.slice none 0 0) V4.drew b := fun b hb => ⟨by have := HVS.out; show b < V4.heap.size; omega, by omega, by omega, by omega, by omega, by simp [Value.ownBlock]⟩
      have HK5 : Hid (KP (fun b => b < w2.heap.size) V4 w5) := hide (((KP.refl _ V4).drew).trans (hk5.mono fun b hb => hXk b hb))
      have hX5 := HX4.out.kp HK5.out (by show w.heap.size < w2.heap.size; omega)
      have hY5 := HY4.out.kp HK5.out (by show w.heap.size + 1 < w2.heap.size; omega)
      have hb05 : KP (fun b => b < w.heap.size) w w5 := (KP.of_below HB04.out fun b hb => hb).trans (HK5.out.mono fun b hb => by have hb' : b < w.heap.size := hb; show b < w2.heap.size; omega)
      have hlb := lay_any (le := fun _ => none) b (P := P) (w := w5) (pk := qk) (ck := dk) (fun x hx => by have := hP x hx; omega) (TyIn.keep (hb05.mono hP) (fun x hx => hx) _ _ HB.out) hm5 (by have h1 := lay_len a (⟨[], fun _ => none, fun _ => none⟩ : LS); have := HCA.out.2.2; have := HCB.out.2.2; have e : ((⟨[], fun _ => none, fun _ => none⟩ : LS)).tm.length = 0 := rfl; rw [e] at h1; omega)
      have HLB := hide hlb; have HM5 := hide hm5; have HX5 := hide hX5; have HY5 := hide hY5; have HB05 := hide hb05
      have hvo5 : ∀ g, v5.ownBlock = some g → w2.heap.size ≤ g := fun g hg => (row_own hm5.row hg).1
      have hV5 : w2.heap.size + 4 ≤ w5.heap.size := by have := HVS.out; have := HK5.out.size; omega
      clear x0 x1 x2 y0 y1 y2 hS
      have x0 := hX5.cell 0; have x1 := hX5.cell 1; have x2 := hX5.cell 2
      have y0 := hY5.cell 0; have y1 := hY5.cell 1; have y2 := hY5.cell 2
      simp only [List.getElem?_toArray, List.getElem?_cons_succ, List.getElem?_cons_zero] at x0 x1 x2 y0 y1 y2
      clear hm5 hk5 hvb5 hav5 hlb hX5 hY5 hb05
      refine hK _ _ ⟨fun _ => ⟨x0, x1, x2, y0, y1, y2⟩, ?_⟩
      clear hK K
      refine ready_J (rs := [6]) (by kernel_rfl) (by simp) ?_
      intro jj hjj
      obtain rfl := List.mem_singleton.1 hjj
      clear hjj
      refine op_J rfl rfl fun K hK => ?_
      go_simp
      refine HLB.out.mono ?_
      rintro r w6 ⟨rfl, v6, hm6, hk6, hvb6, _⟩
      have HK6 : Hid (KP (fun b => b < w2.heap.size) V4 w6) := hide (HK5.out.trans (hk6.mono fun b hb => by have hb' : b < w2.heap.size := hb; exact ⟨by omega, by omega, by omega, by omega, by omega, fun e => by have := hvo5 b e.symm; omega⟩))
      have hX6 := HX4.out.kp HK6.out (by show w.heap.size < w2.heap.size; omega)
      have hY6 := HY4.out.kp HK6.out (by show w.heap.size + 1 < w2.heap.size; omega)
      clear x0 x1 x2 y0 y1 y2
      have x0 := hX6.cell 0; have x1 := hX6.cell 1; have x2 := hX6.cell 2
      have y0 := hY6.cell 0; have y1 := hY6.cell 1; have y2 := hY6.cell 2
      simp only [List.getElem?_toArray, List.getElem?_cons_succ, List.getElem?_cons_zero] at x0 x1 x2 y0 y1 y2
      obtain ⟨st, x, y, he, hx, hLa, hax, hay, hxn, hyn⟩ := lay_two HCA.out.1 HCB.out.1
      have hths : ∀ m i, st.hp m = some i → m ∈ hls a ∨ m ∈ hls b := fun m i hm => by
        have h1 := lay_hls b (lay a (⟨[], fun _ => none, fun _ => none⟩ : LS)).2 m i (by rw [he]; exact hm)
        rcases h1 with ⟨k, h1⟩ | h1
        · rcases lay_hls a (⟨[], fun _ => none, fun _ => none⟩ : LS) m k h1 with ⟨q, h2⟩ | h2
          · cases h2
          · exact .inl h2
        · exact .inr h1
      have hwid : ∀ i s, st.sh i = some s → s.2.length ≤ 100000 := fun i s hs => by
        have h1 := lay_wide b (lay a (⟨[], fun _ => none, fun _ => none⟩ : LS)).2 i s (by rw [he]; exact hs)
        rcases h1 with h1 | h1
        · rcases lay_wide a (⟨[], fun _ => none, fun _ => none⟩ : LS) i s h1 with h2 | h2
          · cases h2
          · have := HCA.out.2.2; omega
        · have := HCB.out.2.2; omega
      have hst : st.tm.length ≤ 4000 := by
        have h1 := lay_len a (⟨[], fun _ => none, fun _ => none⟩ : LS)
        have h2 := lay_len b (lay a (⟨[], fun _ => none, fun _ => none⟩ : LS)).2
        rw [he] at h2
        have e : ((⟨[], fun _ => none, fun _ => none⟩ : LS)).tm.length = 0 := rfl
        rw [e] at h1
        simp only at h2
        have := HCA.out.2.2; have := HCB.out.2.2
        omega
      rw [he] at hm6
      simp only at hm6
      have hshs : ∀ i s, st.sh i = some s → s.2.length ≤ 100000 ∧ ∀ j ∈ s.2, j < st.tm.length := fun i s hs => ⟨hwid i s hs, (hLa.shape i s.1 s.2 hs).2.2.2⟩
      have htie := tie_any (n := st.tm.length) (D := w2.heap.size) (B := w2.heap.size + 3) (hB := w2.heap.size) (fB := w2.heap.size + 1) (lB := w2.heap.size + 2) (hp := st.hp) (le := fun _ => none) (sh := st.sh) (x := x) (y := y) hshs (rootN (List.range st.tm.length)) (fc := st.sh) (ro := id) (d := fun _ => 0) (a := x) (b := y) rfl (List.length_range) hm6 (Fo.start _) (web_start st.sh x y).1 (fun V _ e => e) hxn hyn
      have hxe : ((lay a (⟨[], fun _ => none, fun _ => none⟩ : LS)).1 : Nat) = x := hx.symm
      have hye : (lay b (lay a (⟨[], fun _ => none, fun _ => none⟩ : LS)).2).1 = y := by rw [he]
      rw [hxe, hye]
      have hV6 : w2.heap.size + 4 ≤ w6.heap.size := by have := HVS.out; have := HK6.out.size; omega
      have HT := hide htie; have HX6 := hide hX6; have HY6 := hide hY6; have HLA' := hide hLa; have HTH := hide hths; have HSH := hide hshs; have HAX := hide hax; have HAY := hide hay
      have hvo6 : ∀ g, v6.ownBlock = some g → w2.heap.size ≤ g := fun g hg => (row_own hm6.row hg).1
      clear hk6 hvb6 hm6 hX6 hY6 he hx hLa hax hay hths hwid hshs htie hxe hye
      refine hK _ _ ⟨fun _ => ⟨x0, x1, x2, y0, y1, y2⟩, ?_⟩
      clear hK K
      refine ready_J (rs := [7]) (by kernel_rfl) (by simp) ?_
      intro jj hjj
      obtain rfl := List.mem_singleton.1 hjj
      clear hjj
      refine op_J rfl rfl fun K hK => ?_
      go_simp
      refine HT.out.mono ?_
      rintro r w7 ⟨res, rfl, hk7, hno, hyes⟩
      have HK7 : Hid (KP (fun b => b < w2.heap.size) V4 w7) := hide (HK6.out.trans (hk7.mono fun b hb => by have hb' : b < w2.heap.size := hb; exact ⟨by omega, by omega, by omega, by omega, by omega, fun e => by have := hvo6 b e.symm; omega⟩))
      have hX7 := HX4.out.kp HK7.out (by show w.heap.size < w2.heap.size; omega)
      have hY7 := HY4.out.kp HK7.out (by show w.heap.size + 1 < w2.heap.size; omega)
      clear x0 x1 x2 y0 y1 y2
      have x0 := hX7.cell 0; have x1 := hX7.cell 1; have x2 := hX7.cell 2
      have y0 := hY7.cell 0; have y1 := hY7.cell 1; have y2 := hY7.cell 2
      simp only [List.getElem?_toArray, List.getElem?_cons_succ, List.getElem?_cons_zero] at x0 x1 x2 y0 y1 y2
      have HNO := hide hno; have HYES := hide hyes
      have HB07 : Hid (Below w.heap.size w w7) := hide (HB04.out.trans (HK7.out.below fun b hb => by omega))
      have hV7 : w2.heap.size + 4 ≤ w7.heap.size := by have := HVS.out; have := HK7.out.size; omega
      clear hno hyes hX7 hY7 hk7
      refine hK _ _ ⟨fun _ => ⟨x0, x1, x2, y0, y1, y2⟩, ?_⟩
      clear hK K
      refine ready_J (rs := [8]) (by kernel_rfl) (by simp) ?_
      intro jj hjj
      obtain rfl := List.mem_singleton.1 hjj
      clear hjj
      refine op_J rfl rfl fun K hK => ?_
      go_simp
      refine hK _ _ ⟨fun _ => ⟨x0, x1, x2, y0, y1, y2⟩, ?_⟩
      clear hK K
      refine done_J (by kernel_rfl) ?_ _
      cases res with
      | false =>
        have hun := unify_none HLA'.out (HNO.out rfl)
        rw [HAX.out, HAY.out] at hun
        have HUN := hide hun
        clear hun
        go_wp2_with fail
        refine bodyPost_ret (v := .tuple #[.slice none 0 0, .int .i64 80]) (by simp only [results, Tryd.results24]; go_simp) rfl ?_
        exact ⟨HB07.out, [], 80, none, 0, rfl, ⟨Nat.le_refl _, by omega, fun _ => rfl⟩, .inl rfl, by simp, .inl ⟨hch, hcb, HUN.out⟩⟩
      | true =>
        obtain ⟨ties7, fc, ro, d, hm7, hf7, htr, htl7, _⟩ := HYES.out rfl
        obtain ⟨hws, hone, hcl⟩ := tie_end htr
        have hsh7 : ∀ i s, fc (ro i) = some s → s.1.length ≤ 20 ∧ s.2.length ≤ 100000 ∧ ∀ j ∈ s.2, j < st.tm.length := fun i s hs => by
          obtain ⟨j, _, hj⟩ := hws.own (ro i) s (hws.idem i) hs
          exact ⟨(HLA'.out.shape j s.1 s.2 hj).2.2.1, HSH.out j s hj⟩
        have hleaf7 : ∀ i, i < st.tm.length → fc (ro i) = none → ∃ m j, st.hp m = some j ∧ ro j = ro i := fun i hi hs => by
          have h1 : st.sh i = none := by
            cases hq : st.sh i with
            | none => rfl
            | some s =>
              obtain ⟨bs, h2, _⟩ := hcl i s.1 s.2 hq
              rw [hs] at h2
              cases h2
          obtain ⟨m, _, h3⟩ := HLA'.out.leaf i hi h1
          exact ⟨m, i, h3, rfl⟩
        have hspot7 : ∀ m i, st.hp m = some i → i < st.tm.length ∧ 0 ≤ m ∧ m ≤ 9223372036854775807 := fun m i hm => by
          obtain ⟨h1, _, _, h4⟩ := HLA'.out.spot m i hm
          refine ⟨h1, h4, ?_⟩
          rcases HTH.out m i hm with h | h
          · exact (hls_bds a HA.out m h).2
          · exact (hls_bds b HB.out m h).2
        obtain ⟨hl, hl1, hl2, hl3⟩ := hole_list HLA'.out
        have htold := told_any hm7 hf7 htl7 hsh7 hleaf7 hspot7 hl1 hl2 hl3
        have HTO := hide htold; have HWS := hide hws; have HONE := hide hone; have HCL := hide hcl
        have hvo7 : ∀ g, v6.ownBlock = some g → w2.heap.size ≤ g := hvo6
        clear hm7 hf7 htr htl7 hws hone hcl hsh7 hleaf7 hspot7 hl1 htold
        go_wp2_with fail
        refine HTO.out.mono ?_
        rintro r w8 ⟨hk8, ns, hpw, hmem, hres⟩
        have HB08 : Hid (Below w.heap.size w w8) := hide (HB07.out.trans (hk8.below fun b hb => ⟨by omega, by omega, by omega, by omega, by omega, fun e => by have := hvo7 b e.symm; omega⟩))
        have hlow : ∀ m i, st.hp m = some i → leaI st.hp ro ns (ro i) ≤ m ∧ ∃ j, st.hp (leaI st.hp ro ns (ro i)) = some j ∧ ro j = ro i := fun m i hm => by
          obtain ⟨k, h1, h2, _, h4⟩ := leaF_low (ro := ro) hpw hm ((hmem m).2 ⟨i, hm⟩)
          have h5 : leaI st.hp ro ns (ro i) = k := by unfold leaI; rw [h1]; rfl
          rw [h5]
          exact ⟨h2, h4⟩
        have hTied : Tied st.sh fc ro (leaI st.hp ro ns) st.at st.hp st.tm.length x y := ⟨HLA'.out, HWS.out.idem, HCL.out, HWS.out.own, HONE.out, HWS.out.agr, hlow, hxn, hyn⟩
        have hth' : ∀ m i, st.hp m = some i → m ∈ hls (st.at x) ∨ m ∈ hls (st.at y) := fun m i hm => by rw [HAX.out, HAY.out]; exact HTH.out m i hm
        have hsz8 : w.heap.size ≤ w7.heap.size := by omega
        rcases hres with ⟨g, p, c, rfl, hsl, hrm, hg⟩ | ⟨rfl, m, i, hm, hgno⟩
        · have hT1 := told1_of hpw hmem hg (fun m hm => by
            obtain ⟨i, hi⟩ := (hmem m).1 hm
            exact (hTied.holes 60 i (g m) (HLA'.out.spot m i hi).1 (hg m i hi).1).1)
          have huq := unify_ok hTied hT1 hth'
          rw [HAX.out, HAY.out] at huq
          have hlen : (toldL g ns).length ≤ 10000 := by
            have h1 := toldL_len g ns
            have h2 : ns.length ≤ hl.length := List.Nodup.length_le_of_subset (hpw.imp fun h e => by omega) fun m hm => (hl2 m).2 ((hmem m).1 hm)
            omega
          have HUQ := hide huq; have HRM := hide hrm; have HSL := hide hsl
          clear huq hrm hsl hT1 hg hk8 hTied hlow hth'
          go_wp2_with fail
          refine bodyPost_ret (v := .tuple #[.slice p (toldL g ns).length c, .int .i64 0]) (by simp only [results, Tryd.results24]; go_simp) rfl ?_
          have hm' : ∀ b, New w7.heap.size w8.heap.size b → New w.heap.size w8.heap.size b := fun b hb => ⟨by have := hb.1; omega, hb.2⟩
          exact ⟨HB08.out, toldL g ns, 0, p, c, rfl, HSL.out, RM.keep (KP.refl _ _) hm' (fun t ds h => FaIn.keep (KP.refl _ _) hm' t ds h) HRM.out, hlen, .inl ⟨hch, hcb, HUQ.out⟩⟩
        · have huq := unify_great hTied hth' hm hgno
          rw [HAX.out, HAY.out] at huq
          have HUQ := hide huq
          clear huq hk8 hTied hlow hth' hgno
          go_wp2_with fail
          refine bodyPost_ret (v := .tuple #[.slice none 0 0, .int .i64 80]) (by simp only [results, Tryd.results24]; go_simp) rfl ?_
          exact ⟨HB08.out, [], 80, none, 0, rfl, ⟨Nat.le_refl _, by omega, fun _ => rfl⟩, .inl rfl, by simp, .inl ⟨hch, hcb, HUQ.out⟩⟩
end Go.Proofs.YteoflpalmckikaaDoor
