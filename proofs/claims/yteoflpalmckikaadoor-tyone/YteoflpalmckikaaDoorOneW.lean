/-
  THE WALK OF TyOne.
-/
import Derived.Test.YteoflpalmckikaaDoorAwakeP
import Derived.Test.YteoflpalmckikaaDoorLeastW
namespace Go.Proofs.YteoflpalmckikaaDoor
open Go.RowKit
set_option linter.unusedVariables false
set_option linter.unusedSimpArgs false
theorem il_read {base : Nat} {v : Value} {l : List Int} {W : World} (h : IL base v l W) : ∃ p c, v = .slice p l.length c ∧ l.length ≤ 9223372036854775807 ∧ ∀ W', Below W.heap.size W W' → ∀ i, i < l.length → ∃ g x, p = some ⟨g, 0, none⟩ ∧ l[i]? = some x ∧ W'.cell? ⟨g, i, none⟩ = some (.int .i64 x) := by
  obtain ⟨p, c, rfl, hg⟩ := h.slice
  have hlm : l.length ≤ 9223372036854775807 := by
    rcases h.2 with ⟨_, h2⟩ | ⟨g, cap, cur, hv, _, _, r1, r2, _⟩
    · omega
    · unfold maxLen at r2; omega
  refine ⟨p, c, rfl, hlm, fun W' hb i hi => ?_⟩
  obtain ⟨g, rfl, _, hgl⟩ := hg (by omega)
  have h' := h
  unfold IL at h'
  exact ⟨g, l[i], rfl, List.getElem?_eq_getElem hi, (hb.cell (p := ⟨g, i, none⟩) hgl).trans (row_cell h' (intV_at (List.getElem?_eq_getElem hi)))⟩
theorem dec_take {l : List Int} {q : Nat} {x y : Int} (h : l[q]? = some y) : decide (x ∈ l.take (q + 1)) = (decide (x ∈ l.take q) || (y == x)) := by
  rw [List.take_add_one, h, Bool.eq_iff_iff, decide_eq_true_iff, Bool.or_eq_true, decide_eq_true_iff, beq_iff_eq, List.mem_append]
  refine or_congr Iff.rfl ?_
  simp [eq_comm]
set_option maxHeartbeats 16000000 in
set_option maxRecDepth 100000 in
theorem one_walk (a b : Ty) {w : World} {pa pb : Option Addr} {ca cb : Nat} (hG : GT w) (hA : TyIn (fun x => x < w.heap.size) w a [.string (S a.nm), .int .i64 a.n, .slice pa a.ar.length ca]) (hB : TyIn (fun x => x < w.heap.size) w b [.string (S b.nm), .int .i64 b.n, .slice pb b.ar.length cb]) :
    Calls Tryd.prog 6 #[.agg (cs3 a pa ca), .agg (cs3 b pb cb)] w fun r w' => r = .returned (.bool true) ∧ Below w.heap.size w w' := by
  have HTA : Hid (∀ W, Below w.heap.size w W → TyIn (fun x => x < w.heap.size) W a [.string (S a.nm), .int .i64 a.n, .slice pa a.ar.length ca]) := hide fun W hb => TyIn.keep (KP.of_below hb fun x hx => hx) (fun x hx => hx) _ _ hA
  have HTB : Hid (∀ W, Below w.heap.size w W → TyIn (fun x => x < w.heap.size) W b [.string (S b.nm), .int .i64 b.n, .slice pb b.ar.length cb]) := hide fun W hb => TyIn.keep (KP.of_below hb fun x hx => hx) (fun x hx => hx) _ _ hB
  have hX : Hold w.heap.size #[.string (S a.nm), .int .i64 a.n, .slice pa a.ar.length ca] 24 ((w.alloc (.cells #[.string (S a.nm), .int .i64 a.n, .slice pa a.ar.length ca] 24)).alloc (.cells #[.string (S b.nm), .int .i64 b.n, .slice pb b.ar.length cb] 24)) := (Hold.new w _ 24).alloc _
  have hY : Hold (w.heap.size + 1) #[.string (S b.nm), .int .i64 b.n, .slice pb b.ar.length cb] 24 ((w.alloc (.cells #[.string (S a.nm), .int .i64 a.n, .slice pa a.ar.length ca] 24)).alloc (.cells #[.string (S b.nm), .int .i64 b.n, .slice pb b.ar.length cb] 24)) := by have := Hold.new (w.alloc (.cells #[.string (S a.nm), .int .i64 a.n, .slice pa a.ar.length ca] 24)) #[.string (S b.nm), .int .i64 b.n, .slice pb b.ar.length cb] 24; simpa using this
  have hb0 : Below w.heap.size w ((w.alloc (.cells #[.string (S a.nm), .int .i64 a.n, .slice pa a.ar.length ca] 24)).alloc (.cells #[.string (S b.nm), .int .i64 b.n, .slice pb b.ar.length cb] 24)) := ((Below.refl _ w).alloc (Nat.le_refl _) _).alloc (by simp) _
  have HG0 := hide (hG.below hb0)
  have HX0 := hide hX; have HY0 := hide hY; have HB0 := hide hb0
  clear hX hY hb0 hG hA hB
  unfold cs3
  go_enter Tryd.func6, Tryd.ntmps6
  go_upto_region 1 with fail
  generalize ((w.alloc (.cells #[.string (S a.nm), .int .i64 a.n, .slice pa a.ar.length ca] 24)).alloc (.cells #[.string (S b.nm), .int .i64 b.n, .slice pb b.ar.length cb] 24)) = w0 at *
  have x0 := HX0.out.cell 0; have x1 := HX0.out.cell 1; have x2 := HX0.out.cell 2
  have y0 := HY0.out.cell 0; have y1 := HY0.out.cell 1; have y2 := HY0.out.cell 2
  simp only [List.getElem?_toArray, List.getElem?_cons_succ, List.getElem?_cons_zero] at x0 x1 x2 y0 y1 y2
  go_wp2_with fail
  refine (awake_any HG0.out).mono ?_
  rintro r w1 ⟨rfl, hb⟩
  have hbs := hb
  have HX1 := hide (HX0.out.below hbs HX0.out.lt)
  have HY1 := hide (HY0.out.below hbs HY0.out.lt)
  have HB1 := hide (HB0.out.trans (hbs.mono HB0.out.size))
  have hs1 := HB1.out.size
  clear hbs
  clear x0 x1 x2 y0 y1 y2
  have x0 := HX1.out.cell 0; have x1 := HX1.out.cell 1; have x2 := HX1.out.cell 2
  have y0 := HY1.out.cell 0; have y1 := HY1.out.cell 1; have y2 := HY1.out.cell 2
  simp only [List.getElem?_toArray, List.getElem?_cons_succ, List.getElem?_cons_zero] at x0 x1 x2 y0 y1 y2
  clear hb
  have hfw := few_any a (P := fun x => x < w.heap.size) (w := w1) (pk := pa) (ck := ca) (fun x hx => Nat.lt_of_lt_of_le hx HB1.out.size) (HTA.out w1 HB1.out)
  have HFW := hide hfw
  clear hfw
  cases hfewa : fewM a with
  | false =>
    rw [hfewa] at HFW
    unfold cs3 at HFW
    go_wp2_with fail
    refine HFW.out.mono ?_
    rintro r w2 ⟨rfl, hb⟩
    go_wp2_with fail
    go_ret
    exact ⟨rfl, HB1.out.trans (hb.mono HB1.out.size)⟩
  | true =>
    rw [hfewa] at HFW
    unfold cs3 at HFW
    go_wp2_with fail
    refine HFW.out.mono ?_
    rintro r w2 ⟨rfl, hb⟩
    have hbs := hb
    have HX2 := hide (HX1.out.below hbs HX1.out.lt)
    have HY2 := hide (HY1.out.below hbs HY1.out.lt)
    have HB2 := hide (HB1.out.trans (hbs.mono HB1.out.size))
    have hs2 := HB2.out.size
    clear hbs
    clear x0 x1 x2 y0 y1 y2
    have x0 := HX2.out.cell 0; have x1 := HX2.out.cell 1; have x2 := HX2.out.cell 2
    have y0 := HY2.out.cell 0; have y1 := HY2.out.cell 1; have y2 := HY2.out.cell 2
    simp only [List.getElem?_toArray, List.getElem?_cons_succ, List.getElem?_cons_zero] at x0 x1 x2 y0 y1 y2
    clear hb HFW
    have hfw := few_any b (P := fun x => x < w.heap.size) (w := w2) (pk := pb) (ck := cb) (fun x hx => Nat.lt_of_lt_of_le hx HB2.out.size) (HTB.out w2 HB2.out)
    have HFW := hide hfw
    clear hfw
    cases hfewb : fewM b with
    | false =>
      rw [hfewb] at HFW
      unfold cs3 at HFW
      go_wp2_with fail
      refine HFW.out.mono ?_
      rintro r w3 ⟨rfl, hb⟩
      go_wp2_with fail
      go_ret
      exact ⟨rfl, HB2.out.trans (hb.mono HB2.out.size)⟩
    | true =>
      rw [hfewb] at HFW
      unfold cs3 at HFW
      go_wp2_with fail
      refine HFW.out.mono ?_
      rintro r w3 ⟨rfl, hb⟩
      have hbs := hb
      have HX3 := hide (HX2.out.below hbs HX2.out.lt)
      have HY3 := hide (HY2.out.below hbs HY2.out.lt)
      have HB3 := hide (HB2.out.trans (hbs.mono HB2.out.size))
      have hs3 := HB3.out.size
      clear hbs
      clear x0 x1 x2 y0 y1 y2
      have x0 := HX3.out.cell 0; have x1 := HX3.out.cell 1; have x2 := HX3.out.cell 2
      have y0 := HY3.out.cell 0; have y1 := HY3.out.cell 1; have y2 := HY3.out.cell 2
      simp only [List.getElem?_toArray, List.getElem?_cons_succ, List.getElem?_cons_zero] at x0 x1 x2 y0 y1 y2
      clear hb HFW
      have hu := unify_any a b (P := fun x => x < w.heap.size) (w := w3) (pk := pa) (qk := pb) (ck := ca) (dk := cb) (fun x hx => Nat.lt_of_lt_of_le hx HB3.out.size) (HTA.out w3 HB3.out) (HTB.out w3 HB3.out)
      have HUU := hide hu
      clear hu
      unfold cs3 at HUU
      go_wp2_with fail
      refine HUU.out.mono ?_
      rintro r w4 ⟨hb, l, e, pl, cl, rfl, _, hrm, hll, hor⟩
      have hbs := hb
      have HX4 := hide (HX3.out.below hbs HX3.out.lt)
      have HY4 := hide (HY3.out.below hbs HY3.out.lt)
      have HB4 := hide (HB3.out.trans (hbs.mono HB3.out.size))
      have hs4 := HB4.out.size
      clear hbs
      have HRL4 : Hid (RM 4 (fun x => x < w4.heap.size) w4 (FaIn (fun x => x < w4.heap.size) w4) pl l) := hide (RM.keep (KP.refl _ _) (fun x hx => hx.2) (fun t ds h => FaIn.keep (KP.refl _ _) (fun x hx => hx.2) t ds h) hrm)
      clear x0 x1 x2 y0 y1 y2
      have x0 := HX4.out.cell 0; have x1 := HX4.out.cell 1; have x2 := HX4.out.cell 2
      have y0 := HY4.out.cell 0; have y1 := HY4.out.cell 1; have y2 := HY4.out.cell 2
      simp only [List.getElem?_toArray, List.getElem?_cons_succ, List.getElem?_cons_zero] at x0 x1 x2 y0 y1 y2
      clear hb hrm HUU
      have hcase : (e = 0 ∧ chk a = true ∧ chk b = true ∧ Told a b l ∧ tellF l) ∨ (e = 80 ∧ l = []) := by
        rcases hor with ⟨h1, h2, h3 | h3⟩ | ⟨_, h2, h3⟩
        · exact .inl ⟨h3.1, h1, h2, h3.2⟩
        · exact .inr ⟨h3.1, h3.2.1⟩
        · exact .inr ⟨h3, h2⟩
      clear hor
      rcases hcase with ⟨rfl, hca, hcb, htold, htell⟩ | ⟨rfl, rfl⟩
      · have hposf : ∀ f ∈ l, 0 ≤ f.1 ∧ chk f.2 = true := fun f hf => ⟨told_pos hca hcb _ (htold.theirs f hf), htell f hf⟩
        have hxy : applyM l b = applyM l a := by rw [applyM_ok hca hposf, applyM_ok hcb hposf]; exact htold.one.symm
        have hleft : ∀ m ∈ (if chk (applyM l a) then hs (applyM l a) else []), ∀ f ∈ l, f.1 ≠ m := fun m hm f hf => by
          split at hm
          · rw [hs_mem, applyM_ok hca hposf] at hm
            exact one_left htold m hm f hf
          · cases hm
        have HTOLD := hide htold; have HTELL := hide htell; have HLF := hide hleft; have HXY := hide hxy
        clear htold htell hposf hleft hxy
        generalize hm : l.length = m at *
        have HMK := hide hm
        clear hm
        have hap := apply_any l a (P := fun x => x < w4.heap.size) (w := w4) (pl := pl) (cl := cl) (pk := pa) (ck := ca) (fun x hx => hx) (TyIn.keep (KP.refl _ _) (fun x hx => Nat.lt_of_lt_of_le hx HB4.out.size) _ _ (HTA.out w4 HB4.out)) (HRL4.out) (by rw [HMK.out]; omega)
        rw [HMK.out] at hap
        generalize hxt : applyM l a = xt at *
        have HXT := hide hxt; have HAP := hide hap
        clear hap hxt
        unfold cs3 at HAP
        have hq4 := HY4.out.lt; have hq4x := HX4.out.lt
        go_wp2_with fail
        refine HAP.out.mono ?_
        rintro r w5 ⟨px, cx, rfl, hb, hinx⟩
        have hbs := hb
        have HX5 := hide (HX4.out.below hbs HX4.out.lt)
        have HY5 := hide (HY4.out.below hbs HY4.out.lt)
        have HB5 := hide (HB4.out.trans (hbs.mono HB4.out.size))
        have hs5 := HB5.out.size
        clear hbs
        have HRL5 : Hid (RM 4 (fun x => x < w5.heap.size) w5 (FaIn (fun x => x < w5.heap.size) w5) pl l) := hide (RM.keep (KP.of_below hb fun x hx => hx) (fun x hx => Nat.lt_of_lt_of_le hx hb.size) (fun t ds h => FaIn.keep (KP.of_below hb fun x hx => hx) (fun x hx => Nat.lt_of_lt_of_le hx hb.size) t ds h) HRL4.out)
        clear x0 x1 x2 y0 y1 y2
        have HIN5 : Hid (TyIn (fun x => x < w5.heap.size) w5 xt [.string (S xt.nm), .int .i64 xt.n, .slice px xt.ar.length cx]) := hide (TyIn.keep (KP.refl _ _) (fun x hx => hx.2) _ _ hinx)
        clear hb hinx HAP hq4 hq4x
        unfold cs3
        go_upto_region 8 with fail
        have hU := Hold.new w5 #[.string (S xt.nm), .int .i64 xt.n, .slice px xt.ar.length cx] 24
        have hb : Below w5.heap.size w5 (w5.alloc (.cells #[.string (S xt.nm), .int .i64 xt.n, .slice px xt.ar.length cx] 24)) := (Below.refl _ w5).alloc (Nat.le_refl _) _
        generalize (w5.alloc (.cells #[.string (S xt.nm), .int .i64 xt.n, .slice px xt.ar.length cx] 24)) = w6 at *
        have hbs := hb
        have HX6 := hide (HX5.out.below hbs HX5.out.lt)
        have HY6 := hide (HY5.out.below hbs HY5.out.lt)
        have HB6 := hide (HB5.out.trans (hbs.mono HB5.out.size))
        have hs6 := HB6.out.size
        clear hbs
        have HRL6 : Hid (RM 4 (fun x => x < w6.heap.size) w6 (FaIn (fun x => x < w6.heap.size) w6) pl l) := hide (RM.keep (KP.of_below hb fun x hx => hx) (fun x hx => Nat.lt_of_lt_of_le hx hb.size) (fun t ds h => FaIn.keep (KP.of_below hb fun x hx => hx) (fun x hx => Nat.lt_of_lt_of_le hx hb.size) t ds h) HRL5.out)
        have HU6 := hide hU
        have HTX : Hid (∀ W, Below w6.heap.size w6 W → TyIn (fun x => x < w6.heap.size) W xt [.string (S xt.nm), .int .i64 xt.n, .slice px xt.ar.length cx]) := hide fun W hb2 => TyIn.keep ((KP.of_below hb fun x hx => hx).trans (KP.of_below hb2 fun x hx => Nat.lt_of_lt_of_le hx hb.size)) (fun x hx => Nat.lt_of_lt_of_le hx hb.size) _ _ HIN5.out
        generalize hn5 : w5.heap.size = n5 at *
        clear hU hb hn5 HIN5
        have x0 := HX6.out.cell 0; have x1 := HX6.out.cell 1; have x2 := HX6.out.cell 2
        have y0 := HY6.out.cell 0; have y1 := HY6.out.cell 1; have y2 := HY6.out.cell 2
        have u0 := HU6.out.cell 0; have u1 := HU6.out.cell 1; have u2 := HU6.out.cell 2
        simp only [List.getElem?_toArray, List.getElem?_cons_succ, List.getElem?_cons_zero] at x0 x1 x2 y0 y1 y2 u0 u1 u2
        have hap := apply_any l b (P := fun x => x < w6.heap.size) (w := w6) (pl := pl) (cl := cl) (pk := pb) (ck := cb) (fun x hx => hx) (TyIn.keep (KP.refl _ _) (fun x hx => Nat.lt_of_lt_of_le hx HB6.out.size) _ _ (HTB.out w6 HB6.out)) (HRL6.out) (by rw [HMK.out]; omega)
        rw [HMK.out] at hap
        rw [HXY.out] at hap
        have HAP := hide hap
        clear hap
        unfold cs3 at HAP
        have hq6 := HY6.out.lt; have hq6x := HX6.out.lt
        go_wp2_with fail
        refine HAP.out.mono ?_
        rintro r w7 ⟨py, cy, rfl, hb, hinx⟩
        have hbs := hb
        have HX7 := hide (HX6.out.below hbs HX6.out.lt)
        have HY7 := hide (HY6.out.below hbs HY6.out.lt)
        have HU7 := hide (HU6.out.below hbs HU6.out.lt)
        have HB7 := hide (HB6.out.trans (hbs.mono HB6.out.size))
        have hs7 := HB7.out.size
        clear hbs
        have HRL7 : Hid (RM 4 (fun x => x < w7.heap.size) w7 (FaIn (fun x => x < w7.heap.size) w7) pl l) := hide (RM.keep (KP.of_below hb fun x hx => hx) (fun x hx => Nat.lt_of_lt_of_le hx hb.size) (fun t ds h => FaIn.keep (KP.of_below hb fun x hx => hx) (fun x hx => Nat.lt_of_lt_of_le hx hb.size) t ds h) HRL6.out)
        clear x0 x1 x2 y0 y1 y2 u0 u1 u2
        have HIN7 : Hid (TyIn (fun x => x < w7.heap.size) w7 xt [.string (S xt.nm), .int .i64 xt.n, .slice py xt.ar.length cy]) := hide (TyIn.keep (KP.refl _ _) (fun x hx => hx.2) _ _ hinx)
        have HW67 : Hid (Below w6.heap.size w6 w7) := hide hb
        clear hb hinx HAP hq6 hq6x
        unfold cs3
        go_upto_region 9 with fail
        have hU := Hold.new w7 #[.string (S xt.nm), .int .i64 xt.n, .slice py xt.ar.length cy] 24
        have hb : Below w7.heap.size w7 (w7.alloc (.cells #[.string (S xt.nm), .int .i64 xt.n, .slice py xt.ar.length cy] 24)) := (Below.refl _ w7).alloc (Nat.le_refl _) _
        generalize (w7.alloc (.cells #[.string (S xt.nm), .int .i64 xt.n, .slice py xt.ar.length cy] 24)) = w8 at *
        have hbs := hb
        have HX8 := hide (HX7.out.below hbs HX7.out.lt)
        have HY8 := hide (HY7.out.below hbs HY7.out.lt)
        have HU8 := hide (HU7.out.below hbs HU7.out.lt)
        have HB8 := hide (HB7.out.trans (hbs.mono HB7.out.size))
        have hs8 := HB8.out.size
        clear hbs
        have HRL8 : Hid (RM 4 (fun x => x < w8.heap.size) w8 (FaIn (fun x => x < w8.heap.size) w8) pl l) := hide (RM.keep (KP.of_below hb fun x hx => hx) (fun x hx => Nat.lt_of_lt_of_le hx hb.size) (fun t ds h => FaIn.keep (KP.of_below hb fun x hx => hx) (fun x hx => Nat.lt_of_lt_of_le hx hb.size) t ds h) HRL7.out)
        have HV8 := hide hU
        have HTY : Hid (∀ W, Below w8.heap.size w8 W → TyIn (fun x => x < w8.heap.size) W xt [.string (S xt.nm), .int .i64 xt.n, .slice py xt.ar.length cy]) := hide fun W hb2 => TyIn.keep ((KP.of_below hb fun x hx => hx).trans (KP.of_below hb2 fun x hx => Nat.lt_of_lt_of_le hx hb.size)) (fun x hx => Nat.lt_of_lt_of_le hx hb.size) _ _ HIN7.out
        generalize hn7 : w7.heap.size = n7 at *
        have HW68 : Hid (Below w6.heap.size w6 w8) := hide (HW67.out.trans (hb.mono (by have := HW67.out.size; omega)))
        clear hU hb hn7 HIN7
        have x0 := HX8.out.cell 0; have x1 := HX8.out.cell 1; have x2 := HX8.out.cell 2
        have y0 := HY8.out.cell 0; have y1 := HY8.out.cell 1; have y2 := HY8.out.cell 2
        have u0 := HU8.out.cell 0; have u1 := HU8.out.cell 1; have u2 := HU8.out.cell 2
        have v0 := HV8.out.cell 0; have v1 := HV8.out.cell 1; have v2 := HV8.out.cell 2
        simp only [List.getElem?_toArray, List.getElem?_cons_succ, List.getElem?_cons_zero] at x0 x1 x2 y0 y1 y2 u0 u1 u2 v0 v1 v2
        have hho := tyHoles_any xt (P := fun x => x < w6.heap.size) (w := w8) (pk := px) (ck := cx) (fun x hx => Nat.lt_of_lt_of_le hx HW68.out.size) (HTX.out w8 HW68.out) 
        have HHO := hide hho
        clear hho
        unfold cs3 at HHO
        go_wp2_with fail
        refine HHO.out.mono ?_
        rintro r w9 ⟨vl, rfl, hill, hb⟩
        have hbs := hb
        have HX9 := hide (HX8.out.below hbs HX8.out.lt)
        have HY9 := hide (HY8.out.below hbs HY8.out.lt)
        have HU9 := hide (HU8.out.below hbs HU8.out.lt)
        have HV9 := hide (HV8.out.below hbs HV8.out.lt)
        have HB9 := hide (HB8.out.trans (hbs.mono HB8.out.size))
        have hs9 := HB9.out.size
        clear hbs
        have HRL9 : Hid (RM 4 (fun x => x < w9.heap.size) w9 (FaIn (fun x => x < w9.heap.size) w9) pl l) := hide (RM.keep (KP.of_below hb fun x hx => hx) (fun x hx => Nat.lt_of_lt_of_le hx hb.size) (fun t ds h => FaIn.keep (KP.of_below hb fun x hx => hx) (fun x hx => Nat.lt_of_lt_of_le hx hb.size) t ds h) HRL8.out)
        clear x0 x1 x2 y0 y1 y2 u0 u1 u2 v0 v1 v2
        have x0 := HX9.out.cell 0; have x1 := HX9.out.cell 1; have x2 := HX9.out.cell 2
        have y0 := HY9.out.cell 0; have y1 := HY9.out.cell 1; have y2 := HY9.out.cell 2
        have u0 := HU9.out.cell 0; have u1 := HU9.out.cell 1; have u2 := HU9.out.cell 2
        have v0 := HV9.out.cell 0; have v1 := HV9.out.cell 1; have v2 := HV9.out.cell 2
        simp only [List.getElem?_toArray, List.getElem?_cons_succ, List.getElem?_cons_zero] at x0 x1 x2 y0 y1 y2 u0 u1 u2 v0 v1 v2
        have HW9 : Hid (Below w9.heap.size w9 w9) := hide (Below.refl _ _)
        have HW89 : Hid (Below w8.heap.size w8 w9) := hide hb
        clear hb HHO
        have hho := tyHoles_any a (P := fun x => x < w.heap.size) (w := w9) (pk := pa) (ck := ca) (fun x hx => Nat.lt_of_lt_of_le hx HB9.out.size) (HTA.out w9 HB9.out) 
        have HHO := hide hho
        clear hho
        unfold cs3 at HHO
        go_wp2_with fail
        refine HHO.out.mono ?_
        rintro r w10 ⟨vp, rfl, hilp, hb⟩
        have hbs := hb
        have HX10 := hide (HX9.out.below hbs HX9.out.lt)
        have HY10 := hide (HY9.out.below hbs HY9.out.lt)
        have HU10 := hide (HU9.out.below hbs HU9.out.lt)
        have HV10 := hide (HV9.out.below hbs HV9.out.lt)
        have HB10 := hide (HB9.out.trans (hbs.mono HB9.out.size))
        have hs10 := HB10.out.size
        clear hbs
        have HRL10 : Hid (RM 4 (fun x => x < w10.heap.size) w10 (FaIn (fun x => x < w10.heap.size) w10) pl l) := hide (RM.keep (KP.of_below hb fun x hx => hx) (fun x hx => Nat.lt_of_lt_of_le hx hb.size) (fun t ds h => FaIn.keep (KP.of_below hb fun x hx => hx) (fun x hx => Nat.lt_of_lt_of_le hx hb.size) t ds h) HRL9.out)
        clear x0 x1 x2 y0 y1 y2 u0 u1 u2 v0 v1 v2
        have x0 := HX10.out.cell 0; have x1 := HX10.out.cell 1; have x2 := HX10.out.cell 2
        have y0 := HY10.out.cell 0; have y1 := HY10.out.cell 1; have y2 := HY10.out.cell 2
        have u0 := HU10.out.cell 0; have u1 := HU10.out.cell 1; have u2 := HU10.out.cell 2
        have v0 := HV10.out.cell 0; have v1 := HV10.out.cell 1; have v2 := HV10.out.cell 2
        simp only [List.getElem?_toArray, List.getElem?_cons_succ, List.getElem?_cons_zero] at x0 x1 x2 y0 y1 y2 u0 u1 u2 v0 v1 v2
        have HW910 : Hid (Below w9.heap.size w9 w10) := hide hb
        clear hb HHO
        have hho := tyHoles_any b (P := fun x => x < w.heap.size) (w := w10) (pk := pb) (ck := cb) (fun x hx => Nat.lt_of_lt_of_le hx HB10.out.size) (HTB.out w10 HB10.out) 
        have HHO := hide hho
        clear hho
        unfold cs3 at HHO
        go_wp2_with fail
        refine HHO.out.mono ?_
        rintro r w11 ⟨vq, rfl, hilq, hb⟩
        have hbs := hb
        have HX11 := hide (HX10.out.below hbs HX10.out.lt)
        have HY11 := hide (HY10.out.below hbs HY10.out.lt)
        have HU11 := hide (HU10.out.below hbs HU10.out.lt)
        have HV11 := hide (HV10.out.below hbs HV10.out.lt)
        have HB11 := hide (HB10.out.trans (hbs.mono HB10.out.size))
        have hs11 := HB11.out.size
        clear hbs
        have HRL11 : Hid (RM 4 (fun x => x < w11.heap.size) w11 (FaIn (fun x => x < w11.heap.size) w11) pl l) := hide (RM.keep (KP.of_below hb fun x hx => hx) (fun x hx => Nat.lt_of_lt_of_le hx hb.size) (fun t ds h => FaIn.keep (KP.of_below hb fun x hx => hx) (fun x hx => Nat.lt_of_lt_of_le hx hb.size) t ds h) HRL10.out)
        clear x0 x1 x2 y0 y1 y2 u0 u1 u2 v0 v1 v2
        have x0 := HX11.out.cell 0; have x1 := HX11.out.cell 1; have x2 := HX11.out.cell 2
        have y0 := HY11.out.cell 0; have y1 := HY11.out.cell 1; have y2 := HY11.out.cell 2
        have u0 := HU11.out.cell 0; have u1 := HU11.out.cell 1; have u2 := HU11.out.cell 2
        have v0 := HV11.out.cell 0; have v1 := HV11.out.cell 1; have v2 := HV11.out.cell 2
        simp only [List.getElem?_toArray, List.getElem?_cons_succ, List.getElem?_cons_zero] at x0 x1 x2 y0 y1 y2 u0 u1 u2 v0 v1 v2
        have HW1011 : Hid (Below w10.heap.size w10 w11) := hide hb
        clear hb HHO
        rw [hca, if_pos rfl] at hilp
        rw [hcb, if_pos rfl] at hilq
        generalize hL : (if chk xt = true then hs xt else []) = Ll at *
        have HLE := hide hL
        obtain ⟨ppl, ccl, rfl, hnl, hrl⟩ := il_read hill
        obtain ⟨ppp, ccp, rfl, hnp, hrp⟩ := il_read hilp
        obtain ⟨ppq, ccq, rfl, hnq, hrq⟩ := il_read hilq
        have HRL := hide hrl; have HRP := hide hrp; have HRQ := hide hrq
        have HW911 : Hid (Below w9.heap.size w9 w11) := hide (HW910.out.trans (HW1011.out.mono HW910.out.size))
        clear hill hilp hilq hrl hrp hrq hL
        generalize hnl' : Ll.length = nl at *
        generalize hnp' : (hs a).length = np at *
        generalize hnq' : (hs b).length = nq at *
        have HNL := hide hnl'; have HNP := hide hnp'; have HNQ := hide hnq'
        clear hnl' hnp' hnq'
        have hmb : m ≤ 10000 := hll
        have HW1111 : Hid (Below w11.heap.size w11 w11) := hide (Below.refl _ _)
        clear x0 x1 x2 y0 y1 y2 u0 u1 u2 v0 v1 v2
        go_wp2_with fail
        go_loopg [13] m (fun k s13 wr => ∃ j : Nat, j ≤ m ∧ k = m - j ∧ s13 = .int .i64 j ∧ Below w11.heap.size w11 wr)
        case atStart => exact ⟨0, Nat.zero_le _, by omega, rfl, Below.refl _ w11⟩
        case round =>
          obtain ⟨j, hj1, rfl, rfl, hbr⟩ := hrel
          have HBR := hide hbr
          clear hbr
          by_cases hlt : j < m
          · have hjl : j < l.length := by rw [HMK.out]; exact hlt
            obtain ⟨b1, o1, q1, d1, hpl, hp1, _, hin1, a0, a1, a2, a3⟩ := fm_at HRL11.out hjl
            subst hpl
            have hf0 : ∃ f0 : Int, (0 < j → w11.cell? ⟨b1, o1 + (j - 1) * 4, none⟩ = some (.int .i64 f0)) ∧ (0 < j → f0 < l[j].1) := by
              by_cases h0 : 0 < j
              · have hj2 : j - 1 < l.length := by omega
                obtain ⟨b1', o1', q1', d1', hpl', _, _, _, e0, _⟩ := fm_at HRL11.out hj2
                cases hpl'
                exact ⟨l[j - 1].1, fun _ => e0, fun _ => List.pairwise_iff_getElem.1 HTOLD.out.rise (j - 1) j hj2 hjl (by omega)⟩
              · exact ⟨0, fun h => absurd h h0, fun h => absurd h h0⟩
            obtain ⟨f0, e0, e1⟩ := hf0
            have hmem := List.getElem_mem hjl
            generalize l[j] = f at *
            have hcl : ∀ (W : World), Below w11.heap.size w11 W → ∀ x, W.cell? ⟨b1, x, none⟩ = w11.cell? ⟨b1, x, none⟩ := fun W hb x => hb.cell (p := ⟨b1, x, none⟩) hp1
            have hsf : ∀ (W : World), Below w11.heap.size w11 W → (fun W' : World => W'.cell? ⟨b1, o1 + j * 4, none⟩ = some (.int .i64 f.1) ∧ W'.cell? ⟨b1, o1 + j * 4 + 1, none⟩ = some (.string (S f.2.nm)) ∧ W'.cell? ⟨b1, o1 + j * 4 + 1 + 1, none⟩ = some (.int .i64 f.2.n) ∧ W'.cell? ⟨b1, o1 + j * 4 + 1 + 2, none⟩ = some (.slice q1 f.2.ar.length d1) ∧ (0 < j → W'.cell? ⟨b1, o1 + (j - 1) * 4, none⟩ = some (.int .i64 f0))) W := fun W hb => ⟨(hcl W hb _).trans a0, (hcl W hb _).trans a1, (hcl W hb _).trans a2, (hcl W hb _).trans a3, fun h => (hcl W hb _).trans (e0 h)⟩
            have HSF := hide hsf; have HINF := hide hin1; have HCF := hide (HTELL.out f hmem); have HMEM := hide hmem
            have hjj : (j : Int) < m := by omega
            clear hsf hcl a0 a1 a2 a3 e0 hin1 hmem
            by_cases hj0 : j = 0
            · have hjz : ¬ (0 : Int) < j := by omega
              have hj0n : ¬ 0 < j := by omega
              clear hj0 e1
              go_upto_region 15 with fail
              refine wp_region_noPanic ?_
              refine region_J 25 (N := 25) (S := (fun W' : World => W'.cell? ⟨b1, o1 + j * 4, none⟩ = some (.int .i64 f.1) ∧ W'.cell? ⟨b1, o1 + j * 4 + 1, none⟩ = some (.string (S f.2.nm)) ∧ W'.cell? ⟨b1, o1 + j * 4 + 1 + 1, none⟩ = some (.int .i64 f.2.n) ∧ W'.cell? ⟨b1, o1 + j * 4 + 1 + 2, none⟩ = some (.slice q1 f.2.ar.length d1) ∧ (0 < j → W'.cell? ⟨b1, o1 + (j - 1) * 4, none⟩ = some (.int .i64 f0)))) (by kernel_rfl) (by kernel_rfl) ?_
              have hM0 : Below w11.heap.size w11 wr.drew := HBR.out.trans ((below_drew wr).mono HBR.out.size)
              generalize wr.drew = u0 at *
              have HM0 := hide hM0
              have hS := HSF.out u0 hM0
              clear hM0
              refine take_D (i := 0) 60 (.int .i64 j) rfl rfl (by kernel_rfl) (by kernel_rfl) (by kernel_rfl) (by kernel_rfl) (fun _ _ _ h => h) (Or.inl ⟨by rfl, fun W' hW => by go_simp⟩) hS ?_
              simp only [Act.put, List.setIfInBounds_toArray, List.set_cons_zero, List.set_cons_succ]
              refine take_D (i := 1) 61 (.bool false) rfl rfl (by kernel_rfl) (by kernel_rfl) (by kernel_rfl) (by kernel_rfl) (fun _ _ _ h => h) (Or.inl ⟨by rfl, fun W' hW => by go_simp⟩) hS ?_
              simp only [Act.put, List.setIfInBounds_toArray, List.set_cons_zero, List.set_cons_succ]
              refine take_D (i := 2) 62 (.bool false) rfl rfl (by kernel_rfl) (by kernel_rfl) (by kernel_rfl) (by kernel_rfl) (fun _ _ _ h => h) (Or.inl ⟨by rfl, fun W' hW => by go_simp⟩) hS ?_
              simp only [Act.put, List.setIfInBounds_toArray, List.set_cons_zero, List.set_cons_succ]
              refine take_D (i := 3) 63 (undef) rfl rfl (by kernel_rfl) (by kernel_rfl) (by kernel_rfl) (by kernel_rfl) (fun _ _ _ h => h) (Or.inr ⟨by rfl, rfl⟩) hS ?_
              simp only [Act.put, List.setIfInBounds_toArray, List.set_cons_zero, List.set_cons_succ]
              refine take_D (i := 4) 64 (undef) rfl rfl (by kernel_rfl) (by kernel_rfl) (by kernel_rfl) (by kernel_rfl) (fun _ _ _ h => h) (Or.inr ⟨by rfl, rfl⟩) hS ?_
              simp only [Act.put, List.setIfInBounds_toArray, List.set_cons_zero, List.set_cons_succ]
              refine take_D (i := 5) 65 (undef) rfl rfl (by kernel_rfl) (by kernel_rfl) (by kernel_rfl) (by kernel_rfl) (fun _ _ _ h => h) (Or.inr ⟨by rfl, rfl⟩) hS ?_
              simp only [Act.put, List.setIfInBounds_toArray, List.set_cons_zero, List.set_cons_succ]
              refine take_D (i := 6) 66 (undef) rfl rfl (by kernel_rfl) (by kernel_rfl) (by kernel_rfl) (by kernel_rfl) (fun _ _ _ h => h) (Or.inr ⟨by rfl, rfl⟩) hS ?_
              simp only [Act.put, List.setIfInBounds_toArray, List.set_cons_zero, List.set_cons_succ]
              refine take_D (i := 7) 67 (undef) rfl rfl (by kernel_rfl) (by kernel_rfl) (by kernel_rfl) (by kernel_rfl) (fun _ _ _ h => h) (Or.inr ⟨by rfl, rfl⟩) hS ?_
              simp only [Act.put, List.setIfInBounds_toArray, List.set_cons_zero, List.set_cons_succ]
              refine take_D (i := 8) 68 (undef) rfl rfl (by kernel_rfl) (by kernel_rfl) (by kernel_rfl) (by kernel_rfl) (fun _ _ _ h => h) (Or.inr ⟨by rfl, rfl⟩) hS ?_
              simp only [Act.put, List.setIfInBounds_toArray, List.set_cons_zero, List.set_cons_succ]
              refine take_D (i := 9) 69 (undef) rfl rfl (by kernel_rfl) (by kernel_rfl) (by kernel_rfl) (by kernel_rfl) (fun _ _ _ h => h) (Or.inr ⟨by rfl, rfl⟩) hS ?_
              simp only [Act.put, List.setIfInBounds_toArray, List.set_cons_zero, List.set_cons_succ]
              refine take_D (i := 10) 70 (undef) rfl rfl (by kernel_rfl) (by kernel_rfl) (by kernel_rfl) (by kernel_rfl) (fun _ _ _ h => h) (Or.inr ⟨by rfl, rfl⟩) hS ?_
              simp only [Act.put, List.setIfInBounds_toArray, List.set_cons_zero, List.set_cons_succ]
              refine take_D (i := 11) 71 (undef) rfl rfl (by kernel_rfl) (by kernel_rfl) (by kernel_rfl) (by kernel_rfl) (fun _ _ _ h => h) (Or.inr ⟨by rfl, rfl⟩) hS ?_
              simp only [Act.put, List.setIfInBounds_toArray, List.set_cons_zero, List.set_cons_succ]
              refine take_D (i := 12) 72 (undef) rfl rfl (by kernel_rfl) (by kernel_rfl) (by kernel_rfl) (by kernel_rfl) (fun _ _ _ h => h) (Or.inr ⟨by rfl, rfl⟩) hS ?_
              simp only [Act.put, List.setIfInBounds_toArray, List.set_cons_zero, List.set_cons_succ]
              refine take_D (i := 13) 73 (undef) rfl rfl (by kernel_rfl) (by kernel_rfl) (by kernel_rfl) (by kernel_rfl) (fun _ _ _ h => h) (Or.inr ⟨by rfl, rfl⟩) hS ?_
              simp only [Act.put, List.setIfInBounds_toArray, List.set_cons_zero, List.set_cons_succ]
              refine take_D (i := 14) 74 (undef) rfl rfl (by kernel_rfl) (by kernel_rfl) (by kernel_rfl) (by kernel_rfl) (fun _ _ _ h => h) (Or.inr ⟨by rfl, rfl⟩) hS ?_
              simp only [Act.put, List.setIfInBounds_toArray, List.set_cons_zero, List.set_cons_succ]
              refine take_D (i := 15) 75 (.bool false) rfl rfl (by kernel_rfl) (by kernel_rfl) (by kernel_rfl) (by kernel_rfl) (fun _ _ _ h => h) (Or.inl ⟨by rfl, fun W' hW => by go_simp⟩) hS ?_
              simp only [Act.put, List.setIfInBounds_toArray, List.set_cons_zero, List.set_cons_succ]
              refine take_D (i := 16) 76 (.bool false) rfl rfl (by kernel_rfl) (by kernel_rfl) (by kernel_rfl) (by kernel_rfl) (fun _ _ _ h => h) (Or.inl ⟨by rfl, fun W' hW => by go_simp⟩) hS ?_
              simp only [Act.put, List.setIfInBounds_toArray, List.set_cons_zero, List.set_cons_succ]
              refine take_D (i := 17) 77 (.slice (some ⟨b1, o1, none⟩) m cl) rfl rfl (by kernel_rfl) (by kernel_rfl) (by kernel_rfl) (by kernel_rfl) (fun _ _ _ h => h) (Or.inl ⟨by rfl, fun W' hW => by go_simp⟩) hS ?_
              simp only [Act.put, List.setIfInBounds_toArray, List.set_cons_zero, List.set_cons_succ]
              refine take_D (i := 18) 78 (.int .i64 j) rfl rfl (by kernel_rfl) (by kernel_rfl) (by kernel_rfl) (by kernel_rfl) (fun _ _ _ h => h) (Or.inl ⟨by rfl, fun W' hW => by go_simp⟩) hS ?_
              simp only [Act.put, List.setIfInBounds_toArray, List.set_cons_zero, List.set_cons_succ]
              refine take_D (i := 19) 79 (.pointer (some ⟨b1, o1 + j * 4, none⟩)) rfl rfl (by kernel_rfl) (by kernel_rfl) (by kernel_rfl) (by kernel_rfl) (fun _ _ _ h => h) (Or.inl ⟨by rfl, fun W' hW => by go_simp⟩) hS ?_
              simp only [Act.put, List.setIfInBounds_toArray, List.set_cons_zero, List.set_cons_succ]
              refine take_D (i := 20) 80 (.pointer (some ⟨b1, o1 + j * 4 + 1, none⟩)) rfl rfl (by kernel_rfl) (by kernel_rfl) (by kernel_rfl) (by kernel_rfl) (fun _ _ _ h => h) (Or.inl ⟨by rfl, fun W' hW => by go_simp⟩) hS ?_
              simp only [Act.put, List.setIfInBounds_toArray, List.set_cons_zero, List.set_cons_succ]
              refine take_D (i := 21) 81 (.agg #[.string (S f.2.nm), .int .i64 f.2.n, .slice q1 f.2.ar.length d1]) rfl rfl (by kernel_rfl) (by kernel_rfl) (by kernel_rfl) (by kernel_rfl) (fun _ _ _ h => h) (Or.inl ⟨by rfl, fun W' hW => by obtain ⟨s0, s1, s2, s3, s4⟩ := hW; go_simp⟩) hS ?_
              simp only [Act.put, List.setIfInBounds_toArray, List.set_cons_zero, List.set_cons_succ]
              have hck := check_any f.2 (P := fun x => x < w11.heap.size) (w := u0) (pk := q1) (ck := d1) (fun x hx => Nat.lt_of_lt_of_le hx HM0.out.size) (TyIn.keep (KP.of_below HM0.out fun x hx => hx) (fun x hx => hx) _ _ HINF.out)
              rw [HCF.out] at hck
              have HCK := hide hck
              clear hck
              unfold cs3 at HCK
              refine ready_J (rs := [22]) (by kernel_rfl) (by simp) ?_
              intro jj hjj
              obtain rfl := List.mem_singleton.1 hjj
              clear hjj
              refine op_W rfl (by rfl) fun K hK => ?_
              go_simp
              refine HCK.out.mono ?_
              rintro r u1 ⟨rfl, hb⟩
              have HM1 : Hid (Below w11.heap.size w11 u1) := hide (HM0.out.trans (hb.mono HM0.out.size))
              clear hS hb HCK
              have hS := HSF.out u1 HM1.out
              refine hK _ _ ⟨fun _ => hS, ?_⟩
              clear hK K
              refine take_D (i := 23) 83 (.bool false) rfl rfl (by kernel_rfl) (by kernel_rfl) (by kernel_rfl) (by kernel_rfl) (fun _ _ _ h => h) (Or.inl ⟨by rfl, fun W' hW => by go_simp⟩) hS ?_
              simp only [Act.put, List.setIfInBounds_toArray, List.set_cons_zero, List.set_cons_succ]
              refine take_D (i := 24) 84 (.bool false) rfl rfl (by kernel_rfl) (by kernel_rfl) (by kernel_rfl) (by kernel_rfl) (fun _ _ _ h => h) (Or.inl ⟨by rfl, fun W' hW => by go_simp⟩) hS ?_
              simp only [Act.put, List.setIfInBounds_toArray, List.set_cons_zero, List.set_cons_succ]
              refine done_J (by kernel_rfl) ?_ _
              refine NoPanic.normal ?_
              clear hS
              go_wp2_with fail
              go_loopg [14] nl (fun k s14 wr => ∃ q : Nat, q ≤ nl ∧ k = nl - q ∧ s14 = .int .i64 q ∧ Below w11.heap.size w11 wr)
              case atStart => exact ⟨0, Nat.zero_le _, by omega, rfl, HM1.out⟩
              case round =>
                obtain ⟨q, hq1, rfl, rfl, hbr2⟩ := hrel
                have HBA := hide hbr2
                clear hbr2
                by_cases hlt1 : q < nl
                · obtain ⟨gg, xx, hgg, hxl, cg⟩ := HRL.out wr (HW911.out.trans (HBA.out.mono HW911.out.size)) q hlt1
                  subst hgg
                  have hxin : xx ∈ Ll := List.mem_of_getElem? hxl
                  have hxf : (xx == f.1) = false := beq_eq_false_iff_ne.2 fun e => HLF.out xx hxin f HMEM.out e.symm
                  have hqq : (q : Int) < nl := by omega
                  clear hxin hxl
                  go_upto_region 20 with fail
                  refine wp_region_noPanic ?_
                  refine region_J 10 (N := 10) (S := (fun W' : World => W'.cell? ⟨gg, q, none⟩ = some (.int .i64 xx) ∧ W'.cell? ⟨b1, o1 + j * 4, none⟩ = some (.int .i64 f.1))) (by kernel_rfl) (by kernel_rfl) ?_
                  have hMd : Below w11.heap.size w11 wr.drew := HBA.out.trans ((below_drew wr).mono HBA.out.size)
                  have hS : (fun W' : World => W'.cell? ⟨gg, q, none⟩ = some (.int .i64 xx) ∧ W'.cell? ⟨b1, o1 + j * 4, none⟩ = some (.int .i64 f.1)) wr.drew := ⟨cg, (HSF.out _ hMd).1⟩
                  generalize wr.drew = u9 at *
                  have HMD := hide hMd
                  clear hMd
                  refine take_D (i := 0) 91 (.slice (some ⟨gg, 0, none⟩) nl ccl) rfl rfl (by kernel_rfl) (by kernel_rfl) (by kernel_rfl) (by kernel_rfl) (fun _ _ _ h => h) (Or.inl ⟨by rfl, fun W' hW => by go_simp⟩) hS ?_
                  simp only [Act.put, List.setIfInBounds_toArray, List.set_cons_zero, List.set_cons_succ]
                  refine take_D (i := 1) 92 (.int .i64 q) rfl rfl (by kernel_rfl) (by kernel_rfl) (by kernel_rfl) (by kernel_rfl) (fun _ _ _ h => h) (Or.inl ⟨by rfl, fun W' hW => by go_simp⟩) hS ?_
                  simp only [Act.put, List.setIfInBounds_toArray, List.set_cons_zero, List.set_cons_succ]
                  refine take_D (i := 2) 93 (.pointer (some ⟨gg, q, none⟩)) rfl rfl (by kernel_rfl) (by kernel_rfl) (by kernel_rfl) (by kernel_rfl) (fun _ _ _ h => h) (Or.inl ⟨by rfl, fun W' hW => by go_simp⟩) hS ?_
                  simp only [Act.put, List.setIfInBounds_toArray, List.set_cons_zero, List.set_cons_succ]
                  refine take_D (i := 3) 94 (.int .i64 xx) rfl rfl (by kernel_rfl) (by kernel_rfl) (by kernel_rfl) (by kernel_rfl) (fun _ _ _ h => h) (Or.inl ⟨by rfl, fun W' hW => by obtain ⟨s0, s1⟩ := hW; go_simp⟩) hS ?_
                  simp only [Act.put, List.setIfInBounds_toArray, List.set_cons_zero, List.set_cons_succ]
                  refine take_D (i := 4) 95 (.slice (some ⟨b1, o1, none⟩) m cl) rfl rfl (by kernel_rfl) (by kernel_rfl) (by kernel_rfl) (by kernel_rfl) (fun _ _ _ h => h) (Or.inl ⟨by rfl, fun W' hW => by go_simp⟩) hS ?_
                  simp only [Act.put, List.setIfInBounds_toArray, List.set_cons_zero, List.set_cons_succ]
                  refine take_D (i := 5) 96 (.int .i64 j) rfl rfl (by kernel_rfl) (by kernel_rfl) (by kernel_rfl) (by kernel_rfl) (fun _ _ _ h => h) (Or.inl ⟨by rfl, fun W' hW => by go_simp⟩) hS ?_
                  simp only [Act.put, List.setIfInBounds_toArray, List.set_cons_zero, List.set_cons_succ]
                  refine take_D (i := 6) 97 (.pointer (some ⟨b1, o1 + j * 4, none⟩)) rfl rfl (by kernel_rfl) (by kernel_rfl) (by kernel_rfl) (by kernel_rfl) (fun _ _ _ h => h) (Or.inl ⟨by rfl, fun W' hW => by go_simp⟩) hS ?_
                  simp only [Act.put, List.setIfInBounds_toArray, List.set_cons_zero, List.set_cons_succ]
                  refine take_D (i := 7) 98 (.pointer (some ⟨b1, o1 + j * 4, none⟩)) rfl rfl (by kernel_rfl) (by kernel_rfl) (by kernel_rfl) (by kernel_rfl) (fun _ _ _ h => h) (Or.inl ⟨by rfl, fun W' hW => by go_simp⟩) hS ?_
                  simp only [Act.put, List.setIfInBounds_toArray, List.set_cons_zero, List.set_cons_succ]
                  refine take_D (i := 8) 99 (.int .i64 f.1) rfl rfl (by kernel_rfl) (by kernel_rfl) (by kernel_rfl) (by kernel_rfl) (fun _ _ _ h => h) (Or.inl ⟨by rfl, fun W' hW => by obtain ⟨s0, s1⟩ := hW; go_simp⟩) hS ?_
                  simp only [Act.put, List.setIfInBounds_toArray, List.set_cons_zero, List.set_cons_succ]
                  refine take_D (i := 9) 100 (.bool false) rfl rfl (by kernel_rfl) (by kernel_rfl) (by kernel_rfl) (by kernel_rfl) (fun _ _ _ h => h) (Or.inl ⟨by rfl, fun W' hW => by go_simp⟩) hS ?_
                  simp only [Act.put, List.setIfInBounds_toArray, List.set_cons_zero, List.set_cons_succ]
                  refine done_J (by kernel_rfl) ?_ _
                  refine NoPanic.normal ?_
                  clear hS
                  go_wp2_with fail
                  go_roundg (nl - (q + 1))
                  case measure => omega
                  case rel => exact ⟨q + 1, by omega, rfl, by go_num, HMD.out⟩
                · have hqq : ¬ (q : Int) < nl := by omega
                  clear hlt1
                  go_wp2_with fail
                  go_loopg [15, 16] np (fun k s15 s16 wr => ∃ q : Nat, q ≤ np ∧ k = np - q ∧ s16 = .int .i64 q ∧ s15 = .bool (decide (f.1 ∈ (hs a).take q)) ∧ Below w11.heap.size w11 wr)
                  case atStart => exact ⟨0, Nat.zero_le _, by omega, rfl, by simp, HBA.out⟩
                  case round =>
                    obtain ⟨q, hq1, rfl, rfl, rfl, hbr2⟩ := hrel
                    have HBC := hide hbr2
                    clear hbr2
                    by_cases hlt1 : q < np
                    · obtain ⟨gg, xx, hgg, hxl, cg⟩ := HRP.out wr (HW1011.out.trans (HBC.out.mono HW1011.out.size)) q hlt1
                      subst hgg
                      have hnew := dec_take (x := f.1) hxl
                      have hqq : (q : Int) < np := by omega
                      have HNEW := hide hnew
                      clear hnew hxl
                      generalize hfb : (decide (f.1 ∈ (hs a).take q)) = fb at *
                      have HFBB := hide hfb
                      clear hfb
                      cases fb with
                      | true =>
                        go_upto_region 26 with fail
                        refine wp_region_noPanic ?_
                        refine region_J 14 (N := 14) (S := (fun W' : World => W'.cell? ⟨gg, q, none⟩ = some (.int .i64 xx) ∧ W'.cell? ⟨b1, o1 + j * 4, none⟩ = some (.int .i64 f.1))) (by kernel_rfl) (by kernel_rfl) ?_
                        have hMd : Below w11.heap.size w11 wr.drew := HBC.out.trans ((below_drew wr).mono HBC.out.size)
                        have hS : (fun W' : World => W'.cell? ⟨gg, q, none⟩ = some (.int .i64 xx) ∧ W'.cell? ⟨b1, o1 + j * 4, none⟩ = some (.int .i64 f.1)) wr.drew := ⟨cg, (HSF.out _ hMd).1⟩
                        generalize wr.drew = u9 at *
                        have HMD := hide hMd
                        clear hMd
                        refine take_D (i := 0) 107 (.bool true) rfl rfl (by kernel_rfl) (by kernel_rfl) (by kernel_rfl) (by kernel_rfl) (fun _ _ _ h => h) (Or.inl ⟨by rfl, fun W' hW => by go_simp⟩) hS ?_
                        simp only [Act.put, List.setIfInBounds_toArray, List.set_cons_zero, List.set_cons_succ]
                        refine take_D (i := 1) 108 (.bool true) rfl rfl (by kernel_rfl) (by kernel_rfl) (by kernel_rfl) (by kernel_rfl) (fun _ _ _ h => h) (Or.inl ⟨by rfl, fun W' hW => by go_simp⟩) hS ?_
                        simp only [Act.put, List.setIfInBounds_toArray, List.set_cons_zero, List.set_cons_succ]
                        refine take_D (i := 2) 109 (undef) rfl rfl (by kernel_rfl) (by kernel_rfl) (by kernel_rfl) (by kernel_rfl) (fun _ _ _ h => h) (Or.inr ⟨by rfl, rfl⟩) hS ?_
                        simp only [Act.put, List.setIfInBounds_toArray, List.set_cons_zero, List.set_cons_succ]
                        refine take_D (i := 3) 110 (undef) rfl rfl (by kernel_rfl) (by kernel_rfl) (by kernel_rfl) (by kernel_rfl) (fun _ _ _ h => h) (Or.inr ⟨by rfl, rfl⟩) hS ?_
                        simp only [Act.put, List.setIfInBounds_toArray, List.set_cons_zero, List.set_cons_succ]
                        refine take_D (i := 4) 111 (undef) rfl rfl (by kernel_rfl) (by kernel_rfl) (by kernel_rfl) (by kernel_rfl) (fun _ _ _ h => h) (Or.inr ⟨by rfl, rfl⟩) hS ?_
                        simp only [Act.put, List.setIfInBounds_toArray, List.set_cons_zero, List.set_cons_succ]
                        refine take_D (i := 5) 112 (undef) rfl rfl (by kernel_rfl) (by kernel_rfl) (by kernel_rfl) (by kernel_rfl) (fun _ _ _ h => h) (Or.inr ⟨by rfl, rfl⟩) hS ?_
                        simp only [Act.put, List.setIfInBounds_toArray, List.set_cons_zero, List.set_cons_succ]
                        refine take_D (i := 6) 113 (undef) rfl rfl (by kernel_rfl) (by kernel_rfl) (by kernel_rfl) (by kernel_rfl) (fun _ _ _ h => h) (Or.inr ⟨by rfl, rfl⟩) hS ?_
                        simp only [Act.put, List.setIfInBounds_toArray, List.set_cons_zero, List.set_cons_succ]
                        refine take_D (i := 7) 114 (undef) rfl rfl (by kernel_rfl) (by kernel_rfl) (by kernel_rfl) (by kernel_rfl) (fun _ _ _ h => h) (Or.inr ⟨by rfl, rfl⟩) hS ?_
                        simp only [Act.put, List.setIfInBounds_toArray, List.set_cons_zero, List.set_cons_succ]
                        refine take_D (i := 8) 115 (undef) rfl rfl (by kernel_rfl) (by kernel_rfl) (by kernel_rfl) (by kernel_rfl) (fun _ _ _ h => h) (Or.inr ⟨by rfl, rfl⟩) hS ?_
                        simp only [Act.put, List.setIfInBounds_toArray, List.set_cons_zero, List.set_cons_succ]
                        refine take_D (i := 9) 116 (undef) rfl rfl (by kernel_rfl) (by kernel_rfl) (by kernel_rfl) (by kernel_rfl) (fun _ _ _ h => h) (Or.inr ⟨by rfl, rfl⟩) hS ?_
                        simp only [Act.put, List.setIfInBounds_toArray, List.set_cons_zero, List.set_cons_succ]
                        refine take_D (i := 10) 117 (undef) rfl rfl (by kernel_rfl) (by kernel_rfl) (by kernel_rfl) (by kernel_rfl) (fun _ _ _ h => h) (Or.inr ⟨by rfl, rfl⟩) hS ?_
                        simp only [Act.put, List.setIfInBounds_toArray, List.set_cons_zero, List.set_cons_succ]
                        refine take_D (i := 11) 118 (undef) rfl rfl (by kernel_rfl) (by kernel_rfl) (by kernel_rfl) (by kernel_rfl) (fun _ _ _ h => h) (Or.inr ⟨by rfl, rfl⟩) hS ?_
                        simp only [Act.put, List.setIfInBounds_toArray, List.set_cons_zero, List.set_cons_succ]
                        refine take_D (i := 12) 119 (.bool true) rfl rfl (by kernel_rfl) (by kernel_rfl) (by kernel_rfl) (by kernel_rfl) (fun _ _ _ h => h) (Or.inl ⟨by rfl, fun W' hW => by go_simp⟩) hS ?_
                        simp only [Act.put, List.setIfInBounds_toArray, List.set_cons_zero, List.set_cons_succ]
                        refine take_D (i := 13) 15 (.bool true) rfl rfl (by kernel_rfl) (by kernel_rfl) (by kernel_rfl) (by kernel_rfl) (fun _ _ _ h => h) (Or.inl ⟨by rfl, fun W' hW => by go_simp⟩) hS ?_
                        simp only [Act.put, List.setIfInBounds_toArray, List.set_cons_zero, List.set_cons_succ]
                        refine done_J (by kernel_rfl) ?_ _
                        refine NoPanic.normal ?_
                        clear hS
                        go_wp2_with fail
                        go_roundg (np - (q + 1))
                        case measure => omega
                        case rel => exact ⟨q + 1, by omega, rfl, by go_num, by rw [HNEW.out]; rfl, HMD.out⟩
                      | false =>
                        go_upto_region 26 with fail
                        refine wp_region_noPanic ?_
                        refine region_J 14 (N := 14) (S := (fun W' : World => W'.cell? ⟨gg, q, none⟩ = some (.int .i64 xx) ∧ W'.cell? ⟨b1, o1 + j * 4, none⟩ = some (.int .i64 f.1))) (by kernel_rfl) (by kernel_rfl) ?_
                        have hMd : Below w11.heap.size w11 wr.drew := HBC.out.trans ((below_drew wr).mono HBC.out.size)
                        have hS : (fun W' : World => W'.cell? ⟨gg, q, none⟩ = some (.int .i64 xx) ∧ W'.cell? ⟨b1, o1 + j * 4, none⟩ = some (.int .i64 f.1)) wr.drew := ⟨cg, (HSF.out _ hMd).1⟩
                        generalize wr.drew = u9 at *
                        have HMD := hide hMd
                        clear hMd
                        refine take_D (i := 0) 107 (.bool false) rfl rfl (by kernel_rfl) (by kernel_rfl) (by kernel_rfl) (by kernel_rfl) (fun _ _ _ h => h) (Or.inl ⟨by rfl, fun W' hW => by go_simp⟩) hS ?_
                        simp only [Act.put, List.setIfInBounds_toArray, List.set_cons_zero, List.set_cons_succ]
                        refine take_D (i := 1) 108 (.bool false) rfl rfl (by kernel_rfl) (by kernel_rfl) (by kernel_rfl) (by kernel_rfl) (fun _ _ _ h => h) (Or.inl ⟨by rfl, fun W' hW => by go_simp⟩) hS ?_
                        simp only [Act.put, List.setIfInBounds_toArray, List.set_cons_zero, List.set_cons_succ]
                        refine take_D (i := 2) 109 (.slice (some ⟨gg, 0, none⟩) np ccp) rfl rfl (by kernel_rfl) (by kernel_rfl) (by kernel_rfl) (by kernel_rfl) (fun _ _ _ h => h) (Or.inl ⟨by rfl, fun W' hW => by go_simp⟩) hS ?_
                        simp only [Act.put, List.setIfInBounds_toArray, List.set_cons_zero, List.set_cons_succ]
                        refine take_D (i := 3) 110 (.int .i64 q) rfl rfl (by kernel_rfl) (by kernel_rfl) (by kernel_rfl) (by kernel_rfl) (fun _ _ _ h => h) (Or.inl ⟨by rfl, fun W' hW => by go_simp⟩) hS ?_
                        simp only [Act.put, List.setIfInBounds_toArray, List.set_cons_zero, List.set_cons_succ]
                        refine take_D (i := 4) 111 (.pointer (some ⟨gg, q, none⟩)) rfl rfl (by kernel_rfl) (by kernel_rfl) (by kernel_rfl) (by kernel_rfl) (fun _ _ _ h => h) (Or.inl ⟨by rfl, fun W' hW => by go_simp⟩) hS ?_
                        simp only [Act.put, List.setIfInBounds_toArray, List.set_cons_zero, List.set_cons_succ]
                        refine take_D (i := 5) 112 (.int .i64 xx) rfl rfl (by kernel_rfl) (by kernel_rfl) (by kernel_rfl) (by kernel_rfl) (fun _ _ _ h => h) (Or.inl ⟨by rfl, fun W' hW => by obtain ⟨s0, s1⟩ := hW; go_simp⟩) hS ?_
                        simp only [Act.put, List.setIfInBounds_toArray, List.set_cons_zero, List.set_cons_succ]
                        refine take_D (i := 6) 113 (.slice (some ⟨b1, o1, none⟩) m cl) rfl rfl (by kernel_rfl) (by kernel_rfl) (by kernel_rfl) (by kernel_rfl) (fun _ _ _ h => h) (Or.inl ⟨by rfl, fun W' hW => by go_simp⟩) hS ?_
                        simp only [Act.put, List.setIfInBounds_toArray, List.set_cons_zero, List.set_cons_succ]
                        refine take_D (i := 7) 114 (.int .i64 j) rfl rfl (by kernel_rfl) (by kernel_rfl) (by kernel_rfl) (by kernel_rfl) (fun _ _ _ h => h) (Or.inl ⟨by rfl, fun W' hW => by go_simp⟩) hS ?_
                        simp only [Act.put, List.setIfInBounds_toArray, List.set_cons_zero, List.set_cons_succ]
                        refine take_D (i := 8) 115 (.pointer (some ⟨b1, o1 + j * 4, none⟩)) rfl rfl (by kernel_rfl) (by kernel_rfl) (by kernel_rfl) (by kernel_rfl) (fun _ _ _ h => h) (Or.inl ⟨by rfl, fun W' hW => by go_simp⟩) hS ?_
                        simp only [Act.put, List.setIfInBounds_toArray, List.set_cons_zero, List.set_cons_succ]
                        refine take_D (i := 9) 116 (.pointer (some ⟨b1, o1 + j * 4, none⟩)) rfl rfl (by kernel_rfl) (by kernel_rfl) (by kernel_rfl) (by kernel_rfl) (fun _ _ _ h => h) (Or.inl ⟨by rfl, fun W' hW => by go_simp⟩) hS ?_
                        simp only [Act.put, List.setIfInBounds_toArray, List.set_cons_zero, List.set_cons_succ]
                        refine take_D (i := 10) 117 (.int .i64 f.1) rfl rfl (by kernel_rfl) (by kernel_rfl) (by kernel_rfl) (by kernel_rfl) (fun _ _ _ h => h) (Or.inl ⟨by rfl, fun W' hW => by obtain ⟨s0, s1⟩ := hW; go_simp⟩) hS ?_
                        simp only [Act.put, List.setIfInBounds_toArray, List.set_cons_zero, List.set_cons_succ]
                        refine take_D (i := 11) 118 (.bool (xx == f.1)) rfl rfl (by kernel_rfl) (by kernel_rfl) (by kernel_rfl) (by kernel_rfl) (fun _ _ _ h => h) (Or.inl ⟨by rfl, fun W' hW => by go_simp⟩) hS ?_
                        simp only [Act.put, List.setIfInBounds_toArray, List.set_cons_zero, List.set_cons_succ]
                        refine take_D (i := 12) 119 (.bool (xx == f.1)) rfl rfl (by kernel_rfl) (by kernel_rfl) (by kernel_rfl) (by kernel_rfl) (fun _ _ _ h => h) (Or.inl ⟨by rfl, fun W' hW => by go_simp⟩) hS ?_
                        simp only [Act.put, List.setIfInBounds_toArray, List.set_cons_zero, List.set_cons_succ]
                        refine take_D (i := 13) 15 (.bool (xx == f.1)) rfl rfl (by kernel_rfl) (by kernel_rfl) (by kernel_rfl) (by kernel_rfl) (fun _ _ _ h => h) (Or.inl ⟨by rfl, fun W' hW => by go_simp⟩) hS ?_
                        simp only [Act.put, List.setIfInBounds_toArray, List.set_cons_zero, List.set_cons_succ]
                        refine done_J (by kernel_rfl) ?_ _
                        refine NoPanic.normal ?_
                        clear hS
                        go_wp2_with fail
                        go_roundg (np - (q + 1))
                        case measure => omega
                        case rel => exact ⟨q + 1, by omega, rfl, by go_num, by rw [HNEW.out]; rfl, HMD.out⟩
                    · have hqq : ¬ (q : Int) < np := by omega
                      have hqe : (hs a).take q = (hs a) := List.take_of_length_le (by rw [HNP.out]; omega)
                      rw [hqe]
                      clear hlt1 hqe
                      go_wp2_with fail
                      go_loopg [15, 17] nq (fun k s15 s16 wr => ∃ q : Nat, q ≤ nq ∧ k = nq - q ∧ s16 = .int .i64 q ∧ s15 = .bool (decide (f.1 ∈ hs a) || (decide (f.1 ∈ (hs b).take q))) ∧ Below w11.heap.size w11 wr)
                      case atStart => exact ⟨0, Nat.zero_le _, by omega, rfl, by simp, HBC.out⟩
                      case round =>
                        obtain ⟨q, hq1, rfl, rfl, rfl, hbr2⟩ := hrel
                        have HBD := hide hbr2
                        clear hbr2
                        by_cases hlt1 : q < nq
                        · obtain ⟨gg, xx, hgg, hxl, cg⟩ := HRQ.out wr (HW1111.out.trans (HBD.out.mono HW1111.out.size)) q hlt1
                          subst hgg
                          have hnew := dec_take (x := f.1) hxl
                          have hqq : (q : Int) < nq := by omega
                          have HNEW := hide hnew
                          clear hnew hxl
                          generalize hfb : (decide (f.1 ∈ hs a) || (decide (f.1 ∈ (hs b).take q))) = fb at *
                          have HFBB := hide hfb
                          clear hfb
                          cases fb with
                          | true =>
                            go_upto_region 30 with fail
                            refine wp_region_noPanic ?_
                            refine region_J 14 (N := 14) (S := (fun W' : World => W'.cell? ⟨gg, q, none⟩ = some (.int .i64 xx) ∧ W'.cell? ⟨b1, o1 + j * 4, none⟩ = some (.int .i64 f.1))) (by kernel_rfl) (by kernel_rfl) ?_
                            have hMd : Below w11.heap.size w11 wr.drew := HBD.out.trans ((below_drew wr).mono HBD.out.size)
                            have hS : (fun W' : World => W'.cell? ⟨gg, q, none⟩ = some (.int .i64 xx) ∧ W'.cell? ⟨b1, o1 + j * 4, none⟩ = some (.int .i64 f.1)) wr.drew := ⟨cg, (HSF.out _ hMd).1⟩
                            generalize wr.drew = u9 at *
                            have HMD := hide hMd
                            clear hMd
                            refine take_D (i := 0) 126 (.bool true) rfl rfl (by kernel_rfl) (by kernel_rfl) (by kernel_rfl) (by kernel_rfl) (fun _ _ _ h => h) (Or.inl ⟨by rfl, fun W' hW => by go_simp⟩) hS ?_
                            simp only [Act.put, List.setIfInBounds_toArray, List.set_cons_zero, List.set_cons_succ]
                            refine take_D (i := 1) 127 (.bool true) rfl rfl (by kernel_rfl) (by kernel_rfl) (by kernel_rfl) (by kernel_rfl) (fun _ _ _ h => h) (Or.inl ⟨by rfl, fun W' hW => by go_simp⟩) hS ?_
                            simp only [Act.put, List.setIfInBounds_toArray, List.set_cons_zero, List.set_cons_succ]
                            refine take_D (i := 2) 128 (undef) rfl rfl (by kernel_rfl) (by kernel_rfl) (by kernel_rfl) (by kernel_rfl) (fun _ _ _ h => h) (Or.inr ⟨by rfl, rfl⟩) hS ?_
                            simp only [Act.put, List.setIfInBounds_toArray, List.set_cons_zero, List.set_cons_succ]
                            refine take_D (i := 3) 129 (undef) rfl rfl (by kernel_rfl) (by kernel_rfl) (by kernel_rfl) (by kernel_rfl) (fun _ _ _ h => h) (Or.inr ⟨by rfl, rfl⟩) hS ?_
                            simp only [Act.put, List.setIfInBounds_toArray, List.set_cons_zero, List.set_cons_succ]
                            refine take_D (i := 4) 130 (undef) rfl rfl (by kernel_rfl) (by kernel_rfl) (by kernel_rfl) (by kernel_rfl) (fun _ _ _ h => h) (Or.inr ⟨by rfl, rfl⟩) hS ?_
                            simp only [Act.put, List.setIfInBounds_toArray, List.set_cons_zero, List.set_cons_succ]
                            refine take_D (i := 5) 131 (undef) rfl rfl (by kernel_rfl) (by kernel_rfl) (by kernel_rfl) (by kernel_rfl) (fun _ _ _ h => h) (Or.inr ⟨by rfl, rfl⟩) hS ?_
                            simp only [Act.put, List.setIfInBounds_toArray, List.set_cons_zero, List.set_cons_succ]
                            refine take_D (i := 6) 132 (undef) rfl rfl (by kernel_rfl) (by kernel_rfl) (by kernel_rfl) (by kernel_rfl) (fun _ _ _ h => h) (Or.inr ⟨by rfl, rfl⟩) hS ?_
                            simp only [Act.put, List.setIfInBounds_toArray, List.set_cons_zero, List.set_cons_succ]
                            refine take_D (i := 7) 133 (undef) rfl rfl (by kernel_rfl) (by kernel_rfl) (by kernel_rfl) (by kernel_rfl) (fun _ _ _ h => h) (Or.inr ⟨by rfl, rfl⟩) hS ?_
                            simp only [Act.put, List.setIfInBounds_toArray, List.set_cons_zero, List.set_cons_succ]
                            refine take_D (i := 8) 134 (undef) rfl rfl (by kernel_rfl) (by kernel_rfl) (by kernel_rfl) (by kernel_rfl) (fun _ _ _ h => h) (Or.inr ⟨by rfl, rfl⟩) hS ?_
                            simp only [Act.put, List.setIfInBounds_toArray, List.set_cons_zero, List.set_cons_succ]
                            refine take_D (i := 9) 135 (undef) rfl rfl (by kernel_rfl) (by kernel_rfl) (by kernel_rfl) (by kernel_rfl) (fun _ _ _ h => h) (Or.inr ⟨by rfl, rfl⟩) hS ?_
                            simp only [Act.put, List.setIfInBounds_toArray, List.set_cons_zero, List.set_cons_succ]
                            refine take_D (i := 10) 136 (undef) rfl rfl (by kernel_rfl) (by kernel_rfl) (by kernel_rfl) (by kernel_rfl) (fun _ _ _ h => h) (Or.inr ⟨by rfl, rfl⟩) hS ?_
                            simp only [Act.put, List.setIfInBounds_toArray, List.set_cons_zero, List.set_cons_succ]
                            refine take_D (i := 11) 137 (undef) rfl rfl (by kernel_rfl) (by kernel_rfl) (by kernel_rfl) (by kernel_rfl) (fun _ _ _ h => h) (Or.inr ⟨by rfl, rfl⟩) hS ?_
                            simp only [Act.put, List.setIfInBounds_toArray, List.set_cons_zero, List.set_cons_succ]
                            refine take_D (i := 12) 138 (.bool true) rfl rfl (by kernel_rfl) (by kernel_rfl) (by kernel_rfl) (by kernel_rfl) (fun _ _ _ h => h) (Or.inl ⟨by rfl, fun W' hW => by go_simp⟩) hS ?_
                            simp only [Act.put, List.setIfInBounds_toArray, List.set_cons_zero, List.set_cons_succ]
                            refine take_D (i := 13) 15 (.bool true) rfl rfl (by kernel_rfl) (by kernel_rfl) (by kernel_rfl) (by kernel_rfl) (fun _ _ _ h => h) (Or.inl ⟨by rfl, fun W' hW => by go_simp⟩) hS ?_
                            simp only [Act.put, List.setIfInBounds_toArray, List.set_cons_zero, List.set_cons_succ]
                            refine done_J (by kernel_rfl) ?_ _
                            refine NoPanic.normal ?_
                            clear hS
                            go_wp2_with fail
                            go_roundg (nq - (q + 1))
                            case measure => omega
                            case rel => exact ⟨q + 1, by omega, rfl, by go_num, by rw [HNEW.out, ← Bool.or_assoc, HFBB.out]; rfl, HMD.out⟩
                          | false =>
                            go_upto_region 30 with fail
                            refine wp_region_noPanic ?_
                            refine region_J 14 (N := 14) (S := (fun W' : World => W'.cell? ⟨gg, q, none⟩ = some (.int .i64 xx) ∧ W'.cell? ⟨b1, o1 + j * 4, none⟩ = some (.int .i64 f.1))) (by kernel_rfl) (by kernel_rfl) ?_
                            have hMd : Below w11.heap.size w11 wr.drew := HBD.out.trans ((below_drew wr).mono HBD.out.size)
                            have hS : (fun W' : World => W'.cell? ⟨gg, q, none⟩ = some (.int .i64 xx) ∧ W'.cell? ⟨b1, o1 + j * 4, none⟩ = some (.int .i64 f.1)) wr.drew := ⟨cg, (HSF.out _ hMd).1⟩
                            generalize wr.drew = u9 at *
                            have HMD := hide hMd
                            clear hMd
                            refine take_D (i := 0) 126 (.bool false) rfl rfl (by kernel_rfl) (by kernel_rfl) (by kernel_rfl) (by kernel_rfl) (fun _ _ _ h => h) (Or.inl ⟨by rfl, fun W' hW => by go_simp⟩) hS ?_
                            simp only [Act.put, List.setIfInBounds_toArray, List.set_cons_zero, List.set_cons_succ]
                            refine take_D (i := 1) 127 (.bool false) rfl rfl (by kernel_rfl) (by kernel_rfl) (by kernel_rfl) (by kernel_rfl) (fun _ _ _ h => h) (Or.inl ⟨by rfl, fun W' hW => by go_simp⟩) hS ?_
                            simp only [Act.put, List.setIfInBounds_toArray, List.set_cons_zero, List.set_cons_succ]
                            refine take_D (i := 2) 128 (.slice (some ⟨gg, 0, none⟩) nq ccq) rfl rfl (by kernel_rfl) (by kernel_rfl) (by kernel_rfl) (by kernel_rfl) (fun _ _ _ h => h) (Or.inl ⟨by rfl, fun W' hW => by go_simp⟩) hS ?_
                            simp only [Act.put, List.setIfInBounds_toArray, List.set_cons_zero, List.set_cons_succ]
                            refine take_D (i := 3) 129 (.int .i64 q) rfl rfl (by kernel_rfl) (by kernel_rfl) (by kernel_rfl) (by kernel_rfl) (fun _ _ _ h => h) (Or.inl ⟨by rfl, fun W' hW => by go_simp⟩) hS ?_
                            simp only [Act.put, List.setIfInBounds_toArray, List.set_cons_zero, List.set_cons_succ]
                            refine take_D (i := 4) 130 (.pointer (some ⟨gg, q, none⟩)) rfl rfl (by kernel_rfl) (by kernel_rfl) (by kernel_rfl) (by kernel_rfl) (fun _ _ _ h => h) (Or.inl ⟨by rfl, fun W' hW => by go_simp⟩) hS ?_
                            simp only [Act.put, List.setIfInBounds_toArray, List.set_cons_zero, List.set_cons_succ]
                            refine take_D (i := 5) 131 (.int .i64 xx) rfl rfl (by kernel_rfl) (by kernel_rfl) (by kernel_rfl) (by kernel_rfl) (fun _ _ _ h => h) (Or.inl ⟨by rfl, fun W' hW => by obtain ⟨s0, s1⟩ := hW; go_simp⟩) hS ?_
                            simp only [Act.put, List.setIfInBounds_toArray, List.set_cons_zero, List.set_cons_succ]
                            refine take_D (i := 6) 132 (.slice (some ⟨b1, o1, none⟩) m cl) rfl rfl (by kernel_rfl) (by kernel_rfl) (by kernel_rfl) (by kernel_rfl) (fun _ _ _ h => h) (Or.inl ⟨by rfl, fun W' hW => by go_simp⟩) hS ?_
                            simp only [Act.put, List.setIfInBounds_toArray, List.set_cons_zero, List.set_cons_succ]
                            refine take_D (i := 7) 133 (.int .i64 j) rfl rfl (by kernel_rfl) (by kernel_rfl) (by kernel_rfl) (by kernel_rfl) (fun _ _ _ h => h) (Or.inl ⟨by rfl, fun W' hW => by go_simp⟩) hS ?_
                            simp only [Act.put, List.setIfInBounds_toArray, List.set_cons_zero, List.set_cons_succ]
                            refine take_D (i := 8) 134 (.pointer (some ⟨b1, o1 + j * 4, none⟩)) rfl rfl (by kernel_rfl) (by kernel_rfl) (by kernel_rfl) (by kernel_rfl) (fun _ _ _ h => h) (Or.inl ⟨by rfl, fun W' hW => by go_simp⟩) hS ?_
                            simp only [Act.put, List.setIfInBounds_toArray, List.set_cons_zero, List.set_cons_succ]
                            refine take_D (i := 9) 135 (.pointer (some ⟨b1, o1 + j * 4, none⟩)) rfl rfl (by kernel_rfl) (by kernel_rfl) (by kernel_rfl) (by kernel_rfl) (fun _ _ _ h => h) (Or.inl ⟨by rfl, fun W' hW => by go_simp⟩) hS ?_
                            simp only [Act.put, List.setIfInBounds_toArray, List.set_cons_zero, List.set_cons_succ]
                            refine take_D (i := 10) 136 (.int .i64 f.1) rfl rfl (by kernel_rfl) (by kernel_rfl) (by kernel_rfl) (by kernel_rfl) (fun _ _ _ h => h) (Or.inl ⟨by rfl, fun W' hW => by obtain ⟨s0, s1⟩ := hW; go_simp⟩) hS ?_
                            simp only [Act.put, List.setIfInBounds_toArray, List.set_cons_zero, List.set_cons_succ]
                            refine take_D (i := 11) 137 (.bool (xx == f.1)) rfl rfl (by kernel_rfl) (by kernel_rfl) (by kernel_rfl) (by kernel_rfl) (fun _ _ _ h => h) (Or.inl ⟨by rfl, fun W' hW => by go_simp⟩) hS ?_
                            simp only [Act.put, List.setIfInBounds_toArray, List.set_cons_zero, List.set_cons_succ]
                            refine take_D (i := 12) 138 (.bool (xx == f.1)) rfl rfl (by kernel_rfl) (by kernel_rfl) (by kernel_rfl) (by kernel_rfl) (fun _ _ _ h => h) (Or.inl ⟨by rfl, fun W' hW => by go_simp⟩) hS ?_
                            simp only [Act.put, List.setIfInBounds_toArray, List.set_cons_zero, List.set_cons_succ]
                            refine take_D (i := 13) 15 (.bool (xx == f.1)) rfl rfl (by kernel_rfl) (by kernel_rfl) (by kernel_rfl) (by kernel_rfl) (fun _ _ _ h => h) (Or.inl ⟨by rfl, fun W' hW => by go_simp⟩) hS ?_
                            simp only [Act.put, List.setIfInBounds_toArray, List.set_cons_zero, List.set_cons_succ]
                            refine done_J (by kernel_rfl) ?_ _
                            refine NoPanic.normal ?_
                            clear hS
                            go_wp2_with fail
                            go_roundg (nq - (q + 1))
                            case measure => omega
                            case rel => exact ⟨q + 1, by omega, rfl, by go_num, by rw [HNEW.out, ← Bool.or_assoc, HFBB.out]; rfl, HMD.out⟩
                        · have hqq : ¬ (q : Int) < nq := by omega
                          have hqe : (hs b).take q = (hs b) := List.take_of_length_le (by rw [HNQ.out]; omega)
                          rw [hqe]
                          clear hlt1 hqe
                          have hfound : (decide (f.1 ∈ hs a) || decide (f.1 ∈ hs b)) = true := by
                            rcases HTOLD.out.theirs f HMEM.out with h | h
                            · rw [decide_eq_true ((hs_mem a f.1).2 h)]; rfl
                            · rw [decide_eq_true ((hs_mem b f.1).2 h)]; simp
                          rw [hfound]
                          clear hfound
                          go_wp2_with fail
                          go_roundg (m - (j + 1))
                          case measure => omega
                          case rel => exact ⟨j + 1, by omega, rfl, by go_num, HBD.out⟩
            · have hjz : (0 : Int) < j := by omega
              have hj0n : 0 < j := by omega
              have hlt0 := e1 hj0n
              have hge : ¬ f.1 ≤ f0 := by omega
              have hjt : ((j : Int) - 1).toNat = j - 1 := by omega
              have hjm2 : ((j : Int) - 1) < m := by omega
              have hjm3 : ¬ (j : Int) < 1 := by omega
              have hjw : IntKind.i64.wrap ((j : Int) - 1) = (j : Int) - 1 := by
                unfold IntKind.wrap
                simp [IntKind.bits, IntKind.signed]
                omega
              clear hj0 e1
              go_upto_region 15 with fail
              refine wp_region_noPanic ?_
              refine region_J 25 (N := 25) (S := (fun W' : World => W'.cell? ⟨b1, o1 + j * 4, none⟩ = some (.int .i64 f.1) ∧ W'.cell? ⟨b1, o1 + j * 4 + 1, none⟩ = some (.string (S f.2.nm)) ∧ W'.cell? ⟨b1, o1 + j * 4 + 1 + 1, none⟩ = some (.int .i64 f.2.n) ∧ W'.cell? ⟨b1, o1 + j * 4 + 1 + 2, none⟩ = some (.slice q1 f.2.ar.length d1) ∧ (0 < j → W'.cell? ⟨b1, o1 + (j - 1) * 4, none⟩ = some (.int .i64 f0)))) (by kernel_rfl) (by kernel_rfl) ?_
              have hM0 : Below w11.heap.size w11 wr.drew := HBR.out.trans ((below_drew wr).mono HBR.out.size)
              generalize wr.drew = u0 at *
              have HM0 := hide hM0
              have hS := HSF.out u0 hM0
              clear hM0
              refine take_D (i := 0) 60 (.int .i64 j) rfl rfl (by kernel_rfl) (by kernel_rfl) (by kernel_rfl) (by kernel_rfl) (fun _ _ _ h => h) (Or.inl ⟨by rfl, fun W' hW => by go_simp⟩) hS ?_
              simp only [Act.put, List.setIfInBounds_toArray, List.set_cons_zero, List.set_cons_succ]
              refine take_D (i := 1) 61 (.bool true) rfl rfl (by kernel_rfl) (by kernel_rfl) (by kernel_rfl) (by kernel_rfl) (fun _ _ _ h => h) (Or.inl ⟨by rfl, fun W' hW => by go_simp⟩) hS ?_
              simp only [Act.put, List.setIfInBounds_toArray, List.set_cons_zero, List.set_cons_succ]
              refine take_D (i := 2) 62 (.bool true) rfl rfl (by kernel_rfl) (by kernel_rfl) (by kernel_rfl) (by kernel_rfl) (fun _ _ _ h => h) (Or.inl ⟨by rfl, fun W' hW => by go_simp⟩) hS ?_
              simp only [Act.put, List.setIfInBounds_toArray, List.set_cons_zero, List.set_cons_succ]
              refine take_D (i := 3) 63 (.slice (some ⟨b1, o1, none⟩) m cl) rfl rfl (by kernel_rfl) (by kernel_rfl) (by kernel_rfl) (by kernel_rfl) (fun _ _ _ h => h) (Or.inl ⟨by rfl, fun W' hW => by go_simp⟩) hS ?_
              simp only [Act.put, List.setIfInBounds_toArray, List.set_cons_zero, List.set_cons_succ]
              refine take_D (i := 4) 64 (.int .i64 j) rfl rfl (by kernel_rfl) (by kernel_rfl) (by kernel_rfl) (by kernel_rfl) (fun _ _ _ h => h) (Or.inl ⟨by rfl, fun W' hW => by go_simp⟩) hS ?_
              simp only [Act.put, List.setIfInBounds_toArray, List.set_cons_zero, List.set_cons_succ]
              refine take_D (i := 5) 65 (.int .i64 ((j : Int) - 1)) rfl rfl (by kernel_rfl) (by kernel_rfl) (by kernel_rfl) (by kernel_rfl) (fun _ _ _ h => h) (Or.inl ⟨by rfl, fun W' hW => by go_simp⟩) hS ?_
              simp only [Act.put, List.setIfInBounds_toArray, List.set_cons_zero, List.set_cons_succ]
              refine take_D (i := 6) 66 (.pointer (some ⟨b1, o1 + (j - 1) * 4, none⟩)) rfl rfl (by kernel_rfl) (by kernel_rfl) (by kernel_rfl) (by kernel_rfl) (fun _ _ _ h => h) (Or.inl ⟨by rfl, fun W' hW => by go_simp⟩) hS ?_
              simp only [Act.put, List.setIfInBounds_toArray, List.set_cons_zero, List.set_cons_succ]
              refine take_D (i := 7) 67 (.pointer (some ⟨b1, o1 + (j - 1) * 4, none⟩)) rfl rfl (by kernel_rfl) (by kernel_rfl) (by kernel_rfl) (by kernel_rfl) (fun _ _ _ h => h) (Or.inl ⟨by rfl, fun W' hW => by go_simp⟩) hS ?_
              simp only [Act.put, List.setIfInBounds_toArray, List.set_cons_zero, List.set_cons_succ]
              refine take_D (i := 8) 68 (.int .i64 f0) rfl rfl (by kernel_rfl) (by kernel_rfl) (by kernel_rfl) (by kernel_rfl) (fun _ _ _ h => h) (Or.inl ⟨by rfl, fun W' hW => by obtain ⟨s0, s1, s2, s3, s4⟩ := hW; have s5 := s4 hj0n; go_simp⟩) hS ?_
              simp only [Act.put, List.setIfInBounds_toArray, List.set_cons_zero, List.set_cons_succ]
              refine take_D (i := 9) 69 (.slice (some ⟨b1, o1, none⟩) m cl) rfl rfl (by kernel_rfl) (by kernel_rfl) (by kernel_rfl) (by kernel_rfl) (fun _ _ _ h => h) (Or.inl ⟨by rfl, fun W' hW => by go_simp⟩) hS ?_
              simp only [Act.put, List.setIfInBounds_toArray, List.set_cons_zero, List.set_cons_succ]
              refine take_D (i := 10) 70 (.int .i64 j) rfl rfl (by kernel_rfl) (by kernel_rfl) (by kernel_rfl) (by kernel_rfl) (fun _ _ _ h => h) (Or.inl ⟨by rfl, fun W' hW => by go_simp⟩) hS ?_
              simp only [Act.put, List.setIfInBounds_toArray, List.set_cons_zero, List.set_cons_succ]
              refine take_D (i := 11) 71 (.pointer (some ⟨b1, o1 + j * 4, none⟩)) rfl rfl (by kernel_rfl) (by kernel_rfl) (by kernel_rfl) (by kernel_rfl) (fun _ _ _ h => h) (Or.inl ⟨by rfl, fun W' hW => by go_simp⟩) hS ?_
              simp only [Act.put, List.setIfInBounds_toArray, List.set_cons_zero, List.set_cons_succ]
              refine take_D (i := 12) 72 (.pointer (some ⟨b1, o1 + j * 4, none⟩)) rfl rfl (by kernel_rfl) (by kernel_rfl) (by kernel_rfl) (by kernel_rfl) (fun _ _ _ h => h) (Or.inl ⟨by rfl, fun W' hW => by go_simp⟩) hS ?_
              simp only [Act.put, List.setIfInBounds_toArray, List.set_cons_zero, List.set_cons_succ]
              refine take_D (i := 13) 73 (.int .i64 f.1) rfl rfl (by kernel_rfl) (by kernel_rfl) (by kernel_rfl) (by kernel_rfl) (fun _ _ _ h => h) (Or.inl ⟨by rfl, fun W' hW => by obtain ⟨s0, s1, s2, s3, s4⟩ := hW; go_simp⟩) hS ?_
              simp only [Act.put, List.setIfInBounds_toArray, List.set_cons_zero, List.set_cons_succ]
              refine take_D (i := 14) 74 (.bool false) rfl rfl (by kernel_rfl) (by kernel_rfl) (by kernel_rfl) (by kernel_rfl) (fun _ _ _ h => h) (Or.inl ⟨by rfl, fun W' hW => by go_simp⟩) hS ?_
              simp only [Act.put, List.setIfInBounds_toArray, List.set_cons_zero, List.set_cons_succ]
              refine take_D (i := 15) 75 (.bool false) rfl rfl (by kernel_rfl) (by kernel_rfl) (by kernel_rfl) (by kernel_rfl) (fun _ _ _ h => h) (Or.inl ⟨by rfl, fun W' hW => by go_simp⟩) hS ?_
              simp only [Act.put, List.setIfInBounds_toArray, List.set_cons_zero, List.set_cons_succ]
              refine take_D (i := 16) 76 (.bool false) rfl rfl (by kernel_rfl) (by kernel_rfl) (by kernel_rfl) (by kernel_rfl) (fun _ _ _ h => h) (Or.inl ⟨by rfl, fun W' hW => by go_simp⟩) hS ?_
              simp only [Act.put, List.setIfInBounds_toArray, List.set_cons_zero, List.set_cons_succ]
              refine take_D (i := 17) 77 (.slice (some ⟨b1, o1, none⟩) m cl) rfl rfl (by kernel_rfl) (by kernel_rfl) (by kernel_rfl) (by kernel_rfl) (fun _ _ _ h => h) (Or.inl ⟨by rfl, fun W' hW => by go_simp⟩) hS ?_
              simp only [Act.put, List.setIfInBounds_toArray, List.set_cons_zero, List.set_cons_succ]
              refine take_D (i := 18) 78 (.int .i64 j) rfl rfl (by kernel_rfl) (by kernel_rfl) (by kernel_rfl) (by kernel_rfl) (fun _ _ _ h => h) (Or.inl ⟨by rfl, fun W' hW => by go_simp⟩) hS ?_
              simp only [Act.put, List.setIfInBounds_toArray, List.set_cons_zero, List.set_cons_succ]
              refine take_D (i := 19) 79 (.pointer (some ⟨b1, o1 + j * 4, none⟩)) rfl rfl (by kernel_rfl) (by kernel_rfl) (by kernel_rfl) (by kernel_rfl) (fun _ _ _ h => h) (Or.inl ⟨by rfl, fun W' hW => by go_simp⟩) hS ?_
              simp only [Act.put, List.setIfInBounds_toArray, List.set_cons_zero, List.set_cons_succ]
              refine take_D (i := 20) 80 (.pointer (some ⟨b1, o1 + j * 4 + 1, none⟩)) rfl rfl (by kernel_rfl) (by kernel_rfl) (by kernel_rfl) (by kernel_rfl) (fun _ _ _ h => h) (Or.inl ⟨by rfl, fun W' hW => by go_simp⟩) hS ?_
              simp only [Act.put, List.setIfInBounds_toArray, List.set_cons_zero, List.set_cons_succ]
              refine take_D (i := 21) 81 (.agg #[.string (S f.2.nm), .int .i64 f.2.n, .slice q1 f.2.ar.length d1]) rfl rfl (by kernel_rfl) (by kernel_rfl) (by kernel_rfl) (by kernel_rfl) (fun _ _ _ h => h) (Or.inl ⟨by rfl, fun W' hW => by obtain ⟨s0, s1, s2, s3, s4⟩ := hW; go_simp⟩) hS ?_
              simp only [Act.put, List.setIfInBounds_toArray, List.set_cons_zero, List.set_cons_succ]
              have hck := check_any f.2 (P := fun x => x < w11.heap.size) (w := u0) (pk := q1) (ck := d1) (fun x hx => Nat.lt_of_lt_of_le hx HM0.out.size) (TyIn.keep (KP.of_below HM0.out fun x hx => hx) (fun x hx => hx) _ _ HINF.out)
              rw [HCF.out] at hck
              have HCK := hide hck
              clear hck
              unfold cs3 at HCK
              refine ready_J (rs := [22]) (by kernel_rfl) (by simp) ?_
              intro jj hjj
              obtain rfl := List.mem_singleton.1 hjj
              clear hjj
              refine op_W rfl (by rfl) fun K hK => ?_
              go_simp
              refine HCK.out.mono ?_
              rintro r u1 ⟨rfl, hb⟩
              have HM1 : Hid (Below w11.heap.size w11 u1) := hide (HM0.out.trans (hb.mono HM0.out.size))
              clear hS hb HCK
              have hS := HSF.out u1 HM1.out
              refine hK _ _ ⟨fun _ => hS, ?_⟩
              clear hK K
              refine take_D (i := 23) 83 (.bool false) rfl rfl (by kernel_rfl) (by kernel_rfl) (by kernel_rfl) (by kernel_rfl) (fun _ _ _ h => h) (Or.inl ⟨by rfl, fun W' hW => by go_simp⟩) hS ?_
              simp only [Act.put, List.setIfInBounds_toArray, List.set_cons_zero, List.set_cons_succ]
              refine take_D (i := 24) 84 (.bool false) rfl rfl (by kernel_rfl) (by kernel_rfl) (by kernel_rfl) (by kernel_rfl) (fun _ _ _ h => h) (Or.inl ⟨by rfl, fun W' hW => by go_simp⟩) hS ?_
              simp only [Act.put, List.setIfInBounds_toArray, List.set_cons_zero, List.set_cons_succ]
              refine done_J (by kernel_rfl) ?_ _
              refine NoPanic.normal ?_
              clear hS
              go_wp2_with fail
              go_loopg [14] nl (fun k s14 wr => ∃ q : Nat, q ≤ nl ∧ k = nl - q ∧ s14 = .int .i64 q ∧ Below w11.heap.size w11 wr)
              case atStart => exact ⟨0, Nat.zero_le _, by omega, rfl, HM1.out⟩
              case round =>
                obtain ⟨q, hq1, rfl, rfl, hbr2⟩ := hrel
                have HBA := hide hbr2
                clear hbr2
                by_cases hlt1 : q < nl
                · obtain ⟨gg, xx, hgg, hxl, cg⟩ := HRL.out wr (HW911.out.trans (HBA.out.mono HW911.out.size)) q hlt1
                  subst hgg
                  have hxin : xx ∈ Ll := List.mem_of_getElem? hxl
                  have hxf : (xx == f.1) = false := beq_eq_false_iff_ne.2 fun e => HLF.out xx hxin f HMEM.out e.symm
                  have hqq : (q : Int) < nl := by omega
                  clear hxin hxl
                  go_upto_region 20 with fail
                  refine wp_region_noPanic ?_
                  refine region_J 10 (N := 10) (S := (fun W' : World => W'.cell? ⟨gg, q, none⟩ = some (.int .i64 xx) ∧ W'.cell? ⟨b1, o1 + j * 4, none⟩ = some (.int .i64 f.1))) (by kernel_rfl) (by kernel_rfl) ?_
                  have hMd : Below w11.heap.size w11 wr.drew := HBA.out.trans ((below_drew wr).mono HBA.out.size)
                  have hS : (fun W' : World => W'.cell? ⟨gg, q, none⟩ = some (.int .i64 xx) ∧ W'.cell? ⟨b1, o1 + j * 4, none⟩ = some (.int .i64 f.1)) wr.drew := ⟨cg, (HSF.out _ hMd).1⟩
                  generalize wr.drew = u9 at *
                  have HMD := hide hMd
                  clear hMd
                  refine take_D (i := 0) 91 (.slice (some ⟨gg, 0, none⟩) nl ccl) rfl rfl (by kernel_rfl) (by kernel_rfl) (by kernel_rfl) (by kernel_rfl) (fun _ _ _ h => h) (Or.inl ⟨by rfl, fun W' hW => by go_simp⟩) hS ?_
                  simp only [Act.put, List.setIfInBounds_toArray, List.set_cons_zero, List.set_cons_succ]
                  refine take_D (i := 1) 92 (.int .i64 q) rfl rfl (by kernel_rfl) (by kernel_rfl) (by kernel_rfl) (by kernel_rfl) (fun _ _ _ h => h) (Or.inl ⟨by rfl, fun W' hW => by go_simp⟩) hS ?_
                  simp only [Act.put, List.setIfInBounds_toArray, List.set_cons_zero, List.set_cons_succ]
                  refine take_D (i := 2) 93 (.pointer (some ⟨gg, q, none⟩)) rfl rfl (by kernel_rfl) (by kernel_rfl) (by kernel_rfl) (by kernel_rfl) (fun _ _ _ h => h) (Or.inl ⟨by rfl, fun W' hW => by go_simp⟩) hS ?_
                  simp only [Act.put, List.setIfInBounds_toArray, List.set_cons_zero, List.set_cons_succ]
                  refine take_D (i := 3) 94 (.int .i64 xx) rfl rfl (by kernel_rfl) (by kernel_rfl) (by kernel_rfl) (by kernel_rfl) (fun _ _ _ h => h) (Or.inl ⟨by rfl, fun W' hW => by obtain ⟨s0, s1⟩ := hW; go_simp⟩) hS ?_
                  simp only [Act.put, List.setIfInBounds_toArray, List.set_cons_zero, List.set_cons_succ]
                  refine take_D (i := 4) 95 (.slice (some ⟨b1, o1, none⟩) m cl) rfl rfl (by kernel_rfl) (by kernel_rfl) (by kernel_rfl) (by kernel_rfl) (fun _ _ _ h => h) (Or.inl ⟨by rfl, fun W' hW => by go_simp⟩) hS ?_
                  simp only [Act.put, List.setIfInBounds_toArray, List.set_cons_zero, List.set_cons_succ]
                  refine take_D (i := 5) 96 (.int .i64 j) rfl rfl (by kernel_rfl) (by kernel_rfl) (by kernel_rfl) (by kernel_rfl) (fun _ _ _ h => h) (Or.inl ⟨by rfl, fun W' hW => by go_simp⟩) hS ?_
                  simp only [Act.put, List.setIfInBounds_toArray, List.set_cons_zero, List.set_cons_succ]
                  refine take_D (i := 6) 97 (.pointer (some ⟨b1, o1 + j * 4, none⟩)) rfl rfl (by kernel_rfl) (by kernel_rfl) (by kernel_rfl) (by kernel_rfl) (fun _ _ _ h => h) (Or.inl ⟨by rfl, fun W' hW => by go_simp⟩) hS ?_
                  simp only [Act.put, List.setIfInBounds_toArray, List.set_cons_zero, List.set_cons_succ]
                  refine take_D (i := 7) 98 (.pointer (some ⟨b1, o1 + j * 4, none⟩)) rfl rfl (by kernel_rfl) (by kernel_rfl) (by kernel_rfl) (by kernel_rfl) (fun _ _ _ h => h) (Or.inl ⟨by rfl, fun W' hW => by go_simp⟩) hS ?_
                  simp only [Act.put, List.setIfInBounds_toArray, List.set_cons_zero, List.set_cons_succ]
                  refine take_D (i := 8) 99 (.int .i64 f.1) rfl rfl (by kernel_rfl) (by kernel_rfl) (by kernel_rfl) (by kernel_rfl) (fun _ _ _ h => h) (Or.inl ⟨by rfl, fun W' hW => by obtain ⟨s0, s1⟩ := hW; go_simp⟩) hS ?_
                  simp only [Act.put, List.setIfInBounds_toArray, List.set_cons_zero, List.set_cons_succ]
                  refine take_D (i := 9) 100 (.bool false) rfl rfl (by kernel_rfl) (by kernel_rfl) (by kernel_rfl) (by kernel_rfl) (fun _ _ _ h => h) (Or.inl ⟨by rfl, fun W' hW => by go_simp⟩) hS ?_
                  simp only [Act.put, List.setIfInBounds_toArray, List.set_cons_zero, List.set_cons_succ]
                  refine done_J (by kernel_rfl) ?_ _
                  refine NoPanic.normal ?_
                  clear hS
                  go_wp2_with fail
                  go_roundg (nl - (q + 1))
                  case measure => omega
                  case rel => exact ⟨q + 1, by omega, rfl, by go_num, HMD.out⟩
                · have hqq : ¬ (q : Int) < nl := by omega
                  clear hlt1
                  go_wp2_with fail
                  go_loopg [15, 16] np (fun k s15 s16 wr => ∃ q : Nat, q ≤ np ∧ k = np - q ∧ s16 = .int .i64 q ∧ s15 = .bool (decide (f.1 ∈ (hs a).take q)) ∧ Below w11.heap.size w11 wr)
                  case atStart => exact ⟨0, Nat.zero_le _, by omega, rfl, by simp, HBA.out⟩
                  case round =>
                    obtain ⟨q, hq1, rfl, rfl, rfl, hbr2⟩ := hrel
                    have HBC := hide hbr2
                    clear hbr2
                    by_cases hlt1 : q < np
                    · obtain ⟨gg, xx, hgg, hxl, cg⟩ := HRP.out wr (HW1011.out.trans (HBC.out.mono HW1011.out.size)) q hlt1
                      subst hgg
                      have hnew := dec_take (x := f.1) hxl
                      have hqq : (q : Int) < np := by omega
                      have HNEW := hide hnew
                      clear hnew hxl
                      generalize hfb : (decide (f.1 ∈ (hs a).take q)) = fb at *
                      have HFBB := hide hfb
                      clear hfb
                      cases fb with
                      | true =>
                        go_upto_region 26 with fail
                        refine wp_region_noPanic ?_
                        refine region_J 14 (N := 14) (S := (fun W' : World => W'.cell? ⟨gg, q, none⟩ = some (.int .i64 xx) ∧ W'.cell? ⟨b1, o1 + j * 4, none⟩ = some (.int .i64 f.1))) (by kernel_rfl) (by kernel_rfl) ?_
                        have hMd : Below w11.heap.size w11 wr.drew := HBC.out.trans ((below_drew wr).mono HBC.out.size)
                        have hS : (fun W' : World => W'.cell? ⟨gg, q, none⟩ = some (.int .i64 xx) ∧ W'.cell? ⟨b1, o1 + j * 4, none⟩ = some (.int .i64 f.1)) wr.drew := ⟨cg, (HSF.out _ hMd).1⟩
                        generalize wr.drew = u9 at *
                        have HMD := hide hMd
                        clear hMd
                        refine take_D (i := 0) 107 (.bool true) rfl rfl (by kernel_rfl) (by kernel_rfl) (by kernel_rfl) (by kernel_rfl) (fun _ _ _ h => h) (Or.inl ⟨by rfl, fun W' hW => by go_simp⟩) hS ?_
                        simp only [Act.put, List.setIfInBounds_toArray, List.set_cons_zero, List.set_cons_succ]
                        refine take_D (i := 1) 108 (.bool true) rfl rfl (by kernel_rfl) (by kernel_rfl) (by kernel_rfl) (by kernel_rfl) (fun _ _ _ h => h) (Or.inl ⟨by rfl, fun W' hW => by go_simp⟩) hS ?_
                        simp only [Act.put, List.setIfInBounds_toArray, List.set_cons_zero, List.set_cons_succ]
                        refine take_D (i := 2) 109 (undef) rfl rfl (by kernel_rfl) (by kernel_rfl) (by kernel_rfl) (by kernel_rfl) (fun _ _ _ h => h) (Or.inr ⟨by rfl, rfl⟩) hS ?_
                        simp only [Act.put, List.setIfInBounds_toArray, List.set_cons_zero, List.set_cons_succ]
                        refine take_D (i := 3) 110 (undef) rfl rfl (by kernel_rfl) (by kernel_rfl) (by kernel_rfl) (by kernel_rfl) (fun _ _ _ h => h) (Or.inr ⟨by rfl, rfl⟩) hS ?_
                        simp only [Act.put, List.setIfInBounds_toArray, List.set_cons_zero, List.set_cons_succ]
                        refine take_D (i := 4) 111 (undef) rfl rfl (by kernel_rfl) (by kernel_rfl) (by kernel_rfl) (by kernel_rfl) (fun _ _ _ h => h) (Or.inr ⟨by rfl, rfl⟩) hS ?_
                        simp only [Act.put, List.setIfInBounds_toArray, List.set_cons_zero, List.set_cons_succ]
                        refine take_D (i := 5) 112 (undef) rfl rfl (by kernel_rfl) (by kernel_rfl) (by kernel_rfl) (by kernel_rfl) (fun _ _ _ h => h) (Or.inr ⟨by rfl, rfl⟩) hS ?_
                        simp only [Act.put, List.setIfInBounds_toArray, List.set_cons_zero, List.set_cons_succ]
                        refine take_D (i := 6) 113 (undef) rfl rfl (by kernel_rfl) (by kernel_rfl) (by kernel_rfl) (by kernel_rfl) (fun _ _ _ h => h) (Or.inr ⟨by rfl, rfl⟩) hS ?_
                        simp only [Act.put, List.setIfInBounds_toArray, List.set_cons_zero, List.set_cons_succ]
                        refine take_D (i := 7) 114 (undef) rfl rfl (by kernel_rfl) (by kernel_rfl) (by kernel_rfl) (by kernel_rfl) (fun _ _ _ h => h) (Or.inr ⟨by rfl, rfl⟩) hS ?_
                        simp only [Act.put, List.setIfInBounds_toArray, List.set_cons_zero, List.set_cons_succ]
                        refine take_D (i := 8) 115 (undef) rfl rfl (by kernel_rfl) (by kernel_rfl) (by kernel_rfl) (by kernel_rfl) (fun _ _ _ h => h) (Or.inr ⟨by rfl, rfl⟩) hS ?_
                        simp only [Act.put, List.setIfInBounds_toArray, List.set_cons_zero, List.set_cons_succ]
                        refine take_D (i := 9) 116 (undef) rfl rfl (by kernel_rfl) (by kernel_rfl) (by kernel_rfl) (by kernel_rfl) (fun _ _ _ h => h) (Or.inr ⟨by rfl, rfl⟩) hS ?_
                        simp only [Act.put, List.setIfInBounds_toArray, List.set_cons_zero, List.set_cons_succ]
                        refine take_D (i := 10) 117 (undef) rfl rfl (by kernel_rfl) (by kernel_rfl) (by kernel_rfl) (by kernel_rfl) (fun _ _ _ h => h) (Or.inr ⟨by rfl, rfl⟩) hS ?_
                        simp only [Act.put, List.setIfInBounds_toArray, List.set_cons_zero, List.set_cons_succ]
                        refine take_D (i := 11) 118 (undef) rfl rfl (by kernel_rfl) (by kernel_rfl) (by kernel_rfl) (by kernel_rfl) (fun _ _ _ h => h) (Or.inr ⟨by rfl, rfl⟩) hS ?_
                        simp only [Act.put, List.setIfInBounds_toArray, List.set_cons_zero, List.set_cons_succ]
                        refine take_D (i := 12) 119 (.bool true) rfl rfl (by kernel_rfl) (by kernel_rfl) (by kernel_rfl) (by kernel_rfl) (fun _ _ _ h => h) (Or.inl ⟨by rfl, fun W' hW => by go_simp⟩) hS ?_
                        simp only [Act.put, List.setIfInBounds_toArray, List.set_cons_zero, List.set_cons_succ]
                        refine take_D (i := 13) 15 (.bool true) rfl rfl (by kernel_rfl) (by kernel_rfl) (by kernel_rfl) (by kernel_rfl) (fun _ _ _ h => h) (Or.inl ⟨by rfl, fun W' hW => by go_simp⟩) hS ?_
                        simp only [Act.put, List.setIfInBounds_toArray, List.set_cons_zero, List.set_cons_succ]
                        refine done_J (by kernel_rfl) ?_ _
                        refine NoPanic.normal ?_
                        clear hS
                        go_wp2_with fail
                        go_roundg (np - (q + 1))
                        case measure => omega
                        case rel => exact ⟨q + 1, by omega, rfl, by go_num, by rw [HNEW.out]; rfl, HMD.out⟩
                      | false =>
                        go_upto_region 26 with fail
                        refine wp_region_noPanic ?_
                        refine region_J 14 (N := 14) (S := (fun W' : World => W'.cell? ⟨gg, q, none⟩ = some (.int .i64 xx) ∧ W'.cell? ⟨b1, o1 + j * 4, none⟩ = some (.int .i64 f.1))) (by kernel_rfl) (by kernel_rfl) ?_
                        have hMd : Below w11.heap.size w11 wr.drew := HBC.out.trans ((below_drew wr).mono HBC.out.size)
                        have hS : (fun W' : World => W'.cell? ⟨gg, q, none⟩ = some (.int .i64 xx) ∧ W'.cell? ⟨b1, o1 + j * 4, none⟩ = some (.int .i64 f.1)) wr.drew := ⟨cg, (HSF.out _ hMd).1⟩
                        generalize wr.drew = u9 at *
                        have HMD := hide hMd
                        clear hMd
                        refine take_D (i := 0) 107 (.bool false) rfl rfl (by kernel_rfl) (by kernel_rfl) (by kernel_rfl) (by kernel_rfl) (fun _ _ _ h => h) (Or.inl ⟨by rfl, fun W' hW => by go_simp⟩) hS ?_
                        simp only [Act.put, List.setIfInBounds_toArray, List.set_cons_zero, List.set_cons_succ]
                        refine take_D (i := 1) 108 (.bool false) rfl rfl (by kernel_rfl) (by kernel_rfl) (by kernel_rfl) (by kernel_rfl) (fun _ _ _ h => h) (Or.inl ⟨by rfl, fun W' hW => by go_simp⟩) hS ?_
                        simp only [Act.put, List.setIfInBounds_toArray, List.set_cons_zero, List.set_cons_succ]
                        refine take_D (i := 2) 109 (.slice (some ⟨gg, 0, none⟩) np ccp) rfl rfl (by kernel_rfl) (by kernel_rfl) (by kernel_rfl) (by kernel_rfl) (fun _ _ _ h => h) (Or.inl ⟨by rfl, fun W' hW => by go_simp⟩) hS ?_
                        simp only [Act.put, List.setIfInBounds_toArray, List.set_cons_zero, List.set_cons_succ]
                        refine take_D (i := 3) 110 (.int .i64 q) rfl rfl (by kernel_rfl) (by kernel_rfl) (by kernel_rfl) (by kernel_rfl) (fun _ _ _ h => h) (Or.inl ⟨by rfl, fun W' hW => by go_simp⟩) hS ?_
                        simp only [Act.put, List.setIfInBounds_toArray, List.set_cons_zero, List.set_cons_succ]
                        refine take_D (i := 4) 111 (.pointer (some ⟨gg, q, none⟩)) rfl rfl (by kernel_rfl) (by kernel_rfl) (by kernel_rfl) (by kernel_rfl) (fun _ _ _ h => h) (Or.inl ⟨by rfl, fun W' hW => by go_simp⟩) hS ?_
                        simp only [Act.put, List.setIfInBounds_toArray, List.set_cons_zero, List.set_cons_succ]
                        refine take_D (i := 5) 112 (.int .i64 xx) rfl rfl (by kernel_rfl) (by kernel_rfl) (by kernel_rfl) (by kernel_rfl) (fun _ _ _ h => h) (Or.inl ⟨by rfl, fun W' hW => by obtain ⟨s0, s1⟩ := hW; go_simp⟩) hS ?_
                        simp only [Act.put, List.setIfInBounds_toArray, List.set_cons_zero, List.set_cons_succ]
                        refine take_D (i := 6) 113 (.slice (some ⟨b1, o1, none⟩) m cl) rfl rfl (by kernel_rfl) (by kernel_rfl) (by kernel_rfl) (by kernel_rfl) (fun _ _ _ h => h) (Or.inl ⟨by rfl, fun W' hW => by go_simp⟩) hS ?_
                        simp only [Act.put, List.setIfInBounds_toArray, List.set_cons_zero, List.set_cons_succ]
                        refine take_D (i := 7) 114 (.int .i64 j) rfl rfl (by kernel_rfl) (by kernel_rfl) (by kernel_rfl) (by kernel_rfl) (fun _ _ _ h => h) (Or.inl ⟨by rfl, fun W' hW => by go_simp⟩) hS ?_
                        simp only [Act.put, List.setIfInBounds_toArray, List.set_cons_zero, List.set_cons_succ]
                        refine take_D (i := 8) 115 (.pointer (some ⟨b1, o1 + j * 4, none⟩)) rfl rfl (by kernel_rfl) (by kernel_rfl) (by kernel_rfl) (by kernel_rfl) (fun _ _ _ h => h) (Or.inl ⟨by rfl, fun W' hW => by go_simp⟩) hS ?_
                        simp only [Act.put, List.setIfInBounds_toArray, List.set_cons_zero, List.set_cons_succ]
                        refine take_D (i := 9) 116 (.pointer (some ⟨b1, o1 + j * 4, none⟩)) rfl rfl (by kernel_rfl) (by kernel_rfl) (by kernel_rfl) (by kernel_rfl) (fun _ _ _ h => h) (Or.inl ⟨by rfl, fun W' hW => by go_simp⟩) hS ?_
                        simp only [Act.put, List.setIfInBounds_toArray, List.set_cons_zero, List.set_cons_succ]
                        refine take_D (i := 10) 117 (.int .i64 f.1) rfl rfl (by kernel_rfl) (by kernel_rfl) (by kernel_rfl) (by kernel_rfl) (fun _ _ _ h => h) (Or.inl ⟨by rfl, fun W' hW => by obtain ⟨s0, s1⟩ := hW; go_simp⟩) hS ?_
                        simp only [Act.put, List.setIfInBounds_toArray, List.set_cons_zero, List.set_cons_succ]
                        refine take_D (i := 11) 118 (.bool (xx == f.1)) rfl rfl (by kernel_rfl) (by kernel_rfl) (by kernel_rfl) (by kernel_rfl) (fun _ _ _ h => h) (Or.inl ⟨by rfl, fun W' hW => by go_simp⟩) hS ?_
                        simp only [Act.put, List.setIfInBounds_toArray, List.set_cons_zero, List.set_cons_succ]
                        refine take_D (i := 12) 119 (.bool (xx == f.1)) rfl rfl (by kernel_rfl) (by kernel_rfl) (by kernel_rfl) (by kernel_rfl) (fun _ _ _ h => h) (Or.inl ⟨by rfl, fun W' hW => by go_simp⟩) hS ?_
                        simp only [Act.put, List.setIfInBounds_toArray, List.set_cons_zero, List.set_cons_succ]
                        refine take_D (i := 13) 15 (.bool (xx == f.1)) rfl rfl (by kernel_rfl) (by kernel_rfl) (by kernel_rfl) (by kernel_rfl) (fun _ _ _ h => h) (Or.inl ⟨by rfl, fun W' hW => by go_simp⟩) hS ?_
                        simp only [Act.put, List.setIfInBounds_toArray, List.set_cons_zero, List.set_cons_succ]
                        refine done_J (by kernel_rfl) ?_ _
                        refine NoPanic.normal ?_
                        clear hS
                        go_wp2_with fail
                        go_roundg (np - (q + 1))
                        case measure => omega
                        case rel => exact ⟨q + 1, by omega, rfl, by go_num, by rw [HNEW.out]; rfl, HMD.out⟩
                    · have hqq : ¬ (q : Int) < np := by omega
                      have hqe : (hs a).take q = (hs a) := List.take_of_length_le (by rw [HNP.out]; omega)
                      rw [hqe]
                      clear hlt1 hqe
                      go_wp2_with fail
                      go_loopg [15, 17] nq (fun k s15 s16 wr => ∃ q : Nat, q ≤ nq ∧ k = nq - q ∧ s16 = .int .i64 q ∧ s15 = .bool (decide (f.1 ∈ hs a) || (decide (f.1 ∈ (hs b).take q))) ∧ Below w11.heap.size w11 wr)
                      case atStart => exact ⟨0, Nat.zero_le _, by omega, rfl, by simp, HBC.out⟩
                      case round =>
                        obtain ⟨q, hq1, rfl, rfl, rfl, hbr2⟩ := hrel
                        have HBD := hide hbr2
                        clear hbr2
                        by_cases hlt1 : q < nq
                        · obtain ⟨gg, xx, hgg, hxl, cg⟩ := HRQ.out wr (HW1111.out.trans (HBD.out.mono HW1111.out.size)) q hlt1
                          subst hgg
                          have hnew := dec_take (x := f.1) hxl
                          have hqq : (q : Int) < nq := by omega
                          have HNEW := hide hnew
                          clear hnew hxl
                          generalize hfb : (decide (f.1 ∈ hs a) || (decide (f.1 ∈ (hs b).take q))) = fb at *
                          have HFBB := hide hfb
                          clear hfb
                          cases fb with
                          | true =>
                            go_upto_region 30 with fail
                            refine wp_region_noPanic ?_
                            refine region_J 14 (N := 14) (S := (fun W' : World => W'.cell? ⟨gg, q, none⟩ = some (.int .i64 xx) ∧ W'.cell? ⟨b1, o1 + j * 4, none⟩ = some (.int .i64 f.1))) (by kernel_rfl) (by kernel_rfl) ?_
                            have hMd : Below w11.heap.size w11 wr.drew := HBD.out.trans ((below_drew wr).mono HBD.out.size)
                            have hS : (fun W' : World => W'.cell? ⟨gg, q, none⟩ = some (.int .i64 xx) ∧ W'.cell? ⟨b1, o1 + j * 4, none⟩ = some (.int .i64 f.1)) wr.drew := ⟨cg, (HSF.out _ hMd).1⟩
                            generalize wr.drew = u9 at *
                            have HMD := hide hMd
                            clear hMd
                            refine take_D (i := 0) 126 (.bool true) rfl rfl (by kernel_rfl) (by kernel_rfl) (by kernel_rfl) (by kernel_rfl) (fun _ _ _ h => h) (Or.inl ⟨by rfl, fun W' hW => by go_simp⟩) hS ?_
                            simp only [Act.put, List.setIfInBounds_toArray, List.set_cons_zero, List.set_cons_succ]
                            refine take_D (i := 1) 127 (.bool true) rfl rfl (by kernel_rfl) (by kernel_rfl) (by kernel_rfl) (by kernel_rfl) (fun _ _ _ h => h) (Or.inl ⟨by rfl, fun W' hW => by go_simp⟩) hS ?_
                            simp only [Act.put, List.setIfInBounds_toArray, List.set_cons_zero, List.set_cons_succ]
                            refine take_D (i := 2) 128 (undef) rfl rfl (by kernel_rfl) (by kernel_rfl) (by kernel_rfl) (by kernel_rfl) (fun _ _ _ h => h) (Or.inr ⟨by rfl, rfl⟩) hS ?_
                            simp only [Act.put, List.setIfInBounds_toArray, List.set_cons_zero, List.set_cons_succ]
                            refine take_D (i := 3) 129 (undef) rfl rfl (by kernel_rfl) (by kernel_rfl) (by kernel_rfl) (by kernel_rfl) (fun _ _ _ h => h) (Or.inr ⟨by rfl, rfl⟩) hS ?_
                            simp only [Act.put, List.setIfInBounds_toArray, List.set_cons_zero, List.set_cons_succ]
                            refine take_D (i := 4) 130 (undef) rfl rfl (by kernel_rfl) (by kernel_rfl) (by kernel_rfl) (by kernel_rfl) (fun _ _ _ h => h) (Or.inr ⟨by rfl, rfl⟩) hS ?_
                            simp only [Act.put, List.setIfInBounds_toArray, List.set_cons_zero, List.set_cons_succ]
                            refine take_D (i := 5) 131 (undef) rfl rfl (by kernel_rfl) (by kernel_rfl) (by kernel_rfl) (by kernel_rfl) (fun _ _ _ h => h) (Or.inr ⟨by rfl, rfl⟩) hS ?_
                            simp only [Act.put, List.setIfInBounds_toArray, List.set_cons_zero, List.set_cons_succ]
                            refine take_D (i := 6) 132 (undef) rfl rfl (by kernel_rfl) (by kernel_rfl) (by kernel_rfl) (by kernel_rfl) (fun _ _ _ h => h) (Or.inr ⟨by rfl, rfl⟩) hS ?_
                            simp only [Act.put, List.setIfInBounds_toArray, List.set_cons_zero, List.set_cons_succ]
                            refine take_D (i := 7) 133 (undef) rfl rfl (by kernel_rfl) (by kernel_rfl) (by kernel_rfl) (by kernel_rfl) (fun _ _ _ h => h) (Or.inr ⟨by rfl, rfl⟩) hS ?_
                            simp only [Act.put, List.setIfInBounds_toArray, List.set_cons_zero, List.set_cons_succ]
                            refine take_D (i := 8) 134 (undef) rfl rfl (by kernel_rfl) (by kernel_rfl) (by kernel_rfl) (by kernel_rfl) (fun _ _ _ h => h) (Or.inr ⟨by rfl, rfl⟩) hS ?_
                            simp only [Act.put, List.setIfInBounds_toArray, List.set_cons_zero, List.set_cons_succ]
                            refine take_D (i := 9) 135 (undef) rfl rfl (by kernel_rfl) (by kernel_rfl) (by kernel_rfl) (by kernel_rfl) (fun _ _ _ h => h) (Or.inr ⟨by rfl, rfl⟩) hS ?_
                            simp only [Act.put, List.setIfInBounds_toArray, List.set_cons_zero, List.set_cons_succ]
                            refine take_D (i := 10) 136 (undef) rfl rfl (by kernel_rfl) (by kernel_rfl) (by kernel_rfl) (by kernel_rfl) (fun _ _ _ h => h) (Or.inr ⟨by rfl, rfl⟩) hS ?_
                            simp only [Act.put, List.setIfInBounds_toArray, List.set_cons_zero, List.set_cons_succ]
                            refine take_D (i := 11) 137 (undef) rfl rfl (by kernel_rfl) (by kernel_rfl) (by kernel_rfl) (by kernel_rfl) (fun _ _ _ h => h) (Or.inr ⟨by rfl, rfl⟩) hS ?_
                            simp only [Act.put, List.setIfInBounds_toArray, List.set_cons_zero, List.set_cons_succ]
                            refine take_D (i := 12) 138 (.bool true) rfl rfl (by kernel_rfl) (by kernel_rfl) (by kernel_rfl) (by kernel_rfl) (fun _ _ _ h => h) (Or.inl ⟨by rfl, fun W' hW => by go_simp⟩) hS ?_
                            simp only [Act.put, List.setIfInBounds_toArray, List.set_cons_zero, List.set_cons_succ]
                            refine take_D (i := 13) 15 (.bool true) rfl rfl (by kernel_rfl) (by kernel_rfl) (by kernel_rfl) (by kernel_rfl) (fun _ _ _ h => h) (Or.inl ⟨by rfl, fun W' hW => by go_simp⟩) hS ?_
                            simp only [Act.put, List.setIfInBounds_toArray, List.set_cons_zero, List.set_cons_succ]
                            refine done_J (by kernel_rfl) ?_ _
                            refine NoPanic.normal ?_
                            clear hS
                            go_wp2_with fail
                            go_roundg (nq - (q + 1))
                            case measure => omega
                            case rel => exact ⟨q + 1, by omega, rfl, by go_num, by rw [HNEW.out, ← Bool.or_assoc, HFBB.out]; rfl, HMD.out⟩
                          | false =>
                            go_upto_region 30 with fail
                            refine wp_region_noPanic ?_
                            refine region_J 14 (N := 14) (S := (fun W' : World => W'.cell? ⟨gg, q, none⟩ = some (.int .i64 xx) ∧ W'.cell? ⟨b1, o1 + j * 4, none⟩ = some (.int .i64 f.1))) (by kernel_rfl) (by kernel_rfl) ?_
                            have hMd : Below w11.heap.size w11 wr.drew := HBD.out.trans ((below_drew wr).mono HBD.out.size)
                            have hS : (fun W' : World => W'.cell? ⟨gg, q, none⟩ = some (.int .i64 xx) ∧ W'.cell? ⟨b1, o1 + j * 4, none⟩ = some (.int .i64 f.1)) wr.drew := ⟨cg, (HSF.out _ hMd).1⟩
                            generalize wr.drew = u9 at *
                            have HMD := hide hMd
                            clear hMd
                            refine take_D (i := 0) 126 (.bool false) rfl rfl (by kernel_rfl) (by kernel_rfl) (by kernel_rfl) (by kernel_rfl) (fun _ _ _ h => h) (Or.inl ⟨by rfl, fun W' hW => by go_simp⟩) hS ?_
                            simp only [Act.put, List.setIfInBounds_toArray, List.set_cons_zero, List.set_cons_succ]
                            refine take_D (i := 1) 127 (.bool false) rfl rfl (by kernel_rfl) (by kernel_rfl) (by kernel_rfl) (by kernel_rfl) (fun _ _ _ h => h) (Or.inl ⟨by rfl, fun W' hW => by go_simp⟩) hS ?_
                            simp only [Act.put, List.setIfInBounds_toArray, List.set_cons_zero, List.set_cons_succ]
                            refine take_D (i := 2) 128 (.slice (some ⟨gg, 0, none⟩) nq ccq) rfl rfl (by kernel_rfl) (by kernel_rfl) (by kernel_rfl) (by kernel_rfl) (fun _ _ _ h => h) (Or.inl ⟨by rfl, fun W' hW => by go_simp⟩) hS ?_
                            simp only [Act.put, List.setIfInBounds_toArray, List.set_cons_zero, List.set_cons_succ]
                            refine take_D (i := 3) 129 (.int .i64 q) rfl rfl (by kernel_rfl) (by kernel_rfl) (by kernel_rfl) (by kernel_rfl) (fun _ _ _ h => h) (Or.inl ⟨by rfl, fun W' hW => by go_simp⟩) hS ?_
                            simp only [Act.put, List.setIfInBounds_toArray, List.set_cons_zero, List.set_cons_succ]
                            refine take_D (i := 4) 130 (.pointer (some ⟨gg, q, none⟩)) rfl rfl (by kernel_rfl) (by kernel_rfl) (by kernel_rfl) (by kernel_rfl) (fun _ _ _ h => h) (Or.inl ⟨by rfl, fun W' hW => by go_simp⟩) hS ?_
                            simp only [Act.put, List.setIfInBounds_toArray, List.set_cons_zero, List.set_cons_succ]
                            refine take_D (i := 5) 131 (.int .i64 xx) rfl rfl (by kernel_rfl) (by kernel_rfl) (by kernel_rfl) (by kernel_rfl) (fun _ _ _ h => h) (Or.inl ⟨by rfl, fun W' hW => by obtain ⟨s0, s1⟩ := hW; go_simp⟩) hS ?_
                            simp only [Act.put, List.setIfInBounds_toArray, List.set_cons_zero, List.set_cons_succ]
                            refine take_D (i := 6) 132 (.slice (some ⟨b1, o1, none⟩) m cl) rfl rfl (by kernel_rfl) (by kernel_rfl) (by kernel_rfl) (by kernel_rfl) (fun _ _ _ h => h) (Or.inl ⟨by rfl, fun W' hW => by go_simp⟩) hS ?_
                            simp only [Act.put, List.setIfInBounds_toArray, List.set_cons_zero, List.set_cons_succ]
                            refine take_D (i := 7) 133 (.int .i64 j) rfl rfl (by kernel_rfl) (by kernel_rfl) (by kernel_rfl) (by kernel_rfl) (fun _ _ _ h => h) (Or.inl ⟨by rfl, fun W' hW => by go_simp⟩) hS ?_
                            simp only [Act.put, List.setIfInBounds_toArray, List.set_cons_zero, List.set_cons_succ]
                            refine take_D (i := 8) 134 (.pointer (some ⟨b1, o1 + j * 4, none⟩)) rfl rfl (by kernel_rfl) (by kernel_rfl) (by kernel_rfl) (by kernel_rfl) (fun _ _ _ h => h) (Or.inl ⟨by rfl, fun W' hW => by go_simp⟩) hS ?_
                            simp only [Act.put, List.setIfInBounds_toArray, List.set_cons_zero, List.set_cons_succ]
                            refine take_D (i := 9) 135 (.pointer (some ⟨b1, o1 + j * 4, none⟩)) rfl rfl (by kernel_rfl) (by kernel_rfl) (by kernel_rfl) (by kernel_rfl) (fun _ _ _ h => h) (Or.inl ⟨by rfl, fun W' hW => by go_simp⟩) hS ?_
                            simp only [Act.put, List.setIfInBounds_toArray, List.set_cons_zero, List.set_cons_succ]
                            refine take_D (i := 10) 136 (.int .i64 f.1) rfl rfl (by kernel_rfl) (by kernel_rfl) (by kernel_rfl) (by kernel_rfl) (fun _ _ _ h => h) (Or.inl ⟨by rfl, fun W' hW => by obtain ⟨s0, s1⟩ := hW; go_simp⟩) hS ?_
                            simp only [Act.put, List.setIfInBounds_toArray, List.set_cons_zero, List.set_cons_succ]
                            refine take_D (i := 11) 137 (.bool (xx == f.1)) rfl rfl (by kernel_rfl) (by kernel_rfl) (by kernel_rfl) (by kernel_rfl) (fun _ _ _ h => h) (Or.inl ⟨by rfl, fun W' hW => by go_simp⟩) hS ?_
                            simp only [Act.put, List.setIfInBounds_toArray, List.set_cons_zero, List.set_cons_succ]
                            refine take_D (i := 12) 138 (.bool (xx == f.1)) rfl rfl (by kernel_rfl) (by kernel_rfl) (by kernel_rfl) (by kernel_rfl) (fun _ _ _ h => h) (Or.inl ⟨by rfl, fun W' hW => by go_simp⟩) hS ?_
                            simp only [Act.put, List.setIfInBounds_toArray, List.set_cons_zero, List.set_cons_succ]
                            refine take_D (i := 13) 15 (.bool (xx == f.1)) rfl rfl (by kernel_rfl) (by kernel_rfl) (by kernel_rfl) (by kernel_rfl) (fun _ _ _ h => h) (Or.inl ⟨by rfl, fun W' hW => by go_simp⟩) hS ?_
                            simp only [Act.put, List.setIfInBounds_toArray, List.set_cons_zero, List.set_cons_succ]
                            refine done_J (by kernel_rfl) ?_ _
                            refine NoPanic.normal ?_
                            clear hS
                            go_wp2_with fail
                            go_roundg (nq - (q + 1))
                            case measure => omega
                            case rel => exact ⟨q + 1, by omega, rfl, by go_num, by rw [HNEW.out, ← Bool.or_assoc, HFBB.out]; rfl, HMD.out⟩
                        · have hqq : ¬ (q : Int) < nq := by omega
                          have hqe : (hs b).take q = (hs b) := List.take_of_length_le (by rw [HNQ.out]; omega)
                          rw [hqe]
                          clear hlt1 hqe
                          have hfound : (decide (f.1 ∈ hs a) || decide (f.1 ∈ hs b)) = true := by
                            rcases HTOLD.out.theirs f HMEM.out with h | h
                            · rw [decide_eq_true ((hs_mem a f.1).2 h)]; rfl
                            · rw [decide_eq_true ((hs_mem b f.1).2 h)]; simp
                          rw [hfound]
                          clear hfound
                          go_wp2_with fail
                          go_roundg (m - (j + 1))
                          case measure => omega
                          case rel => exact ⟨j + 1, by omega, rfl, by go_num, HBD.out⟩
          · have hjj : ¬ (j : Int) < m := by omega
            have HW811 : Hid (Below w8.heap.size w8 w11) := hide (HW89.out.trans (HW911.out.mono HW89.out.size))
            have HW8R : Hid (Below w8.heap.size w8 wr) := hide (HW811.out.trans (HBR.out.mono HW811.out.size))
            have HW6R : Hid (Below w6.heap.size w6 wr) := hide (HW68.out.trans (HW8R.out.mono HW68.out.size))
            have hsm := same_ty xt xt (P := fun x => x < wr.heap.size) (w := wr) (pk := px) (qk := py) (ck := cx) (dk := cy) (fun x hx => hx) (TyIn.keep (KP.refl _ _) (fun x hx => Nat.lt_of_lt_of_le hx HW6R.out.size) _ _ (HTX.out wr HW6R.out)) (TyIn.keep (KP.refl _ _) (fun x hx => Nat.lt_of_lt_of_le hx HW8R.out.size) _ _ (HTY.out wr HW8R.out))
            have HSAME := hide hsm
            clear hsm
            unfold cs3 at HSAME
            have hu11 := HU11.out.below HBR.out HU11.out.lt
            have hv11 := HV11.out.below HBR.out HV11.out.lt
            have u0 := hu11.cell 0; have u1 := hu11.cell 1; have u2 := hu11.cell 2
            have v0 := hv11.cell 0; have v1 := hv11.cell 1; have v2 := hv11.cell 2
            simp only [List.getElem?_toArray, List.getElem?_cons_succ, List.getElem?_cons_zero] at u0 u1 u2 v0 v1 v2
            clear hu11 hv11
            go_wp2_with fail
            refine HSAME.out.mono ?_
            rintro r wz ⟨hyes, _, hb⟩
            obtain rfl := hyes (by trivial)
            go_wp2_with fail
            go_ret
            exact ⟨rfl, (HB11.out.trans (HBR.out.mono HB11.out.size)).trans (hb.mono (HB11.out.trans (HBR.out.mono HB11.out.size)).size)⟩
      · go_wp2_with fail
        go_ret
        exact ⟨rfl, HB4.out⟩
end Go.Proofs.YteoflpalmckikaaDoor
