/-
  THE WALK OF TyTurns.
-/
import Derived.Test.YteoflpalmckikaaDoorAwakeP
import Derived.Test.YteoflpalmckikaaDoorFactsP
namespace Go.Proofs.YteoflpalmckikaaDoor
open Go.RowKit
set_option linter.unusedVariables false
set_option linter.unusedSimpArgs false
theorem chk_kid {t k : Ty} (h : chk t = true) (hk : k ∈ t.ar) : chk k = true := by
  obtain ⟨h1, h2, h3⟩ := (chk_iff t).1 h
  refine (chk_iff k).2 ⟨(allT_kid h1).2 k hk, by have := tdp_kid hk; omega, ?_⟩
  obtain ⟨q, hq, rfl⟩ := List.getElem_of_mem hk
  have h4 := sum_take_two tsz t.ar q t.ar[q] (List.getElem?_eq_getElem hq)
  rw [tsz_eq] at h3
  omega
theorem tyIn_two {P : Nat → Prop} {W : World} {b : Nat} {a c : Ty} {pa pc : Option Addr} {ca cc : Nat} (hb : Hold b #[.string (S a.nm), .int .i64 a.n, .slice pa a.ar.length ca, .string (S c.nm), .int .i64 c.n, .slice pc c.ar.length cc] 24 W) (hA : TyIn P W a [.string (S a.nm), .int .i64 a.n, .slice pa a.ar.length ca]) (hC : TyIn P W c [.string (S c.nm), .int .i64 c.n, .slice pc c.ar.length cc]) : TyIn (fun x => P x ∨ x = b) W ⟨[80], 0, [a, c]⟩ [.string ⟨#[80]⟩, .int .i64 0, .slice (some ⟨b, 0, none⟩) 2 2] :=
  tyIn_row (P := fun x => P x ∨ x = b) [80] [a, c] [[.string (S a.nm), .int .i64 a.n, .slice pa a.ar.length ca], [.string (S c.nm), .int .i64 c.n, .slice pc c.ar.length cc]] (by decide) (by simp) (.inr rfl) hb rfl (by simp) (fun i k hk => by
    cases i with
    | zero => cases hk; exact ⟨_, rfl, TyIn.keep (KP.refl _ _) (fun x hx => .inl hx) _ _ hA⟩
    | succ i =>
      cases i with
      | zero => cases hk; exact ⟨_, rfl, TyIn.keep (KP.refl _ _) (fun x hx => .inl hx) _ _ hC⟩
      | succ i => simp at hk)
set_option maxHeartbeats 16000000 in
set_option maxRecDepth 100000 in
theorem turns_walk (a b c : Ty) {w : World} {pa pb pc : Option Addr} {ca cb cc : Nat} (hG : GT w) (hA : TyIn (fun x => x < w.heap.size) w a [.string (S a.nm), .int .i64 a.n, .slice pa a.ar.length ca]) (hB : TyIn (fun x => x < w.heap.size) w b [.string (S b.nm), .int .i64 b.n, .slice pb b.ar.length cb]) (hC : TyIn (fun x => x < w.heap.size) w c [.string (S c.nm), .int .i64 c.n, .slice pc c.ar.length cc]) :
    Calls Tryd.prog 9 #[.agg (cs3 a pa ca), .agg (cs3 b pb cb), .agg (cs3 c pc cc)] w fun r w' => r = .returned (.bool true) ∧ Below w.heap.size w w' := by
  have HTA : Hid (∀ W, Below w.heap.size w W → TyIn (fun x => x < w.heap.size) W a [.string (S a.nm), .int .i64 a.n, .slice pa a.ar.length ca]) := hide fun W hb => TyIn.keep (KP.of_below hb fun x hx => hx) (fun x hx => hx) _ _ hA
  have HTB : Hid (∀ W, Below w.heap.size w W → TyIn (fun x => x < w.heap.size) W b [.string (S b.nm), .int .i64 b.n, .slice pb b.ar.length cb]) := hide fun W hb => TyIn.keep (KP.of_below hb fun x hx => hx) (fun x hx => hx) _ _ hB
  have HTC : Hid (∀ W, Below w.heap.size w W → TyIn (fun x => x < w.heap.size) W c [.string (S c.nm), .int .i64 c.n, .slice pc c.ar.length cc]) := hide fun W hb => TyIn.keep (KP.of_below hb fun x hx => hx) (fun x hx => hx) _ _ hC
  have hX : Hold w.heap.size #[.string (S a.nm), .int .i64 a.n, .slice pa a.ar.length ca] 24 (((w.alloc (.cells #[.string (S a.nm), .int .i64 a.n, .slice pa a.ar.length ca] 24)).alloc (.cells #[.string (S b.nm), .int .i64 b.n, .slice pb b.ar.length cb] 24)).alloc (.cells #[.string (S c.nm), .int .i64 c.n, .slice pc c.ar.length cc] 24)) := ((Hold.new w _ 24).alloc _).alloc _
  have hY : Hold (w.heap.size + 1) #[.string (S b.nm), .int .i64 b.n, .slice pb b.ar.length cb] 24 (((w.alloc (.cells #[.string (S a.nm), .int .i64 a.n, .slice pa a.ar.length ca] 24)).alloc (.cells #[.string (S b.nm), .int .i64 b.n, .slice pb b.ar.length cb] 24)).alloc (.cells #[.string (S c.nm), .int .i64 c.n, .slice pc c.ar.length cc] 24)) := by have := (Hold.new (w.alloc (.cells #[.string (S a.nm), .int .i64 a.n, .slice pa a.ar.length ca] 24)) #[.string (S b.nm), .int .i64 b.n, .slice pb b.ar.length cb] 24).alloc (.cells #[.string (S c.nm), .int .i64 c.n, .slice pc c.ar.length cc] 24); simpa using this
  have hZ : Hold (w.heap.size + 1 + 1) #[.string (S c.nm), .int .i64 c.n, .slice pc c.ar.length cc] 24 (((w.alloc (.cells #[.string (S a.nm), .int .i64 a.n, .slice pa a.ar.length ca] 24)).alloc (.cells #[.string (S b.nm), .int .i64 b.n, .slice pb b.ar.length cb] 24)).alloc (.cells #[.string (S c.nm), .int .i64 c.n, .slice pc c.ar.length cc] 24)) := by have := Hold.new ((w.alloc (.cells #[.string (S a.nm), .int .i64 a.n, .slice pa a.ar.length ca] 24)).alloc (.cells #[.string (S b.nm), .int .i64 b.n, .slice pb b.ar.length cb] 24)) #[.string (S c.nm), .int .i64 c.n, .slice pc c.ar.length cc] 24; simpa using this
  have hb0 : Below w.heap.size w (((w.alloc (.cells #[.string (S a.nm), .int .i64 a.n, .slice pa a.ar.length ca] 24)).alloc (.cells #[.string (S b.nm), .int .i64 b.n, .slice pb b.ar.length cb] 24)).alloc (.cells #[.string (S c.nm), .int .i64 c.n, .slice pc c.ar.length cc] 24)) := (((Below.refl _ w).alloc (Nat.le_refl _) _).alloc (by simp) _).alloc (by simp; omega) _
  have hs0 : (((w.alloc (.cells #[.string (S a.nm), .int .i64 a.n, .slice pa a.ar.length ca] 24)).alloc (.cells #[.string (S b.nm), .int .i64 b.n, .slice pb b.ar.length cb] 24)).alloc (.cells #[.string (S c.nm), .int .i64 c.n, .slice pc c.ar.length cc] 24)).heap.size = w.heap.size + 3 := by simp
  have HG0 := hide (hG.below hb0)
  have HX0 := hide hX; have HY0 := hide hY; have HZ0 := hide hZ; have HB0 := hide hb0
  clear hX hY hZ hb0 hG hA hB hC
  unfold cs3
  go_enter Tryd.func9, Tryd.ntmps9
  go_upto_region 1 with fail
  generalize (((w.alloc (.cells #[.string (S a.nm), .int .i64 a.n, .slice pa a.ar.length ca] 24)).alloc (.cells #[.string (S b.nm), .int .i64 b.n, .slice pb b.ar.length cb] 24)).alloc (.cells #[.string (S c.nm), .int .i64 c.n, .slice pc c.ar.length cc] 24)) = w0 at *
  have x0 := HX0.out.cell 0; have x1 := HX0.out.cell 1; have x2 := HX0.out.cell 2
  have y0 := HY0.out.cell 0; have y1 := HY0.out.cell 1; have y2 := HY0.out.cell 2
  have z0 := HZ0.out.cell 0; have z1 := HZ0.out.cell 1; have z2 := HZ0.out.cell 2
  simp only [List.getElem?_toArray, List.getElem?_cons_succ, List.getElem?_cons_zero] at x0 x1 x2 y0 y1 y2 z0 z1 z2
  go_wp2_with fail
  refine (awake_any HG0.out).mono ?_
  rintro r w1 ⟨rfl, hb⟩
  have hbs := hb
  have HX1 := hide (HX0.out.below hbs HX0.out.lt)
  have HY1 := hide (HY0.out.below hbs HY0.out.lt)
  have HZ1 := hide (HZ0.out.below hbs HZ0.out.lt)
  have HB1 := hide (HB0.out.trans (hbs.mono HB0.out.size))
  have hs1 := HB1.out.size
  clear hbs
  clear x0 x1 x2 y0 y1 y2 z0 z1 z2
  have x0 := HX1.out.cell 0; have x1 := HX1.out.cell 1; have x2 := HX1.out.cell 2
  have y0 := HY1.out.cell 0; have y1 := HY1.out.cell 1; have y2 := HY1.out.cell 2
  have z0 := HZ1.out.cell 0; have z1 := HZ1.out.cell 1; have z2 := HZ1.out.cell 2
  simp only [List.getElem?_toArray, List.getElem?_cons_succ, List.getElem?_cons_zero] at x0 x1 x2 y0 y1 y2 z0 z1 z2
  clear hb
  have hfw := few_any a (P := fun x => x < w.heap.size) (w := w1) (pk := pa) (ck := ca) (fun x hx => Nat.lt_of_lt_of_le hx HB1.out.size) (HTA.out w1 HB1.out)
  have HFW := hide hfw
  clear hfw
  cases hfa : fewM a with
  | false =>
    rw [hfa] at HFW
    unfold cs3 at HFW
    go_wp2_with fail
    refine HFW.out.mono ?_
    rintro r w2 ⟨rfl, hb⟩
    go_wp2_with fail
    go_ret
    exact ⟨rfl, HB1.out.trans (hb.mono HB1.out.size)⟩
  | true =>
    rw [hfa] at HFW
    unfold cs3 at HFW
    go_wp2_with fail
    refine HFW.out.mono ?_
    rintro r w2 ⟨rfl, hb⟩
    have hbs := hb
    have HX2 := hide (HX1.out.below hbs HX1.out.lt)
    have HY2 := hide (HY1.out.below hbs HY1.out.lt)
    have HZ2 := hide (HZ1.out.below hbs HZ1.out.lt)
    have HB2 := hide (HB1.out.trans (hbs.mono HB1.out.size))
    have hs2 := HB2.out.size
    clear hbs
    clear x0 x1 x2 y0 y1 y2 z0 z1 z2
    have x0 := HX2.out.cell 0; have x1 := HX2.out.cell 1; have x2 := HX2.out.cell 2
    have y0 := HY2.out.cell 0; have y1 := HY2.out.cell 1; have y2 := HY2.out.cell 2
    have z0 := HZ2.out.cell 0; have z1 := HZ2.out.cell 1; have z2 := HZ2.out.cell 2
    simp only [List.getElem?_toArray, List.getElem?_cons_succ, List.getElem?_cons_zero] at x0 x1 x2 y0 y1 y2 z0 z1 z2
    clear hb HFW
    have hfw := few_any b (P := fun x => x < w.heap.size) (w := w2) (pk := pb) (ck := cb) (fun x hx => Nat.lt_of_lt_of_le hx HB2.out.size) (HTB.out w2 HB2.out)
    have HFW := hide hfw
    clear hfw
    cases hfb : fewM b with
    | false =>
      rw [hfb] at HFW
      unfold cs3 at HFW
      go_wp2_with fail
      refine HFW.out.mono ?_
      rintro r w3 ⟨rfl, hb⟩
      go_wp2_with fail
      go_ret
      exact ⟨rfl, HB2.out.trans (hb.mono HB2.out.size)⟩
    | true =>
      rw [hfb] at HFW
      unfold cs3 at HFW
      go_wp2_with fail
      refine HFW.out.mono ?_
      rintro r w3 ⟨rfl, hb⟩
      have hbs := hb
      have HX3 := hide (HX2.out.below hbs HX2.out.lt)
      have HY3 := hide (HY2.out.below hbs HY2.out.lt)
      have HZ3 := hide (HZ2.out.below hbs HZ2.out.lt)
      have HB3 := hide (HB2.out.trans (hbs.mono HB2.out.size))
      have hs3 := HB3.out.size
      clear hbs
      clear x0 x1 x2 y0 y1 y2 z0 z1 z2
      have x0 := HX3.out.cell 0; have x1 := HX3.out.cell 1; have x2 := HX3.out.cell 2
      have y0 := HY3.out.cell 0; have y1 := HY3.out.cell 1; have y2 := HY3.out.cell 2
      have z0 := HZ3.out.cell 0; have z1 := HZ3.out.cell 1; have z2 := HZ3.out.cell 2
      simp only [List.getElem?_toArray, List.getElem?_cons_succ, List.getElem?_cons_zero] at x0 x1 x2 y0 y1 y2 z0 z1 z2
      clear hb HFW
      have hfw := few_any c (P := fun x => x < w.heap.size) (w := w3) (pk := pc) (ck := cc) (fun x hx => Nat.lt_of_lt_of_le hx HB3.out.size) (HTC.out w3 HB3.out)
      have HFW := hide hfw
      clear hfw
      cases hfc : fewM c with
      | false =>
        rw [hfc] at HFW
        unfold cs3 at HFW
        go_wp2_with fail
        refine HFW.out.mono ?_
        rintro r w4 ⟨rfl, hb⟩
        go_wp2_with fail
        go_ret
        exact ⟨rfl, HB3.out.trans (hb.mono HB3.out.size)⟩
      | true =>
        rw [hfc] at HFW
        unfold cs3 at HFW
        go_wp2_with fail
        refine HFW.out.mono ?_
        rintro r w4 ⟨rfl, hb⟩
        have hbs := hb
        have HX4 := hide (HX3.out.below hbs HX3.out.lt)
        have HY4 := hide (HY3.out.below hbs HY3.out.lt)
        have HZ4 := hide (HZ3.out.below hbs HZ3.out.lt)
        have HB4 := hide (HB3.out.trans (hbs.mono HB3.out.size))
        have hs4 := HB4.out.size
        clear hbs
        clear x0 x1 x2 y0 y1 y2 z0 z1 z2
        have x0 := HX4.out.cell 0; have x1 := HX4.out.cell 1; have x2 := HX4.out.cell 2
        have y0 := HY4.out.cell 0; have y1 := HY4.out.cell 1; have y2 := HY4.out.cell 2
        have z0 := HZ4.out.cell 0; have z1 := HZ4.out.cell 1; have z2 := HZ4.out.cell 2
        simp only [List.getElem?_toArray, List.getElem?_cons_succ, List.getElem?_cons_zero] at x0 x1 x2 y0 y1 y2 z0 z1 z2
        clear hb HFW
        have hU : Hold (w4.heap.size + 1) #[.string ⟨#[80]⟩, .int .i64 0, .slice (some ⟨w4.heap.size, 0, none⟩) 2 2] 24 ((w4.alloc (.cells #[.string (S a.nm), .int .i64 a.n, .slice pa a.ar.length ca, .string (S c.nm), .int .i64 c.n, .slice pc c.ar.length cc] 24)).alloc (.cells #[.string ⟨#[80]⟩, .int .i64 0, .slice (some ⟨w4.heap.size, 0, none⟩) 2 2] 24)) := by have := Hold.new (w4.alloc (.cells #[.string (S a.nm), .int .i64 a.n, .slice pa a.ar.length ca, .string (S c.nm), .int .i64 c.n, .slice pc c.ar.length cc] 24)) #[.string ⟨#[80]⟩, .int .i64 0, .slice (some ⟨w4.heap.size, 0, none⟩) 2 2] 24; simpa using this
        have hP : Hold w4.heap.size #[.string (S a.nm), .int .i64 a.n, .slice pa a.ar.length ca, .string (S c.nm), .int .i64 c.n, .slice pc c.ar.length cc] 24 ((w4.alloc (.cells #[.string (S a.nm), .int .i64 a.n, .slice pa a.ar.length ca, .string (S c.nm), .int .i64 c.n, .slice pc c.ar.length cc] 24)).alloc (.cells #[.string ⟨#[80]⟩, .int .i64 0, .slice (some ⟨w4.heap.size, 0, none⟩) 2 2] 24)) := (Hold.new w4 _ 24).alloc _
        have hb5 : Below w4.heap.size w4 ((w4.alloc (.cells #[.string (S a.nm), .int .i64 a.n, .slice pa a.ar.length ca, .string (S c.nm), .int .i64 c.n, .slice pc c.ar.length cc] 24)).alloc (.cells #[.string ⟨#[80]⟩, .int .i64 0, .slice (some ⟨w4.heap.size, 0, none⟩) 2 2] 24)) := ((Below.refl _ w4).alloc (Nat.le_refl _) _).alloc (by simp) _
        have hfoo := HB4.out.size
        have hq4 := HZ4.out.lt
        go_upto_region 5 with fail
        generalize ((w4.alloc (.cells #[.string (S a.nm), .int .i64 a.n, .slice pa a.ar.length ca, .string (S c.nm), .int .i64 c.n, .slice pc c.ar.length cc] 24)).alloc (.cells #[.string ⟨#[80]⟩, .int .i64 0, .slice (some ⟨w4.heap.size, 0, none⟩) 2 2] 24)) = w5 at *
        have hbs := hb5
        have HX5 := hide (HX4.out.below hbs HX4.out.lt)
        have HY5 := hide (HY4.out.below hbs HY4.out.lt)
        have HZ5 := hide (HZ4.out.below hbs HZ4.out.lt)
        have HB5 := hide (HB4.out.trans (hbs.mono HB4.out.size))
        have hs5 := HB5.out.size
        clear hbs
        clear x0 x1 x2 y0 y1 y2 z0 z1 z2
        have HU5 := hide hU; have HP5 := hide hP
        have hlt5 := hU.lt
        clear hU hP hb5 hq4 hfoo
        generalize hn4 : w4.heap.size = n4 at *
        clear HX4 HY4 HZ4
        have x0 := HX5.out.cell 0; have x1 := HX5.out.cell 1; have x2 := HX5.out.cell 2
        have y0 := HY5.out.cell 0; have y1 := HY5.out.cell 1; have y2 := HY5.out.cell 2
        have z0 := HZ5.out.cell 0; have z1 := HZ5.out.cell 1; have z2 := HZ5.out.cell 2
        have u0 := HU5.out.cell 0; have u1 := HU5.out.cell 1; have u2 := HU5.out.cell 2
        simp only [List.getElem?_toArray, List.getElem?_cons_succ, List.getElem?_cons_zero] at x0 x1 x2 y0 y1 y2 z0 z1 z2 u0 u1 u2
        have hU : Hold (w5.heap.size + 1) #[.string ⟨#[80]⟩, .int .i64 0, .slice (some ⟨w5.heap.size, 0, none⟩) 2 2] 24 ((w5.alloc (.cells #[.string (S b.nm), .int .i64 b.n, .slice pb b.ar.length cb, .string (S c.nm), .int .i64 c.n, .slice pc c.ar.length cc] 24)).alloc (.cells #[.string ⟨#[80]⟩, .int .i64 0, .slice (some ⟨w5.heap.size, 0, none⟩) 2 2] 24)) := by have := Hold.new (w5.alloc (.cells #[.string (S b.nm), .int .i64 b.n, .slice pb b.ar.length cb, .string (S c.nm), .int .i64 c.n, .slice pc c.ar.length cc] 24)) #[.string ⟨#[80]⟩, .int .i64 0, .slice (some ⟨w5.heap.size, 0, none⟩) 2 2] 24; simpa using this
        have hP : Hold w5.heap.size #[.string (S b.nm), .int .i64 b.n, .slice pb b.ar.length cb, .string (S c.nm), .int .i64 c.n, .slice pc c.ar.length cc] 24 ((w5.alloc (.cells #[.string (S b.nm), .int .i64 b.n, .slice pb b.ar.length cb, .string (S c.nm), .int .i64 c.n, .slice pc c.ar.length cc] 24)).alloc (.cells #[.string ⟨#[80]⟩, .int .i64 0, .slice (some ⟨w5.heap.size, 0, none⟩) 2 2] 24)) := (Hold.new w5 _ 24).alloc _
        have hb5 : Below w5.heap.size w5 ((w5.alloc (.cells #[.string (S b.nm), .int .i64 b.n, .slice pb b.ar.length cb, .string (S c.nm), .int .i64 c.n, .slice pc c.ar.length cc] 24)).alloc (.cells #[.string ⟨#[80]⟩, .int .i64 0, .slice (some ⟨w5.heap.size, 0, none⟩) 2 2] 24)) := ((Below.refl _ w5).alloc (Nat.le_refl _) _).alloc (by simp) _
        have hfoo := HB5.out.size
        have hq4 := HZ5.out.lt
        go_upto_region 6 with fail
        generalize ((w5.alloc (.cells #[.string (S b.nm), .int .i64 b.n, .slice pb b.ar.length cb, .string (S c.nm), .int .i64 c.n, .slice pc c.ar.length cc] 24)).alloc (.cells #[.string ⟨#[80]⟩, .int .i64 0, .slice (some ⟨w5.heap.size, 0, none⟩) 2 2] 24)) = w6 at *
        have hbs := hb5
        have HX6 := hide (HX5.out.below hbs HX5.out.lt)
        have HY6 := hide (HY5.out.below hbs HY5.out.lt)
        have HZ6 := hide (HZ5.out.below hbs HZ5.out.lt)
        have HU6 := hide (HU5.out.below hbs HU5.out.lt)
        have HP6 := hide (HP5.out.below hbs HP5.out.lt)
        have HB6 := hide (HB5.out.trans (hbs.mono HB5.out.size))
        have hs6 := HB6.out.size
        clear hbs
        clear x0 x1 x2 y0 y1 y2 z0 z1 z2 u0 u1 u2
        have HV6 := hide hU; have HQ6 := hide hP
        have hlt6 := hU.lt
        clear hU hP hb5 hq4 hfoo
        generalize hn5 : w5.heap.size = n5 at *
        clear HX5 HY5 HZ5 HU5 HP5
        have x0 := HX6.out.cell 0; have x1 := HX6.out.cell 1; have x2 := HX6.out.cell 2
        have y0 := HY6.out.cell 0; have y1 := HY6.out.cell 1; have y2 := HY6.out.cell 2
        have z0 := HZ6.out.cell 0; have z1 := HZ6.out.cell 1; have z2 := HZ6.out.cell 2
        have u0 := HU6.out.cell 0; have u1 := HU6.out.cell 1; have u2 := HU6.out.cell 2
        have v0 := HV6.out.cell 0; have v1 := HV6.out.cell 1; have v2 := HV6.out.cell 2
        simp only [List.getElem?_toArray, List.getElem?_cons_succ, List.getElem?_cons_zero] at x0 x1 x2 y0 y1 y2 z0 z1 z2 u0 u1 u2 v0 v1 v2
        have hck := check_any (⟨[80], 0, [a, c]⟩ : Ty) (P := fun x => x < w.heap.size ∨ x = n4) (w := w6) (fun x hx => by rcases hx with hx | hx; have := HB6.out.size; have hx' : x < w.heap.size := hx; omega; rw [hx]; exact HP6.out.lt) (tyIn_two HP6.out (HTA.out w6 HB6.out) (HTC.out w6 HB6.out))
        have HCK : Hid (Calls Tryd.prog 15 #[.agg #[.string ⟨#[80]⟩, .int .i64 0, .slice (some ⟨n4, 0, none⟩) 2 2]] w6 fun r w' => r = .returned (.bool (chk (⟨[80], 0, [a, c]⟩ : Ty))) ∧ Below w6.heap.size w6 w') := hck
        clear hck
        cases hcx : chk (⟨[80], 0, [a, c]⟩ : Ty) with
        | false =>
          rw [hcx] at HCK
          go_wp2_with fail
          refine HCK.out.mono ?_
          rintro r w7 ⟨rfl, hb⟩
          go_wp2_with fail
          go_ret
          exact ⟨rfl, HB6.out.trans (hb.mono HB6.out.size)⟩
        | true =>
          rw [hcx] at HCK
          go_wp2_with fail
          refine HCK.out.mono ?_
          rintro r w7 ⟨rfl, hb⟩
          have hbs := hb
          have HX7 := hide (HX6.out.below hbs HX6.out.lt)
          have HY7 := hide (HY6.out.below hbs HY6.out.lt)
          have HZ7 := hide (HZ6.out.below hbs HZ6.out.lt)
          have HU7 := hide (HU6.out.below hbs HU6.out.lt)
          have HV7 := hide (HV6.out.below hbs HV6.out.lt)
          have HP7 := hide (HP6.out.below hbs HP6.out.lt)
          have HQ7 := hide (HQ6.out.below hbs HQ6.out.lt)
          have HB7 := hide (HB6.out.trans (hbs.mono HB6.out.size))
          have hs7 := HB7.out.size
          clear hbs
          clear x0 x1 x2 y0 y1 y2 z0 z1 z2 u0 u1 u2 v0 v1 v2
          have x0 := HX7.out.cell 0; have x1 := HX7.out.cell 1; have x2 := HX7.out.cell 2
          have y0 := HY7.out.cell 0; have y1 := HY7.out.cell 1; have y2 := HY7.out.cell 2
          have z0 := HZ7.out.cell 0; have z1 := HZ7.out.cell 1; have z2 := HZ7.out.cell 2
          have u0 := HU7.out.cell 0; have u1 := HU7.out.cell 1; have u2 := HU7.out.cell 2
          have v0 := HV7.out.cell 0; have v1 := HV7.out.cell 1; have v2 := HV7.out.cell 2
          simp only [List.getElem?_toArray, List.getElem?_cons_succ, List.getElem?_cons_zero] at x0 x1 x2 y0 y1 y2 z0 z1 z2 u0 u1 u2 v0 v1 v2
          clear hb HCK
          have hck := check_any (⟨[80], 0, [b, c]⟩ : Ty) (P := fun x => x < w.heap.size ∨ x = n5) (w := w7) (fun x hx => by rcases hx with hx | hx; have := HB7.out.size; have hx' : x < w.heap.size := hx; omega; rw [hx]; exact HQ7.out.lt) (tyIn_two HQ7.out (HTB.out w7 HB7.out) (HTC.out w7 HB7.out))
          have HCK : Hid (Calls Tryd.prog 15 #[.agg #[.string ⟨#[80]⟩, .int .i64 0, .slice (some ⟨n5, 0, none⟩) 2 2]] w7 fun r w' => r = .returned (.bool (chk (⟨[80], 0, [b, c]⟩ : Ty))) ∧ Below w7.heap.size w7 w') := hck
          clear hck
          cases hcy : chk (⟨[80], 0, [b, c]⟩ : Ty) with
          | false =>
            rw [hcy] at HCK
            go_wp2_with fail
            refine HCK.out.mono ?_
            rintro r w8 ⟨rfl, hb⟩
            go_wp2_with fail
            go_ret
            exact ⟨rfl, HB7.out.trans (hb.mono HB7.out.size)⟩
          | true =>
            rw [hcy] at HCK
            go_wp2_with fail
            refine HCK.out.mono ?_
            rintro r w8 ⟨rfl, hb⟩
            have hbs := hb
            have HX8 := hide (HX7.out.below hbs HX7.out.lt)
            have HY8 := hide (HY7.out.below hbs HY7.out.lt)
            have HZ8 := hide (HZ7.out.below hbs HZ7.out.lt)
            have HU8 := hide (HU7.out.below hbs HU7.out.lt)
            have HV8 := hide (HV7.out.below hbs HV7.out.lt)
            have HP8 := hide (HP7.out.below hbs HP7.out.lt)
            have HQ8 := hide (HQ7.out.below hbs HQ7.out.lt)
            have HB8 := hide (HB7.out.trans (hbs.mono HB7.out.size))
            have hs8 := HB8.out.size
            clear hbs
            clear x0 x1 x2 y0 y1 y2 z0 z1 z2 u0 u1 u2 v0 v1 v2
            have x0 := HX8.out.cell 0; have x1 := HX8.out.cell 1; have x2 := HX8.out.cell 2
            have y0 := HY8.out.cell 0; have y1 := HY8.out.cell 1; have y2 := HY8.out.cell 2
            have z0 := HZ8.out.cell 0; have z1 := HZ8.out.cell 1; have z2 := HZ8.out.cell 2
            have u0 := HU8.out.cell 0; have u1 := HU8.out.cell 1; have u2 := HU8.out.cell 2
            have v0 := HV8.out.cell 0; have v1 := HV8.out.cell 1; have v2 := HV8.out.cell 2
            simp only [List.getElem?_toArray, List.getElem?_cons_succ, List.getElem?_cons_zero] at x0 x1 x2 y0 y1 y2 z0 z1 z2 u0 u1 u2 v0 v1 v2
            clear hb HCK
            have hca := chk_kid hcx (k := a) (by simp)
            have hcb := chk_kid hcy (k := b) (by simp)
            have hu1 := unify_any a b (P := fun x => x < w.heap.size) (w := w8) (pk := pa) (qk := pb) (ck := ca) (dk := cb) (fun x hx => Nat.lt_of_lt_of_le hx HB8.out.size) (HTA.out w8 HB8.out) (HTB.out w8 HB8.out)
            have HU1 := hide hu1
            clear hu1
            unfold cs3 at HU1
            go_wp2_with fail
            refine HU1.out.mono ?_
            rintro r w9 ⟨hb, l, e, pl, cl, rfl, _, hrm, hll, hor⟩
            have hbs := hb
            have HX9 := hide (HX8.out.below hbs HX8.out.lt)
            have HY9 := hide (HY8.out.below hbs HY8.out.lt)
            have HZ9 := hide (HZ8.out.below hbs HZ8.out.lt)
            have HU9 := hide (HU8.out.below hbs HU8.out.lt)
            have HV9 := hide (HV8.out.below hbs HV8.out.lt)
            have HP9 := hide (HP8.out.below hbs HP8.out.lt)
            have HQ9 := hide (HQ8.out.below hbs HQ8.out.lt)
            have HB9 := hide (HB8.out.trans (hbs.mono HB8.out.size))
            have hs9 := HB9.out.size
            clear hbs
            clear x0 x1 x2 y0 y1 y2 z0 z1 z2 u0 u1 u2 v0 v1 v2
            have x0 := HX9.out.cell 0; have x1 := HX9.out.cell 1; have x2 := HX9.out.cell 2
            have y0 := HY9.out.cell 0; have y1 := HY9.out.cell 1; have y2 := HY9.out.cell 2
            have z0 := HZ9.out.cell 0; have z1 := HZ9.out.cell 1; have z2 := HZ9.out.cell 2
            have u0 := HU9.out.cell 0; have u1 := HU9.out.cell 1; have u2 := HU9.out.cell 2
            have v0 := HV9.out.cell 0; have v1 := HV9.out.cell 1; have v2 := HV9.out.cell 2
            simp only [List.getElem?_toArray, List.getElem?_cons_succ, List.getElem?_cons_zero] at x0 x1 x2 y0 y1 y2 z0 z1 z2 u0 u1 u2 v0 v1 v2
            have HRL9 : Hid (RM 4 (fun x => x < w9.heap.size) w9 (FaIn (fun x => x < w9.heap.size) w9) pl l) := hide (RM.keep (KP.refl _ _) (fun x hx => hx.2) (fun t ds h => FaIn.keep (KP.refl _ _) (fun x hx => hx.2) t ds h) hrm)
            have hq1 : UnifyQ a b l e := by
              rcases hor with ⟨_, _, h⟩ | ⟨h, _⟩
              · exact h
              · rw [hca, hcb] at h
                simp at h
            have HQ1 := hide hq1
            clear hor hq1 hb hrm HU1
            have hPX : ∀ x, (fun x => (x < w.heap.size ∨ x = n4) ∨ (x < w.heap.size ∨ x = n5)) x → x < w9.heap.size := fun x hx => by
              have h1 := HB9.out.size
              have h2 := HP9.out.lt
              have h3 := HQ9.out.lt
              rcases hx with (hx | rfl) | (hx | rfl) <;> omega
            have hu2 : Calls Tryd.prog 24 #[.agg #[.string ⟨#[80]⟩, .int .i64 0, .slice (some ⟨n4, 0, none⟩) 2 2], .agg #[.string ⟨#[80]⟩, .int .i64 0, .slice (some ⟨n5, 0, none⟩) 2 2]] w9 (UQ (⟨[80], 0, [a, c]⟩ : Ty) (⟨[80], 0, [b, c]⟩ : Ty) w9) := unify_any (⟨[80], 0, [a, c]⟩ : Ty) (⟨[80], 0, [b, c]⟩ : Ty) (P := fun x => (x < w.heap.size ∨ x = n4) ∨ (x < w.heap.size ∨ x = n5)) hPX (TyIn.keep (KP.refl _ _) (fun x hx => .inl hx) _ _ (tyIn_two HP9.out (HTA.out w9 HB9.out) (HTC.out w9 HB9.out))) (TyIn.keep (KP.refl _ _) (fun x hx => .inr hx) _ _ (tyIn_two HQ9.out (HTB.out w9 HB9.out) (HTC.out w9 HB9.out)))
            have HU2 := hide hu2
            clear hu2 hPX
            go_wp2_with fail
            refine HU2.out.mono ?_
            rintro r w10 ⟨hb, m, f, pm, cm, rfl, _, hrm, hml, hor⟩
            have hbs := hb
            have HX10 := hide (HX9.out.below hbs HX9.out.lt)
            have HY10 := hide (HY9.out.below hbs HY9.out.lt)
            have HZ10 := hide (HZ9.out.below hbs HZ9.out.lt)
            have HU10 := hide (HU9.out.below hbs HU9.out.lt)
            have HV10 := hide (HV9.out.below hbs HV9.out.lt)
            have HP10 := hide (HP9.out.below hbs HP9.out.lt)
            have HQ10 := hide (HQ9.out.below hbs HQ9.out.lt)
            have HB10 := hide (HB9.out.trans (hbs.mono HB9.out.size))
            have hs10 := HB10.out.size
            clear hbs
            clear x0 x1 x2 y0 y1 y2 z0 z1 z2 u0 u1 u2 v0 v1 v2
            have x0 := HX10.out.cell 0; have x1 := HX10.out.cell 1; have x2 := HX10.out.cell 2
            have y0 := HY10.out.cell 0; have y1 := HY10.out.cell 1; have y2 := HY10.out.cell 2
            have z0 := HZ10.out.cell 0; have z1 := HZ10.out.cell 1; have z2 := HZ10.out.cell 2
            have u0 := HU10.out.cell 0; have u1 := HU10.out.cell 1; have u2 := HU10.out.cell 2
            have v0 := HV10.out.cell 0; have v1 := HV10.out.cell 1; have v2 := HV10.out.cell 2
            simp only [List.getElem?_toArray, List.getElem?_cons_succ, List.getElem?_cons_zero] at x0 x1 x2 y0 y1 y2 z0 z1 z2 u0 u1 u2 v0 v1 v2
            have HRL10 : Hid (RM 4 (fun x => x < w10.heap.size) w10 (FaIn (fun x => x < w10.heap.size) w10) pl l) := hide (RM.keep (KP.of_below hb fun x hx => hx) (fun x hx => Nat.lt_of_lt_of_le hx hb.size) (fun t ds h => FaIn.keep (KP.of_below hb fun x hx => hx) (fun x hx => Nat.lt_of_lt_of_le hx hb.size) t ds h) HRL9.out)
            have HRM10 : Hid (RM 4 (fun x => x < w10.heap.size) w10 (FaIn (fun x => x < w10.heap.size) w10) pm m) := hide (RM.keep (KP.refl _ _) (fun x hx => hx.2) (fun t ds h => FaIn.keep (KP.refl _ _) (fun x hx => hx.2) t ds h) hrm)
            have hq2 : UnifyQ (⟨[80], 0, [a, c]⟩ : Ty) (⟨[80], 0, [b, c]⟩ : Ty) m f := by
              rcases hor with ⟨_, _, h⟩ | ⟨h, _⟩
              · exact h
              · rw [hcx, hcy] at h
                simp at h
            obtain ⟨rfl, rfl⟩ := turns_math [80] rfl hcx hcy hca hcb HQ1.out hq2
            clear hor hq2 hb hrm HU2 HQ1
            have hu3 := unify_any a a (P := fun x => x < w.heap.size) (w := w10) (pk := pa) (qk := pa) (ck := ca) (dk := ca) (fun x hx => Nat.lt_of_lt_of_le hx HB10.out.size) (HTA.out w10 HB10.out) (HTA.out w10 HB10.out)
            have HU3 := hide hu3
            clear hu3
            unfold cs3 at HU3
            go_wp2_with fail
            refine HU3.out.mono ?_
            rintro r w11 ⟨hb, l3, e3, p3, c3, rfl, _, _, _, hor⟩
            have hbs := hb
            have HX11 := hide (HX10.out.below hbs HX10.out.lt)
            have HY11 := hide (HY10.out.below hbs HY10.out.lt)
            have HZ11 := hide (HZ10.out.below hbs HZ10.out.lt)
            have HU11 := hide (HU10.out.below hbs HU10.out.lt)
            have HV11 := hide (HV10.out.below hbs HV10.out.lt)
            have HP11 := hide (HP10.out.below hbs HP10.out.lt)
            have HQ11 := hide (HQ10.out.below hbs HQ10.out.lt)
            have HB11 := hide (HB10.out.trans (hbs.mono HB10.out.size))
            have hs11 := HB11.out.size
            clear hbs
            clear x0 x1 x2 y0 y1 y2 z0 z1 z2 u0 u1 u2 v0 v1 v2
            have x0 := HX11.out.cell 0; have x1 := HX11.out.cell 1; have x2 := HX11.out.cell 2
            have y0 := HY11.out.cell 0; have y1 := HY11.out.cell 1; have y2 := HY11.out.cell 2
            have z0 := HZ11.out.cell 0; have z1 := HZ11.out.cell 1; have z2 := HZ11.out.cell 2
            have u0 := HU11.out.cell 0; have u1 := HU11.out.cell 1; have u2 := HU11.out.cell 2
            have v0 := HV11.out.cell 0; have v1 := HV11.out.cell 1; have v2 := HV11.out.cell 2
            simp only [List.getElem?_toArray, List.getElem?_cons_succ, List.getElem?_cons_zero] at x0 x1 x2 y0 y1 y2 z0 z1 z2 u0 u1 u2 v0 v1 v2
            have HRL11 : Hid (RM 4 (fun x => x < w11.heap.size) w11 (FaIn (fun x => x < w11.heap.size) w11) pl l) := hide (RM.keep (KP.of_below hb fun x hx => hx) (fun x hx => Nat.lt_of_lt_of_le hx hb.size) (fun t ds h => FaIn.keep (KP.of_below hb fun x hx => hx) (fun x hx => Nat.lt_of_lt_of_le hx hb.size) t ds h) HRL10.out)
            have HRM11 : Hid (RM 4 (fun x => x < w11.heap.size) w11 (FaIn (fun x => x < w11.heap.size) w11) pm l) := hide (RM.keep (KP.of_below hb fun x hx => hx) (fun x hx => Nat.lt_of_lt_of_le hx hb.size) (fun t ds h => FaIn.keep (KP.of_below hb fun x hx => hx) (fun x hx => Nat.lt_of_lt_of_le hx hb.size) t ds h) HRM10.out)
            have hq3 : UnifyQ a a l3 e3 := by
              rcases hor with ⟨_, _, h⟩ | ⟨h, _⟩
              · exact h
              · rw [hca] at h
                simp at h
            obtain ⟨rfl, rfl⟩ := self_math hca hq3
            have hf := facts_any l l (P := fun x => x < w11.heap.size) (w := w11) (pl := pl) (pm := pm) (cl := cl) (cm := cm) (fun x hx => hx) HRL11.out HRM11.out (by omega)
            have HF := hide hf
            clear hf hor hq3 hb HU3
            go_wp2_with fail
            refine HF.out.mono ?_
            rintro r w12 ⟨hyes, _, hb⟩
            obtain rfl := hyes (by trivial)
            go_wp2_with fail
            go_ret
            exact ⟨rfl, HB11.out.trans (hb.mono HB11.out.size)⟩
end Go.Proofs.YteoflpalmckikaaDoor
