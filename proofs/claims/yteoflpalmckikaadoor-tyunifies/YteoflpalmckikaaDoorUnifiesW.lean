/-
  THE WALK OF TyUnifies.
-/
import Derived.Test.YteoflpalmckikaaDoorAwakeP
import Derived.Test.YteoflpalmckikaaDoorFactsP
import Derived.Test.YteoflpalmckikaaDoorUniT
namespace Go.Proofs.YteoflpalmckikaaDoor
open Go.RowKit
set_option linter.unusedVariables false
set_option linter.unusedSimpArgs false
theorem unis_eq {a b : Ty} {l m n : List (Int × Ty)} {e f g : Int} (h1 : (chk a = true ∧ chk b = true ∧ UnifyQ a b l e) ∨ ((chk a = false ∨ chk b = false) ∧ l = [] ∧ e = 80)) (h2 : UPost a b m f) (h3 : (chk b = true ∧ chk a = true ∧ UnifyQ b a n g) ∨ ((chk b = false ∨ chk a = false) ∧ n = [] ∧ g = 80)) : l = m ∧ e = f ∧ l = n ∧ e = g := by
  rcases h1 with ⟨ca, cb, q1⟩ | ⟨c1, rfl, rfl⟩
  · rcases h2 with ⟨_, _, q2⟩ | ⟨c2, _⟩
    · rcases h3 with ⟨_, _, q3⟩ | ⟨c3, _⟩
      · obtain ⟨e1, e2⟩ := UnifyQ.uniq ca cb q1 q2
        obtain ⟨e3, e4⟩ := swap_math ca cb q1 q3
        exact ⟨e2, e1, e4, e3⟩
      · rw [ca, cb] at c3; simp at c3
    · rw [ca, cb] at c2; simp at c2
  · rcases h2 with ⟨ca, cb, _⟩ | ⟨_, rfl, rfl⟩
    · rw [ca, cb] at c1; simp at c1
    · rcases h3 with ⟨cb, ca, _⟩ | ⟨_, rfl, rfl⟩
      · rw [ca, cb] at c1; simp at c1
      · exact ⟨rfl, rfl, rfl, rfl⟩
set_option maxHeartbeats 16000000 in
set_option maxRecDepth 100000 in
theorem unifies_walk (a b : Ty) {w : World} {pa pb : Option Addr} {ca cb : Nat} (hG : GT w) (hA : TyIn (fun x => x < w.heap.size) w a [.string (S a.nm), .int .i64 a.n, .slice pa a.ar.length ca]) (hB : TyIn (fun x => x < w.heap.size) w b [.string (S b.nm), .int .i64 b.n, .slice pb b.ar.length cb]) :
    Calls Tryd.prog 5 #[.agg (cs3 a pa ca), .agg (cs3 b pb cb)] w fun r w' => r = .returned (.bool true) ∧ Below w.heap.size w w' := by
  have HTA : Hid (∀ W, Below w.heap.size w W → TyIn (fun x => x < w.heap.size) W a [.string (S a.nm), .int .i64 a.n, .slice pa a.ar.length ca]) := hide fun W hb => TyIn.keep (KP.of_below hb fun x hx => hx) (fun x hx => hx) _ _ hA
  have HTB : Hid (∀ W, Below w.heap.size w W → TyIn (fun x => x < w.heap.size) W b [.string (S b.nm), .int .i64 b.n, .slice pb b.ar.length cb]) := hide fun W hb => TyIn.keep (KP.of_below hb fun x hx => hx) (fun x hx => hx) _ _ hB
  have hX : Hold w.heap.size #[.string (S a.nm), .int .i64 a.n, .slice pa a.ar.length ca] 24 ((w.alloc (.cells #[.string (S a.nm), .int .i64 a.n, .slice pa a.ar.length ca] 24)).alloc (.cells #[.string (S b.nm), .int .i64 b.n, .slice pb b.ar.length cb] 24)) := (Hold.new w _ 24).alloc _
  have hY : Hold (w.heap.size + 1) #[.string (S b.nm), .int .i64 b.n, .slice pb b.ar.length cb] 24 ((w.alloc (.cells #[.string (S a.nm), .int .i64 a.n, .slice pa a.ar.length ca] 24)).alloc (.cells #[.string (S b.nm), .int .i64 b.n, .slice pb b.ar.length cb] 24)) := by have := Hold.new (w.alloc (.cells #[.string (S a.nm), .int .i64 a.n, .slice pa a.ar.length ca] 24)) #[.string (S b.nm), .int .i64 b.n, .slice pb b.ar.length cb] 24; simpa using this
  have hb0 : Below w.heap.size w ((w.alloc (.cells #[.string (S a.nm), .int .i64 a.n, .slice pa a.ar.length ca] 24)).alloc (.cells #[.string (S b.nm), .int .i64 b.n, .slice pb b.ar.length cb] 24)) := ((Below.refl _ w).alloc (Nat.le_refl _) _).alloc (by simp) _
  have HG0 := hide (hG.below hb0)
  have HX0 := hide hX; have HY0 := hide hY; have HB0 := hide hb0
  clear hX hY hb0 hG hA hB
  unfold cs3
  go_enter Tryd.func5, Tryd.ntmps5
  go_upto_region 1 with fail
  generalize ((w.alloc (.cells #[.string (S a.nm), .int .i64 a.n, .slice pa a.ar.length ca] 24)).alloc (.cells #[.string (S b.nm), .int .i64 b.n, .slice pb b.ar.length cb] 24)) = w0 at *
  have x0 := HX0.out.cell 0; have x1 := HX0.out.cell 1; have x2 := HX0.out.cell 2
  have y0 := HY0.out.cell 0; have y1 := HY0.out.cell 1; have y2 := HY0.out.cell 2
  simp only [List.getElem?_toArray, List.getElem?_cons_succ, List.getElem?_cons_zero] at x0 x1 x2 y0 y1 y2
  go_wp2_with fail
  refine (awake_any HG0.out).mono ?_
  rintro r w1 ⟨rfl, hb⟩
  have HX1 := hide (HX0.out.below hb HX0.out.lt)
  have HY1 := hide (HY0.out.below hb HY0.out.lt)
  have HB1 := hide (HB0.out.trans (hb.mono HB0.out.size))
  clear x0 x1 x2 y0 y1 y2
  have x0 := HX1.out.cell 0; have x1 := HX1.out.cell 1; have x2 := HX1.out.cell 2
  have y0 := HY1.out.cell 0; have y1 := HY1.out.cell 1; have y2 := HY1.out.cell 2
  simp only [List.getElem?_toArray, List.getElem?_cons_succ, List.getElem?_cons_zero] at x0 x1 x2 y0 y1 y2
  clear hb
  have hfw := few_any a (P := fun x => x < w.heap.size) (w := w1) (pk := pa) (ck := ca) (fun x hx => Nat.lt_of_lt_of_le hx HB1.out.size) (HTA.out w1 HB1.out)
  have HFW := hide hfw
  clear hfw
  cases hfewa : fewM a with
  | false =>
    rw [hfewa] at HFW
    unfold cs3 at HFW
    go_wp2_with fail
    refine HFW.out.mono ?_
    rintro r w2 ⟨rfl, hb⟩
    go_wp2_with fail
    go_ret
    exact ⟨rfl, HB1.out.trans (hb.mono HB1.out.size)⟩
  | true =>
    rw [hfewa] at HFW
    unfold cs3 at HFW
    go_wp2_with fail
    refine HFW.out.mono ?_
    rintro r w2 ⟨rfl, hb⟩
    have HX2 := hide (HX1.out.below hb HX1.out.lt)
    have HY2 := hide (HY1.out.below hb HY1.out.lt)
    have HB2 := hide (HB1.out.trans (hb.mono HB1.out.size))
    clear x0 x1 x2 y0 y1 y2
    have x0 := HX2.out.cell 0; have x1 := HX2.out.cell 1; have x2 := HX2.out.cell 2
    have y0 := HY2.out.cell 0; have y1 := HY2.out.cell 1; have y2 := HY2.out.cell 2
    simp only [List.getElem?_toArray, List.getElem?_cons_succ, List.getElem?_cons_zero] at x0 x1 x2 y0 y1 y2
    clear hb HFW
    have hfw := few_any b (P := fun x => x < w.heap.size) (w := w2) (pk := pb) (ck := cb) (fun x hx => Nat.lt_of_lt_of_le hx HB2.out.size) (HTB.out w2 HB2.out)
    have HFW := hide hfw
    clear hfw
    cases hfewb : fewM b with
    | false =>
      rw [hfewb] at HFW
      unfold cs3 at HFW
      go_wp2_with fail
      refine HFW.out.mono ?_
      rintro r w3 ⟨rfl, hb⟩
      go_wp2_with fail
      go_ret
      exact ⟨rfl, HB2.out.trans (hb.mono HB2.out.size)⟩
    | true =>
      rw [hfewb] at HFW
      unfold cs3 at HFW
      go_wp2_with fail
      refine HFW.out.mono ?_
      rintro r w3 ⟨rfl, hb⟩
      have HX3 := hide (HX2.out.below hb HX2.out.lt)
      have HY3 := hide (HY2.out.below hb HY2.out.lt)
      have HB3 := hide (HB2.out.trans (hb.mono HB2.out.size))
      clear x0 x1 x2 y0 y1 y2
      have x0 := HX3.out.cell 0; have x1 := HX3.out.cell 1; have x2 := HX3.out.cell 2
      have y0 := HY3.out.cell 0; have y1 := HY3.out.cell 1; have y2 := HY3.out.cell 2
      simp only [List.getElem?_toArray, List.getElem?_cons_succ, List.getElem?_cons_zero] at x0 x1 x2 y0 y1 y2
      clear hb HFW
      have hu := unify_any a b (P := fun x => x < w.heap.size) (w := w3) (pk := pa) (qk := pb) (ck := ca) (dk := cb) (fun x hx => Nat.lt_of_lt_of_le hx HB3.out.size) (HTA.out w3 HB3.out) (HTB.out w3 HB3.out)
      have HU := hide hu
      clear hu
      unfold cs3 at HU
      go_wp2_with fail
      refine HU.out.mono ?_
      rintro r w4 ⟨hb, l, e, p1, c1, rfl, _, hr1, hl1, hor1⟩
      have HX4 := hide (HX3.out.below hb HX3.out.lt)
      have HY4 := hide (HY3.out.below hb HY3.out.lt)
      have HB4 := hide (HB3.out.trans (hb.mono HB3.out.size))
      clear x0 x1 x2 y0 y1 y2
      have x0 := HX4.out.cell 0; have x1 := HX4.out.cell 1; have x2 := HX4.out.cell 2
      have y0 := HY4.out.cell 0; have y1 := HY4.out.cell 1; have y2 := HY4.out.cell 2
      simp only [List.getElem?_toArray, List.getElem?_cons_succ, List.getElem?_cons_zero] at x0 x1 x2 y0 y1 y2
      have HR1 : Hid (RM 4 (fun x => x < w4.heap.size) w4 (FaIn (fun x => x < w4.heap.size) w4) p1 l) := hide (RM.keep (KP.refl _ _) (fun x hx => hx.2) (fun t ds h => FaIn.keep (KP.refl _ _) (fun x hx => hx.2) t ds h) hr1)
      clear hb hr1 HU
      have hu := runify_any a b (w := w4) (pa := pa) (pb := pb) (ca := ca) (cb := cb) (TyIn.keep (KP.refl _ _) (fun x hx => Nat.lt_of_lt_of_le hx HB4.out.size) _ _ (HTA.out w4 HB4.out)) (TyIn.keep (KP.refl _ _) (fun x hx => Nat.lt_of_lt_of_le hx HB4.out.size) _ _ (HTB.out w4 HB4.out))
      have HU := hide hu
      clear hu
      unfold cs3 at HU
      go_wp2_with fail
      refine HU.out.mono ?_
      rintro r w5 ⟨hb, m, f, v, rfl, hfm, hl2, hor2⟩
      have HX5 := hide (HX4.out.below hb HX4.out.lt)
      have HY5 := hide (HY4.out.below hb HY4.out.lt)
      have HB5 := hide (HB4.out.trans (hb.mono HB4.out.size))
      clear x0 x1 x2 y0 y1 y2
      have x0 := HX5.out.cell 0; have x1 := HX5.out.cell 1; have x2 := HX5.out.cell 2
      have y0 := HY5.out.cell 0; have y1 := HY5.out.cell 1; have y2 := HY5.out.cell 2
      simp only [List.getElem?_toArray, List.getElem?_cons_succ, List.getElem?_cons_zero] at x0 x1 x2 y0 y1 y2
      have HB45 := hide hb
      obtain ⟨p2, c2, rfl, _, hr2⟩ := hfm
      have HR2 := hide hr2
      clear hb hr2 HU
      have hu := unify_any b a (P := fun x => x < w.heap.size) (w := w5) (pk := pb) (qk := pa) (ck := cb) (dk := ca) (fun x hx => Nat.lt_of_lt_of_le hx HB5.out.size) (HTB.out w5 HB5.out) (HTA.out w5 HB5.out)
      have HU := hide hu
      clear hu
      unfold cs3 at HU
      go_wp2_with fail
      refine HU.out.mono ?_
      rintro r w6 ⟨hb, n, g, p3, c3, rfl, _, hr3, hl3, hor3⟩
      have HX6 := hide (HX5.out.below hb HX5.out.lt)
      have HY6 := hide (HY5.out.below hb HY5.out.lt)
      have HB6 := hide (HB5.out.trans (hb.mono HB5.out.size))
      have HB56 := hide hb
      have HR3 : Hid (RM 4 (fun x => x < w6.heap.size) w6 (FaIn (fun x => x < w6.heap.size) w6) p3 n) := hide (RM.keep (KP.refl _ _) (fun x hx => hx.2) (fun t ds h => FaIn.keep (KP.refl _ _) (fun x hx => hx.2) t ds h) hr3)
      clear hb hr3 HU x0 x1 x2 y0 y1 y2
      obtain ⟨rfl, rfl, rfl, rfl⟩ := unis_eq hor1 hor2 hor3
      have HB46 := hide (HB45.out.trans (HB56.out.mono HB45.out.size))
      have hf1 := facts_any l l (P := fun x => x < w6.heap.size) (w := w6) (pl := p1) (pm := p2) (cl := c1) (cm := c2) (fun x hx => hx) (RM.keep (KP.of_below HB46.out fun x hx => hx) (fun x hx => Nat.lt_of_lt_of_le hx HB46.out.size) (fun t ds h => FaIn.keep (KP.of_below HB46.out fun x hx => hx) (fun x hx => Nat.lt_of_lt_of_le hx HB46.out.size) t ds h) HR1.out) (RM.keep (KP.of_below HB56.out fun x hx => hx) (fun x hx => Nat.lt_of_lt_of_le hx HB56.out.size) (fun t ds h => FaIn.keep (KP.of_below HB56.out fun x hx => hx) (fun x hx => Nat.lt_of_lt_of_le hx HB56.out.size) t ds h) HR2.out) (by omega)
      have HF1 := hide hf1
      clear hf1 hor1 hor2 hor3
      have hee : (e == e) = true := by simp
      go_wp2_with fail
      refine HF1.out.mono ?_
      rintro r w7 ⟨hyes, _, hb⟩
      obtain rfl := hyes (by trivial)
      have HB7 := hide (HB6.out.trans (hb.mono HB6.out.size))
      have HB67 := hide hb
      clear hyes hb HF1
      have HB47 := hide (HB46.out.trans (HB67.out.mono HB46.out.size))
      have hf2 := facts_any l l (P := fun x => x < w7.heap.size) (w := w7) (pl := p1) (pm := p3) (cl := c1) (cm := c3) (fun x hx => hx) (RM.keep (KP.of_below HB47.out fun x hx => hx) (fun x hx => Nat.lt_of_lt_of_le hx HB47.out.size) (fun t ds h => FaIn.keep (KP.of_below HB47.out fun x hx => hx) (fun x hx => Nat.lt_of_lt_of_le hx HB47.out.size) t ds h) HR1.out) (RM.keep (KP.of_below HB67.out fun x hx => hx) (fun x hx => Nat.lt_of_lt_of_le hx HB67.out.size) (fun t ds h => FaIn.keep (KP.of_below HB67.out fun x hx => hx) (fun x hx => Nat.lt_of_lt_of_le hx HB67.out.size) t ds h) HR3.out) (by omega)
      have HF2 := hide hf2
      clear hf2
      go_wp2_with fail
      refine HF2.out.mono ?_
      rintro r w8 ⟨hyes, _, hb⟩
      obtain rfl := hyes (by trivial)
      have HB8 := hide (HB7.out.trans (hb.mono HB7.out.size))
      clear hyes hb HF2
      go_wp2_with fail
      go_ret
      exact ⟨rfl, HB8.out⟩
end Go.Proofs.YteoflpalmckikaaDoor
