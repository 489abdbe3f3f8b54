/-
  THE WALK OF TyLeast.
-/
import Derived.Test.YteoflpalmckikaaDoorAwakeP
import Derived.Test.YteoflpalmckikaaDoorFactsP
namespace Go.Proofs.YteoflpalmckikaaDoor
open Go.RowKit
set_option linter.unusedVariables false
set_option linter.unusedSimpArgs false
set_option maxHeartbeats 16000000 in
set_option maxRecDepth 100000 in
theorem least_walk (a b : Ty) (sm : List (Int × Ty)) {w : World} {pa pb ps : Option Addr} {ca cb cs : Nat} (hG : GT w) (hA : TyIn (fun x => x < w.heap.size) w a [.string (S a.nm), .int .i64 a.n, .slice pa a.ar.length ca]) (hB : TyIn (fun x => x < w.heap.size) w b [.string (S b.nm), .int .i64 b.n, .slice pb b.ar.length cb]) (hS : RM 4 (fun x => x < w.heap.size) w (FaIn (fun x => x < w.heap.size) w) ps sm) (hsl : sm.length ≤ 9223372036854775807) :
    Calls Tryd.prog 7 #[.agg (cs3 a pa ca), .agg (cs3 b pb cb), .slice ps sm.length cs] w fun r w' => r = .returned (.bool true) ∧ Below w.heap.size w w' := by
  have HTA : Hid (∀ W, Below w.heap.size w W → TyIn (fun x => x < w.heap.size) W a [.string (S a.nm), .int .i64 a.n, .slice pa a.ar.length ca]) := hide fun W hb => TyIn.keep (KP.of_below hb fun x hx => hx) (fun x hx => hx) _ _ hA
  have HTB : Hid (∀ W, Below w.heap.size w W → TyIn (fun x => x < w.heap.size) W b [.string (S b.nm), .int .i64 b.n, .slice pb b.ar.length cb]) := hide fun W hb => TyIn.keep (KP.of_below hb fun x hx => hx) (fun x hx => hx) _ _ hB
  have hX : Hold w.heap.size #[.string (S a.nm), .int .i64 a.n, .slice pa a.ar.length ca] 24 ((w.alloc (.cells #[.string (S a.nm), .int .i64 a.n, .slice pa a.ar.length ca] 24)).alloc (.cells #[.string (S b.nm), .int .i64 b.n, .slice pb b.ar.length cb] 24)) := (Hold.new w _ 24).alloc _
  have hY : Hold (w.heap.size + 1) #[.string (S b.nm), .int .i64 b.n, .slice pb b.ar.length cb] 24 ((w.alloc (.cells #[.string (S a.nm), .int .i64 a.n, .slice pa a.ar.length ca] 24)).alloc (.cells #[.string (S b.nm), .int .i64 b.n, .slice pb b.ar.length cb] 24)) := by have := Hold.new (w.alloc (.cells #[.string (S a.nm), .int .i64 a.n, .slice pa a.ar.length ca] 24)) #[.string (S b.nm), .int .i64 b.n, .slice pb b.ar.length cb] 24; simpa using this
  have hb0 : Below w.heap.size w ((w.alloc (.cells #[.string (S a.nm), .int .i64 a.n, .slice pa a.ar.length ca] 24)).alloc (.cells #[.string (S b.nm), .int .i64 b.n, .slice pb b.ar.length cb] 24)) := ((Below.refl _ w).alloc (Nat.le_refl _) _).alloc (by simp) _
  have HG0 := hide (hG.below hb0)
  have HX0 := hide hX; have HY0 := hide hY; have HB0 := hide hb0; have HSM := hide hS
  clear hX hY hb0 hG hA hB hS
  unfold cs3
  generalize hnk : sm.length = nk at *
  have HNK := hide hnk
  clear hnk
  go_enter Tryd.func7, Tryd.ntmps7
  go_upto_region 1 with fail
  generalize ((w.alloc (.cells #[.string (S a.nm), .int .i64 a.n, .slice pa a.ar.length ca] 24)).alloc (.cells #[.string (S b.nm), .int .i64 b.n, .slice pb b.ar.length cb] 24)) = w0 at *
  have x0 := HX0.out.cell 0; have x1 := HX0.out.cell 1; have x2 := HX0.out.cell 2
  have y0 := HY0.out.cell 0; have y1 := HY0.out.cell 1; have y2 := HY0.out.cell 2
  simp only [List.getElem?_toArray, List.getElem?_cons_succ, List.getElem?_cons_zero] at x0 x1 x2 y0 y1 y2
  go_wp2_with fail
  refine (awake_any HG0.out).mono ?_
  rintro r w1 ⟨rfl, hb⟩
  have hbs := hb
  have HX1 := hide (HX0.out.below hbs HX0.out.lt)
  have HY1 := hide (HY0.out.below hbs HY0.out.lt)
  have HB1 := hide (HB0.out.trans (hbs.mono HB0.out.size))
  have hs1 := HB1.out.size
  clear hbs
  clear x0 x1 x2 y0 y1 y2
  have x0 := HX1.out.cell 0; have x1 := HX1.out.cell 1; have x2 := HX1.out.cell 2
  have y0 := HY1.out.cell 0; have y1 := HY1.out.cell 1; have y2 := HY1.out.cell 2
  simp only [List.getElem?_toArray, List.getElem?_cons_succ, List.getElem?_cons_zero] at x0 x1 x2 y0 y1 y2
  clear hb
  have hfw := few_any a (P := fun x => x < w.heap.size) (w := w1) (pk := pa) (ck := ca) (fun x hx => Nat.lt_of_lt_of_le hx HB1.out.size) (HTA.out w1 HB1.out)
  have HFW := hide hfw
  clear hfw
  cases hfewa : fewM a with
  | false =>
    rw [hfewa] at HFW
    unfold cs3 at HFW
    go_wp2_with fail
    refine HFW.out.mono ?_
    rintro r w2 ⟨rfl, hb⟩
    go_wp2_with fail
    go_ret
    exact ⟨rfl, HB1.out.trans (hb.mono HB1.out.size)⟩
  | true =>
    rw [hfewa] at HFW
    unfold cs3 at HFW
    go_wp2_with fail
    refine HFW.out.mono ?_
    rintro r w2 ⟨rfl, hb⟩
    have hbs := hb
    have HX2 := hide (HX1.out.below hbs HX1.out.lt)
    have HY2 := hide (HY1.out.below hbs HY1.out.lt)
    have HB2 := hide (HB1.out.trans (hbs.mono HB1.out.size))
    have hs2 := HB2.out.size
    clear hbs
    clear x0 x1 x2 y0 y1 y2
    have x0 := HX2.out.cell 0; have x1 := HX2.out.cell 1; have x2 := HX2.out.cell 2
    have y0 := HY2.out.cell 0; have y1 := HY2.out.cell 1; have y2 := HY2.out.cell 2
    simp only [List.getElem?_toArray, List.getElem?_cons_succ, List.getElem?_cons_zero] at x0 x1 x2 y0 y1 y2
    clear hb HFW
    have hfw := few_any b (P := fun x => x < w.heap.size) (w := w2) (pk := pb) (ck := cb) (fun x hx => Nat.lt_of_lt_of_le hx HB2.out.size) (HTB.out w2 HB2.out)
    have HFW := hide hfw
    clear hfw
    cases hfewb : fewM b with
    | false =>
      rw [hfewb] at HFW
      unfold cs3 at HFW
      go_wp2_with fail
      refine HFW.out.mono ?_
      rintro r w3 ⟨rfl, hb⟩
      go_wp2_with fail
      go_ret
      exact ⟨rfl, HB2.out.trans (hb.mono HB2.out.size)⟩
    | true =>
      rw [hfewb] at HFW
      unfold cs3 at HFW
      go_wp2_with fail
      refine HFW.out.mono ?_
      rintro r w3 ⟨rfl, hb⟩
      have hbs := hb
      have HX3 := hide (HX2.out.below hbs HX2.out.lt)
      have HY3 := hide (HY2.out.below hbs HY2.out.lt)
      have HB3 := hide (HB2.out.trans (hbs.mono HB2.out.size))
      have hs3 := HB3.out.size
      clear hbs
      clear x0 x1 x2 y0 y1 y2
      have x0 := HX3.out.cell 0; have x1 := HX3.out.cell 1; have x2 := HX3.out.cell 2
      have y0 := HY3.out.cell 0; have y1 := HY3.out.cell 1; have y2 := HY3.out.cell 2
      simp only [List.getElem?_toArray, List.getElem?_cons_succ, List.getElem?_cons_zero] at x0 x1 x2 y0 y1 y2
      clear hb HFW
      by_cases h20 : (20 : Int) < nk
      · go_wp2_with fail
        go_ret
        exact ⟨rfl, HB3.out⟩
      · go_wp2_with fail
        go_loopg [8] nk (fun k s8 wr => ∃ i : Nat, i ≤ nk ∧ k = nk - i ∧ s8 = .int .i64 i ∧ (∀ f ∈ sm.take i, 0 ≤ f.1 ∧ chk f.2 = true) ∧ Below w3.heap.size w3 wr)
        case atStart => exact ⟨0, Nat.zero_le _, by omega, rfl, by simp, Below.refl _ w3⟩
        case round =>
          obtain ⟨i, hi1, rfl, rfl, hal, hbr⟩ := hrel
          have HAL := hide hal; have HBR := hide hbr
          have HB4 : Hid (Below w.heap.size w wr) := hide (HB3.out.trans (hbr.mono HB3.out.size))
          have HX4 := hide (HX3.out.below hbr HX3.out.lt)
          have HY4 := hide (HY3.out.below hbr HY3.out.lt)
          have hs4 := hbr.size
          clear hal hbr
          by_cases hlt : i < nk
          · have hil : i < sm.length := by rw [HNK.out]; exact hlt
            obtain ⟨b1, o1, q1, d1, rfl, hp1, _, hin1, a0, a1, a2, a3⟩ := fm_at HSM.out hil
            have htk : sm.take (i + 1) = sm.take i ++ [sm[i]] := List.take_succ_eq_append_getElem hil
            have hcl : ∀ (W : World), Below w.heap.size w W → ∀ x, W.cell? ⟨b1, x, none⟩ = w.cell? ⟨b1, x, none⟩ := fun W hb x => hb.cell (p := ⟨b1, x, none⟩) hp1
            generalize sm[i] = f at *
            have hii : (i : Int) < nk := by omega
            have HCL := hide hcl; have HIN := hide hin1; have HTK := hide htk
            have HA0 := hide a0; have HA1 := hide a1; have HA2 := hide a2; have HA3 := hide a3
            have hfw := few_any f.2 (P := fun x => x < w.heap.size) (w := wr) (pk := q1) (ck := d1) (fun x hx => Nat.lt_of_lt_of_le hx HB4.out.size) (TyIn.keep (KP.of_below HB4.out fun x hx => hx) (fun x hx => hx) _ _ hin1)
            have c1 : wr.cell? ⟨b1, o1 + i * 4 + 1, none⟩ = some (.string (S f.2.nm)) := (hcl wr HB4.out _).trans a1
            have c2 : wr.cell? ⟨b1, o1 + i * 4 + 1 + 1, none⟩ = some (.int .i64 f.2.n) := (hcl wr HB4.out _).trans a2
            have c3 : wr.cell? ⟨b1, o1 + i * 4 + 1 + 2, none⟩ = some (.slice q1 f.2.ar.length d1) := (hcl wr HB4.out _).trans a3
            have HFW := hide hfw
            clear hfw a0 a1 a2 a3 hcl hin1 htk
            cases hff : fewM f.2 with
            | false =>
              rw [hff] at HFW
              unfold cs3 at HFW
              go_wp2_with fail
              refine HFW.out.mono ?_
              rintro r w5 ⟨rfl, hb⟩
              go_wp2_with fail
              go_ret
              exact ⟨rfl, HB4.out.trans (hb.mono HB4.out.size)⟩
            | true =>
              rw [hff] at HFW
              unfold cs3 at HFW
              go_wp2_with fail
              refine HFW.out.mono ?_
              rintro r w5 ⟨rfl, hb⟩
              have HB5 : Hid (Below w.heap.size w w5) := hide (HB4.out.trans (hb.mono HB4.out.size))
              have HW35 : Hid (Below w3.heap.size w3 w5) := hide (HBR.out.trans (hb.mono HBR.out.size))
              clear c1 c2 c3 hb HFW
              have c1 : w5.cell? ⟨b1, o1 + i * 4 + 1, none⟩ = some (.string (S f.2.nm)) := (HCL.out w5 HB5.out _).trans HA1.out
              have c2 : w5.cell? ⟨b1, o1 + i * 4 + 1 + 1, none⟩ = some (.int .i64 f.2.n) := (HCL.out w5 HB5.out _).trans HA2.out
              have c3 : w5.cell? ⟨b1, o1 + i * 4 + 1 + 2, none⟩ = some (.slice q1 f.2.ar.length d1) := (HCL.out w5 HB5.out _).trans HA3.out
              have hck := check_any f.2 (P := fun x => x < w.heap.size) (w := w5) (pk := q1) (ck := d1) (fun x hx => Nat.lt_of_lt_of_le hx HB5.out.size) (TyIn.keep (KP.of_below HB5.out fun x hx => hx) (fun x hx => hx) _ _ HIN.out)
              have HCK := hide hck
              clear hck
              cases hcf : chk f.2 with
              | false =>
                rw [hcf] at HCK
                unfold cs3 at HCK
                go_wp2_with fail
                refine HCK.out.mono ?_
                rintro r w6 ⟨rfl, hb⟩
                go_wp2_with fail
                go_ret
                exact ⟨rfl, HB5.out.trans (hb.mono HB5.out.size)⟩
              | true =>
                rw [hcf] at HCK
                unfold cs3 at HCK
                go_wp2_with fail
                refine HCK.out.mono ?_
                rintro r w6 ⟨rfl, hb⟩
                have HB6 : Hid (Below w.heap.size w w6) := hide (HB5.out.trans (hb.mono HB5.out.size))
                have HW36 : Hid (Below w3.heap.size w3 w6) := hide (HW35.out.trans (hb.mono HW35.out.size))
                clear c1 c2 c3 hb HCK
                have c0 : w6.cell? ⟨b1, o1 + i * 4, none⟩ = some (.int .i64 f.1) := (HCL.out w6 HB6.out _).trans HA0.out
                have HCF := hide hcf
                by_cases hneg : f.1 < 0
                · go_wp2_with fail
                  go_ret
                  exact ⟨rfl, HB6.out⟩
                · have hal2 : ∀ g ∈ sm.take (i + 1), 0 ≤ g.1 ∧ chk g.2 = true := fun g hg => by
                    rw [HTK.out] at hg
                    rcases List.mem_append.1 hg with h | h
                    · exact HAL.out g h
                    · obtain rfl := List.mem_singleton.1 h
                      exact ⟨by omega, HCF.out⟩
                  have HAL2 := hide hal2
                  clear hal2
                  go_wp2_with fail
                  go_roundg (nk - (i + 1))
                  case measure => omega
                  case rel => exact ⟨i + 1, by omega, rfl, by go_num, HAL2.out, HW36.out⟩
          · have hii : ¬ (i : Int) < nk := by omega
            have hfull : sm.take i = sm := List.take_of_length_le (by rw [HNK.out]; omega)
            have hall := HAL.out
            rw [hfull] at hall
            have HALL := hide hall
            clear hall hfull
            go_upto_region 9 with fail
            fail "R9"
end Go.Proofs.YteoflpalmckikaaDoor
