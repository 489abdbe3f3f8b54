/-
  THE WALK OF TyLeast.
-/
import Derived.Test.YteoflpalmckikaaDoorAwakeP
import Derived.Test.YteoflpalmckikaaDoorFactsP
namespace Go.Proofs.YteoflpalmckikaaDoor
open Go.RowKit
set_option linter.unusedVariables false
set_option linter.unusedSimpArgs false
theorem Hold.c3 {b : Nat} {x y z : Value} {t : TypeId} {W : World} (h : Hold b #[x, y, z] t W) : W.cell? ⟨b, 0, none⟩ = some x ∧ W.cell? ⟨b, 1, none⟩ = some y ∧ W.cell? ⟨b, 2, none⟩ = some z := ⟨h.cell 0, h.cell 1, h.cell 2⟩
/-- The boxes of the two types. -/
def LeS (n : Nat) (a b : Ty) (pa pb : Option Addr) (ca cb : Nat) (W : World) : Prop := Hold n #[.string (S a.nm), .int .i64 a.n, .slice pa a.ar.length ca] 24 W ∧ Hold (n + 1) #[.string (S b.nm), .int .i64 b.n, .slice pb b.ar.length cb] 24 W
theorem LeS.below {n : Nat} {a b : Ty} {pa pb : Option Addr} {ca cb : Nat} {W W' : World} (h : LeS n a b pa pb ca cb W) (k : Below W.heap.size W W') : LeS n a b pa pb ca cb W' := ⟨h.1.below k h.1.lt, h.2.below k h.2.lt⟩
set_option maxHeartbeats 16000000 in
set_option maxRecDepth 100000 in
theorem least_walk (a b : Ty) (sm : List (Int × Ty)) {w : World} {pa pb ps : Option Addr} {ca cb cs : Nat} (hG : GT w) (hA : TyIn (fun x => x < w.heap.size) w a [.string (S a.nm), .int .i64 a.n, .slice pa a.ar.length ca]) (hB : TyIn (fun x => x < w.heap.size) w b [.string (S b.nm), .int .i64 b.n, .slice pb b.ar.length cb]) (hS : RM 4 (fun x => x < w.heap.size) w (FaIn (fun x => x < w.heap.size) w) ps sm) (hsl : sm.length ≤ 9223372036854775807) :
    Calls Tryd.prog 7 #[.agg (cs3 a pa ca), .agg (cs3 b pb cb), .slice ps sm.length cs] w fun r w' => r = .returned (.bool true) ∧ Below w.heap.size w w' := by
  have HTA : Hid (∀ W, Below w.heap.size w W → TyIn (fun x => x < w.heap.size) W a [.string (S a.nm), .int .i64 a.n, .slice pa a.ar.length ca]) := hide fun W hb => TyIn.keep (KP.of_below hb fun x hx => hx) (fun x hx => hx) _ _ hA
  have HTB : Hid (∀ W, Below w.heap.size w W → TyIn (fun x => x < w.heap.size) W b [.string (S b.nm), .int .i64 b.n, .slice pb b.ar.length cb]) := hide fun W hb => TyIn.keep (KP.of_below hb fun x hx => hx) (fun x hx => hx) _ _ hB
  have hX : Hold w.heap.size #[.string (S a.nm), .int .i64 a.n, .slice pa a.ar.length ca] 24 ((w.alloc (.cells #[.string (S a.nm), .int .i64 a.n, .slice pa a.ar.length ca] 24)).alloc (.cells #[.string (S b.nm), .int .i64 b.n, .slice pb b.ar.length cb] 24)) := (Hold.new w _ 24).alloc _
  have hY : Hold (w.heap.size + 1) #[.string (S b.nm), .int .i64 b.n, .slice pb b.ar.length cb] 24 ((w.alloc (.cells #[.string (S a.nm), .int .i64 a.n, .slice pa a.ar.length ca] 24)).alloc (.cells #[.string (S b.nm), .int .i64 b.n, .slice pb b.ar.length cb] 24)) := by have := Hold.new (w.alloc (.cells #[.string (S a.nm), .int .i64 a.n, .slice pa a.ar.length ca] 24)) #[.string (S b.nm), .int .i64 b.n, .slice pb b.ar.length cb] 24; simpa using this
  have hb0 : Below w.heap.size w ((w.alloc (.cells #[.string (S a.nm), .int .i64 a.n, .slice pa a.ar.length ca] 24)).alloc (.cells #[.string (S b.nm), .int .i64 b.n, .slice pb b.ar.length cb] 24)) := ((Below.refl _ w).alloc (Nat.le_refl _) _).alloc (by simp) _
  have HG0 := hide (hG.below hb0)
  have HX0 := hide hX; have HY0 := hide hY; have HB0 := hide hb0; have HSM := hide hS
  clear hX hY hb0 hG hA hB hS
  unfold cs3
  generalize hnk : sm.length = nk at *
  have HNK := hide hnk
  clear hnk
  go_enter Tryd.func7, Tryd.ntmps7
  go_upto_region 1 with fail
  generalize ((w.alloc (.cells #[.string (S a.nm), .int .i64 a.n, .slice pa a.ar.length ca] 24)).alloc (.cells #[.string (S b.nm), .int .i64 b.n, .slice pb b.ar.length cb] 24)) = w0 at *
  have x0 := HX0.out.cell 0; have x1 := HX0.out.cell 1; have x2 := HX0.out.cell 2
  have y0 := HY0.out.cell 0; have y1 := HY0.out.cell 1; have y2 := HY0.out.cell 2
  simp only [List.getElem?_toArray, List.getElem?_cons_succ, List.getElem?_cons_zero] at x0 x1 x2 y0 y1 y2
  go_wp2_with fail
  refine (awake_any HG0.out).mono ?_
  rintro r w1 ⟨rfl, hb⟩
  have hbs := hb
  have HX1 := hide (HX0.out.below hbs HX0.out.lt)
  have HY1 := hide (HY0.out.below hbs HY0.out.lt)
  have HB1 := hide (HB0.out.trans (hbs.mono HB0.out.size))
  have hs1 := HB1.out.size
  clear hbs
  clear x0 x1 x2 y0 y1 y2
  have x0 := HX1.out.cell 0; have x1 := HX1.out.cell 1; have x2 := HX1.out.cell 2
  have y0 := HY1.out.cell 0; have y1 := HY1.out.cell 1; have y2 := HY1.out.cell 2
  simp only [List.getElem?_toArray, List.getElem?_cons_succ, List.getElem?_cons_zero] at x0 x1 x2 y0 y1 y2
  clear hb
  have hfw := few_any a (P := fun x => x < w.heap.size) (w := w1) (pk := pa) (ck := ca) (fun x hx => Nat.lt_of_lt_of_le hx HB1.out.size) (HTA.out w1 HB1.out)
  have HFW := hide hfw
  clear hfw
  cases hfewa : fewM a with
  | false =>
    rw [hfewa] at HFW
    unfold cs3 at HFW
    go_wp2_with fail
    refine HFW.out.mono ?_
    rintro r w2 ⟨rfl, hb⟩
    go_wp2_with fail
    go_ret
    exact ⟨rfl, HB1.out.trans (hb.mono HB1.out.size)⟩
  | true =>
    rw [hfewa] at HFW
    unfold cs3 at HFW
    go_wp2_with fail
    refine HFW.out.mono ?_
    rintro r w2 ⟨rfl, hb⟩
    have hbs := hb
    have HX2 := hide (HX1.out.below hbs HX1.out.lt)
    have HY2 := hide (HY1.out.below hbs HY1.out.lt)
    have HB2 := hide (HB1.out.trans (hbs.mono HB1.out.size))
    have hs2 := HB2.out.size
    clear hbs
    clear x0 x1 x2 y0 y1 y2
    have x0 := HX2.out.cell 0; have x1 := HX2.out.cell 1; have x2 := HX2.out.cell 2
    have y0 := HY2.out.cell 0; have y1 := HY2.out.cell 1; have y2 := HY2.out.cell 2
    simp only [List.getElem?_toArray, List.getElem?_cons_succ, List.getElem?_cons_zero] at x0 x1 x2 y0 y1 y2
    clear hb HFW
    have hfw := few_any b (P := fun x => x < w.heap.size) (w := w2) (pk := pb) (ck := cb) (fun x hx => Nat.lt_of_lt_of_le hx HB2.out.size) (HTB.out w2 HB2.out)
    have HFW := hide hfw
    clear hfw
    cases hfewb : fewM b with
    | false =>
      rw [hfewb] at HFW
      unfold cs3 at HFW
      go_wp2_with fail
      refine HFW.out.mono ?_
      rintro r w3 ⟨rfl, hb⟩
      go_wp2_with fail
      go_ret
      exact ⟨rfl, HB2.out.trans (hb.mono HB2.out.size)⟩
    | true =>
      rw [hfewb] at HFW
      unfold cs3 at HFW
      go_wp2_with fail
      refine HFW.out.mono ?_
      rintro r w3 ⟨rfl, hb⟩
      have hbs := hb
      have HX3 := hide (HX2.out.below hbs HX2.out.lt)
      have HY3 := hide (HY2.out.below hbs HY2.out.lt)
      have HB3 := hide (HB2.out.trans (hbs.mono HB2.out.size))
      have hs3 := HB3.out.size
      clear hbs
      clear x0 x1 x2 y0 y1 y2
      have x0 := HX3.out.cell 0; have x1 := HX3.out.cell 1; have x2 := HX3.out.cell 2
      have y0 := HY3.out.cell 0; have y1 := HY3.out.cell 1; have y2 := HY3.out.cell 2
      simp only [List.getElem?_toArray, List.getElem?_cons_succ, List.getElem?_cons_zero] at x0 x1 x2 y0 y1 y2
      clear hb HFW
      by_cases h20 : (20 : Int) < nk
      · go_wp2_with fail
        go_ret
        exact ⟨rfl, HB3.out⟩
      · go_wp2_with fail
        go_loopg [8] nk (fun k s8 wr => ∃ i : Nat, i ≤ nk ∧ k = nk - i ∧ s8 = .int .i64 i ∧ (∀ f ∈ sm.take i, 0 ≤ f.1 ∧ chk f.2 = true) ∧ Below w3.heap.size w3 wr)
        case atStart => exact ⟨0, Nat.zero_le _, by omega, rfl, by simp, Below.refl _ w3⟩
        case round =>
          obtain ⟨i, hi1, rfl, rfl, hal, hbr⟩ := hrel
          have HAL := hide hal; have HBR := hide hbr
          have HB4 : Hid (Below w.heap.size w wr) := hide (HB3.out.trans (hbr.mono HB3.out.size))
          have HX4 := hide (HX3.out.below hbr HX3.out.lt)
          have HY4 := hide (HY3.out.below hbr HY3.out.lt)
          have hs4 := hbr.size
          clear hal hbr
          by_cases hlt : i < nk
          · have hil : i < sm.length := by rw [HNK.out]; exact hlt
            obtain ⟨b1, o1, q1, d1, rfl, hp1, _, hin1, a0, a1, a2, a3⟩ := fm_at HSM.out hil
            have htk : sm.take (i + 1) = sm.take i ++ [sm[i]] := List.take_succ_eq_append_getElem hil
            have hcl : ∀ (W : World), Below w.heap.size w W → ∀ x, W.cell? ⟨b1, x, none⟩ = w.cell? ⟨b1, x, none⟩ := fun W hb x => hb.cell (p := ⟨b1, x, none⟩) hp1
            generalize sm[i] = f at *
            have hii : (i : Int) < nk := by omega
            have HCL := hide hcl; have HIN := hide hin1; have HTK := hide htk
            have HA0 := hide a0; have HA1 := hide a1; have HA2 := hide a2; have HA3 := hide a3
            have hfw := few_any f.2 (P := fun x => x < w.heap.size) (w := wr) (pk := q1) (ck := d1) (fun x hx => Nat.lt_of_lt_of_le hx HB4.out.size) (TyIn.keep (KP.of_below HB4.out fun x hx => hx) (fun x hx => hx) _ _ hin1)
            have c1 : wr.cell? ⟨b1, o1 + i * 4 + 1, none⟩ = some (.string (S f.2.nm)) := (hcl wr HB4.out _).trans a1
            have c2 : wr.cell? ⟨b1, o1 + i * 4 + 1 + 1, none⟩ = some (.int .i64 f.2.n) := (hcl wr HB4.out _).trans a2
            have c3 : wr.cell? ⟨b1, o1 + i * 4 + 1 + 2, none⟩ = some (.slice q1 f.2.ar.length d1) := (hcl wr HB4.out _).trans a3
            have HFW := hide hfw
            clear hfw a0 a1 a2 a3 hcl hin1 htk
            cases hff : fewM f.2 with
            | false =>
              rw [hff] at HFW
              unfold cs3 at HFW
              go_wp2_with fail
              refine HFW.out.mono ?_
              rintro r w5 ⟨rfl, hb⟩
              go_wp2_with fail
              go_ret
              exact ⟨rfl, HB4.out.trans (hb.mono HB4.out.size)⟩
            | true =>
              rw [hff] at HFW
              unfold cs3 at HFW
              go_wp2_with fail
              refine HFW.out.mono ?_
              rintro r w5 ⟨rfl, hb⟩
              have HB5 : Hid (Below w.heap.size w w5) := hide (HB4.out.trans (hb.mono HB4.out.size))
              have HW35 : Hid (Below w3.heap.size w3 w5) := hide (HBR.out.trans (hb.mono HBR.out.size))
              clear c1 c2 c3 hb HFW
              have c1 : w5.cell? ⟨b1, o1 + i * 4 + 1, none⟩ = some (.string (S f.2.nm)) := (HCL.out w5 HB5.out _).trans HA1.out
              have c2 : w5.cell? ⟨b1, o1 + i * 4 + 1 + 1, none⟩ = some (.int .i64 f.2.n) := (HCL.out w5 HB5.out _).trans HA2.out
              have c3 : w5.cell? ⟨b1, o1 + i * 4 + 1 + 2, none⟩ = some (.slice q1 f.2.ar.length d1) := (HCL.out w5 HB5.out _).trans HA3.out
              have hck := check_any f.2 (P := fun x => x < w.heap.size) (w := w5) (pk := q1) (ck := d1) (fun x hx => Nat.lt_of_lt_of_le hx HB5.out.size) (TyIn.keep (KP.of_below HB5.out fun x hx => hx) (fun x hx => hx) _ _ HIN.out)
              have HCK := hide hck
              clear hck
              cases hcf : chk f.2 with
              | false =>
                rw [hcf] at HCK
                unfold cs3 at HCK
                go_wp2_with fail
                refine HCK.out.mono ?_
                rintro r w6 ⟨rfl, hb⟩
                go_wp2_with fail
                go_ret
                exact ⟨rfl, HB5.out.trans (hb.mono HB5.out.size)⟩
              | true =>
                rw [hcf] at HCK
                unfold cs3 at HCK
                go_wp2_with fail
                refine HCK.out.mono ?_
                rintro r w6 ⟨rfl, hb⟩
                have HB6 : Hid (Below w.heap.size w w6) := hide (HB5.out.trans (hb.mono HB5.out.size))
                have HW36 : Hid (Below w3.heap.size w3 w6) := hide (HW35.out.trans (hb.mono HW35.out.size))
                clear c1 c2 c3 hb HCK
                have c0 : w6.cell? ⟨b1, o1 + i * 4, none⟩ = some (.int .i64 f.1) := (HCL.out w6 HB6.out _).trans HA0.out
                have HCF := hide hcf
                by_cases hneg : f.1 < 0
                · go_wp2_with fail
                  go_ret
                  exact ⟨rfl, HB6.out⟩
                · have hal2 : ∀ g ∈ sm.take (i + 1), 0 ≤ g.1 ∧ chk g.2 = true := fun g hg => by
                    rw [HTK.out] at hg
                    rcases List.mem_append.1 hg with h | h
                    · exact HAL.out g h
                    · obtain rfl := List.mem_singleton.1 h
                      exact ⟨by omega, HCF.out⟩
                  have HAL2 := hide hal2
                  clear hal2
                  go_wp2_with fail
                  go_roundg (nk - (i + 1))
                  case measure => omega
                  case rel => exact ⟨i + 1, by omega, rfl, by go_num, HAL2.out, HW36.out⟩
          · have hii : ¬ (i : Int) < nk := by omega
            have hfull : sm.take i = sm := List.take_of_length_le (by rw [HNK.out]; omega)
            have hall := HAL.out
            rw [hfull] at hall
            have HALL := hide hall
            clear hall hfull
            go_upto_region 9 with fail
            have hBd : Below w.heap.size w wr.drew := HB4.out.trans ((below_drew wr).mono HB4.out.size)
            have hS0 : LeS w.heap.size a b pa pb ca cb wr.drew := ⟨HX4.out, HY4.out⟩
            refine region_J 18 (N := 18) (S := LeS w.heap.size a b pa pb ca cb) (by kernel_rfl) (by kernel_rfl) ?_
            generalize wr.drew = v0 at *
            have HV0 := hide hBd
            have hS := hS0
            clear hS0 hBd
            have hck := check_any a (P := fun x => x < w.heap.size) (w := v0) (pk := pa) (ck := ca) (fun x hx => Nat.lt_of_lt_of_le hx HV0.out.size) (HTA.out v0 HV0.out)
            have HCK := hide hck
            clear hck
            cases hca : chk a with
            | false =>
              rw [hca] at HCK
              unfold cs3 at HCK
              refine take_D (i := 0) 58 (.agg #[.string (S a.nm), .int .i64 a.n, .slice pa a.ar.length ca]) rfl rfl (by kernel_rfl) (by kernel_rfl) (by kernel_rfl) (by kernel_rfl) (fun _ _ _ h => h) (Or.inl ⟨by rfl, fun W' hW => by obtain ⟨x0, x1, x2⟩ := hW.1.c3; go_simp⟩) hS ?_
              simp only [Act.put, List.setIfInBounds_toArray, List.set_cons_zero, List.set_cons_succ]
              refine ready_J (rs := [1]) (by kernel_rfl) (by simp) ?_
              intro jj hjj
              obtain rfl := List.mem_singleton.1 hjj
              clear hjj
              refine op_W rfl (by rfl) fun K hK => ?_
              go_simp
              refine HCK.out.mono ?_
              rintro r v1 ⟨rfl, hb⟩
              have HV1 : Hid (Below w.heap.size w v1) := hide (HV0.out.trans (hb.mono HV0.out.size))
              have hS2 := hS.below hb
              clear hS
              have hS := hS2
              clear hS2
              refine hK _ _ ⟨fun _ => hS, ?_⟩
              clear hK K
              clear hb
              refine take_D (i := 2) 60 (.bool true) rfl rfl (by kernel_rfl) (by kernel_rfl) (by kernel_rfl) (by kernel_rfl) (fun _ _ _ h => h) (Or.inl ⟨by rfl, fun W' hW => by go_simp⟩) hS ?_
              simp only [Act.put, List.setIfInBounds_toArray, List.set_cons_zero, List.set_cons_succ]
              refine take_D (i := 3) 61 (.bool true) rfl rfl (by kernel_rfl) (by kernel_rfl) (by kernel_rfl) (by kernel_rfl) (fun _ _ _ h => h) (Or.inl ⟨by rfl, fun W' hW => by go_simp⟩) hS ?_
              simp only [Act.put, List.setIfInBounds_toArray, List.set_cons_zero, List.set_cons_succ]
              refine take_D (i := 4) 62 (undef) rfl rfl (by kernel_rfl) (by kernel_rfl) (by kernel_rfl) (by kernel_rfl) (fun _ _ _ h => h) (Or.inr ⟨by rfl, rfl⟩) hS ?_
              simp only [Act.put, List.setIfInBounds_toArray, List.set_cons_zero, List.set_cons_succ]
              refine take_D (i := 5) 63 (undef) rfl rfl (by kernel_rfl) (by kernel_rfl) (by kernel_rfl) (by kernel_rfl) (fun _ _ _ h => h) (Or.inr ⟨by rfl, rfl⟩) hS ?_
              simp only [Act.put, List.setIfInBounds_toArray, List.set_cons_zero, List.set_cons_succ]
              refine take_D (i := 6) 64 (undef) rfl rfl (by kernel_rfl) (by kernel_rfl) (by kernel_rfl) (by kernel_rfl) (fun _ _ _ h => h) (Or.inr ⟨by rfl, rfl⟩) hS ?_
              simp only [Act.put, List.setIfInBounds_toArray, List.set_cons_zero, List.set_cons_succ]
              refine take_D (i := 7) 65 (.bool true) rfl rfl (by kernel_rfl) (by kernel_rfl) (by kernel_rfl) (by kernel_rfl) (fun _ _ _ h => h) (Or.inl ⟨by rfl, fun W' hW => by go_simp⟩) hS ?_
              simp only [Act.put, List.setIfInBounds_toArray, List.set_cons_zero, List.set_cons_succ]
              refine take_D (i := 8) 66 (.bool true) rfl rfl (by kernel_rfl) (by kernel_rfl) (by kernel_rfl) (by kernel_rfl) (fun _ _ _ h => h) (Or.inl ⟨by rfl, fun W' hW => by go_simp⟩) hS ?_
              simp only [Act.put, List.setIfInBounds_toArray, List.set_cons_zero, List.set_cons_succ]
              refine take_D (i := 9) 67 (undef) rfl rfl (by kernel_rfl) (by kernel_rfl) (by kernel_rfl) (by kernel_rfl) (fun _ _ _ h => h) (Or.inr ⟨by rfl, rfl⟩) hS ?_
              simp only [Act.put, List.setIfInBounds_toArray, List.set_cons_zero, List.set_cons_succ]
              refine take_D (i := 10) 68 (undef) rfl rfl (by kernel_rfl) (by kernel_rfl) (by kernel_rfl) (by kernel_rfl) (fun _ _ _ h => h) (Or.inr ⟨by rfl, rfl⟩) hS ?_
              simp only [Act.put, List.setIfInBounds_toArray, List.set_cons_zero, List.set_cons_succ]
              refine take_D (i := 11) 69 (undef) rfl rfl (by kernel_rfl) (by kernel_rfl) (by kernel_rfl) (by kernel_rfl) (fun _ _ _ h => h) (Or.inr ⟨by rfl, rfl⟩) hS ?_
              simp only [Act.put, List.setIfInBounds_toArray, List.set_cons_zero, List.set_cons_succ]
              refine take_D (i := 12) 70 (undef) rfl rfl (by kernel_rfl) (by kernel_rfl) (by kernel_rfl) (by kernel_rfl) (fun _ _ _ h => h) (Or.inr ⟨by rfl, rfl⟩) hS ?_
              simp only [Act.put, List.setIfInBounds_toArray, List.set_cons_zero, List.set_cons_succ]
              refine take_D (i := 13) 71 (undef) rfl rfl (by kernel_rfl) (by kernel_rfl) (by kernel_rfl) (by kernel_rfl) (fun _ _ _ h => h) (Or.inr ⟨by rfl, rfl⟩) hS ?_
              simp only [Act.put, List.setIfInBounds_toArray, List.set_cons_zero, List.set_cons_succ]
              refine take_D (i := 14) 72 (undef) rfl rfl (by kernel_rfl) (by kernel_rfl) (by kernel_rfl) (by kernel_rfl) (fun _ _ _ h => h) (Or.inr ⟨by rfl, rfl⟩) hS ?_
              simp only [Act.put, List.setIfInBounds_toArray, List.set_cons_zero, List.set_cons_succ]
              refine take_D (i := 15) 73 (undef) rfl rfl (by kernel_rfl) (by kernel_rfl) (by kernel_rfl) (by kernel_rfl) (fun _ _ _ h => h) (Or.inr ⟨by rfl, rfl⟩) hS ?_
              simp only [Act.put, List.setIfInBounds_toArray, List.set_cons_zero, List.set_cons_succ]
              refine take_D (i := 16) 74 (undef) rfl rfl (by kernel_rfl) (by kernel_rfl) (by kernel_rfl) (by kernel_rfl) (fun _ _ _ h => h) (Or.inr ⟨by rfl, rfl⟩) hS ?_
              simp only [Act.put, List.setIfInBounds_toArray, List.set_cons_zero, List.set_cons_succ]
              refine take_D (i := 17) 75 (.bool true) rfl rfl (by kernel_rfl) (by kernel_rfl) (by kernel_rfl) (by kernel_rfl) (fun _ _ _ h => h) (Or.inl ⟨by rfl, fun W' hW => by go_simp⟩) hS ?_
              simp only [Act.put, List.setIfInBounds_toArray, List.set_cons_zero, List.set_cons_succ]
              refine done_J (by kernel_rfl) ?_ _
              have HSZ := hide hS
              clear hS
              go_wp2_with fail
              go_ret
              exact ⟨rfl, HV1.out⟩
            | true =>
              rw [hca] at HCK
              unfold cs3 at HCK
              refine take_D (i := 0) 58 (.agg #[.string (S a.nm), .int .i64 a.n, .slice pa a.ar.length ca]) rfl rfl (by kernel_rfl) (by kernel_rfl) (by kernel_rfl) (by kernel_rfl) (fun _ _ _ h => h) (Or.inl ⟨by rfl, fun W' hW => by obtain ⟨x0, x1, x2⟩ := hW.1.c3; go_simp⟩) hS ?_
              simp only [Act.put, List.setIfInBounds_toArray, List.set_cons_zero, List.set_cons_succ]
              refine ready_J (rs := [1]) (by kernel_rfl) (by simp) ?_
              intro jj hjj
              obtain rfl := List.mem_singleton.1 hjj
              clear hjj
              refine op_W rfl (by rfl) fun K hK => ?_
              go_simp
              refine HCK.out.mono ?_
              rintro r v1 ⟨rfl, hb⟩
              have HV1 : Hid (Below w.heap.size w v1) := hide (HV0.out.trans (hb.mono HV0.out.size))
              have hS2 := hS.below hb
              clear hS
              have hS := hS2
              clear hS2
              refine hK _ _ ⟨fun _ => hS, ?_⟩
              clear hK K
              clear hb HCK
              refine take_D (i := 2) 60 (.bool false) rfl rfl (by kernel_rfl) (by kernel_rfl) (by kernel_rfl) (by kernel_rfl) (fun _ _ _ h => h) (Or.inl ⟨by rfl, fun W' hW => by go_simp⟩) hS ?_
              simp only [Act.put, List.setIfInBounds_toArray, List.set_cons_zero, List.set_cons_succ]
              refine take_D (i := 3) 61 (.bool false) rfl rfl (by kernel_rfl) (by kernel_rfl) (by kernel_rfl) (by kernel_rfl) (fun _ _ _ h => h) (Or.inl ⟨by rfl, fun W' hW => by go_simp⟩) hS ?_
              simp only [Act.put, List.setIfInBounds_toArray, List.set_cons_zero, List.set_cons_succ]
              refine take_D (i := 4) 62 (.agg #[.string (S b.nm), .int .i64 b.n, .slice pb b.ar.length cb]) rfl rfl (by kernel_rfl) (by kernel_rfl) (by kernel_rfl) (by kernel_rfl) (fun _ _ _ h => h) (Or.inl ⟨by rfl, fun W' hW => by obtain ⟨y0, y1, y2⟩ := hW.2.c3; go_simp⟩) hS ?_
              simp only [Act.put, List.setIfInBounds_toArray, List.set_cons_zero, List.set_cons_succ]
              have hck := check_any b (P := fun x => x < w.heap.size) (w := v1) (pk := pb) (ck := cb) (fun x hx => Nat.lt_of_lt_of_le hx HV1.out.size) (HTB.out v1 HV1.out)
              have HCK := hide hck
              clear hck
              cases hcb : chk b with
              | false =>
                rw [hcb] at HCK
                unfold cs3 at HCK
                refine ready_J (rs := [5]) (by kernel_rfl) (by simp) ?_
                intro jj hjj
                obtain rfl := List.mem_singleton.1 hjj
                clear hjj
                refine op_W rfl (by rfl) fun K hK => ?_
                go_simp
                refine HCK.out.mono ?_
                rintro r v2 ⟨rfl, hb⟩
                have HV2 : Hid (Below w.heap.size w v2) := hide (HV1.out.trans (hb.mono HV1.out.size))
                have hS2 := hS.below hb
                clear hS
                have hS := hS2
                clear hS2
                refine hK _ _ ⟨fun _ => hS, ?_⟩
                clear hK K
                clear hb HCK
                refine take_D (i := 6) 64 (.bool true) rfl rfl (by kernel_rfl) (by kernel_rfl) (by kernel_rfl) (by kernel_rfl) (fun _ _ _ h => h) (Or.inl ⟨by rfl, fun W' hW => by go_simp⟩) hS ?_
                simp only [Act.put, List.setIfInBounds_toArray, List.set_cons_zero, List.set_cons_succ]
                refine take_D (i := 7) 65 (.bool true) rfl rfl (by kernel_rfl) (by kernel_rfl) (by kernel_rfl) (by kernel_rfl) (fun _ _ _ h => h) (Or.inl ⟨by rfl, fun W' hW => by go_simp⟩) hS ?_
                simp only [Act.put, List.setIfInBounds_toArray, List.set_cons_zero, List.set_cons_succ]
                refine take_D (i := 8) 66 (.bool true) rfl rfl (by kernel_rfl) (by kernel_rfl) (by kernel_rfl) (by kernel_rfl) (fun _ _ _ h => h) (Or.inl ⟨by rfl, fun W' hW => by go_simp⟩) hS ?_
                simp only [Act.put, List.setIfInBounds_toArray, List.set_cons_zero, List.set_cons_succ]
                refine take_D (i := 9) 67 (undef) rfl rfl (by kernel_rfl) (by kernel_rfl) (by kernel_rfl) (by kernel_rfl) (fun _ _ _ h => h) (Or.inr ⟨by rfl, rfl⟩) hS ?_
                simp only [Act.put, List.setIfInBounds_toArray, List.set_cons_zero, List.set_cons_succ]
                refine take_D (i := 10) 68 (undef) rfl rfl (by kernel_rfl) (by kernel_rfl) (by kernel_rfl) (by kernel_rfl) (fun _ _ _ h => h) (Or.inr ⟨by rfl, rfl⟩) hS ?_
                simp only [Act.put, List.setIfInBounds_toArray, List.set_cons_zero, List.set_cons_succ]
                refine take_D (i := 11) 69 (undef) rfl rfl (by kernel_rfl) (by kernel_rfl) (by kernel_rfl) (by kernel_rfl) (fun _ _ _ h => h) (Or.inr ⟨by rfl, rfl⟩) hS ?_
                simp only [Act.put, List.setIfInBounds_toArray, List.set_cons_zero, List.set_cons_succ]
                refine take_D (i := 12) 70 (undef) rfl rfl (by kernel_rfl) (by kernel_rfl) (by kernel_rfl) (by kernel_rfl) (fun _ _ _ h => h) (Or.inr ⟨by rfl, rfl⟩) hS ?_
                simp only [Act.put, List.setIfInBounds_toArray, List.set_cons_zero, List.set_cons_succ]
                refine take_D (i := 13) 71 (undef) rfl rfl (by kernel_rfl) (by kernel_rfl) (by kernel_rfl) (by kernel_rfl) (fun _ _ _ h => h) (Or.inr ⟨by rfl, rfl⟩) hS ?_
                simp only [Act.put, List.setIfInBounds_toArray, List.set_cons_zero, List.set_cons_succ]
                refine take_D (i := 14) 72 (undef) rfl rfl (by kernel_rfl) (by kernel_rfl) (by kernel_rfl) (by kernel_rfl) (fun _ _ _ h => h) (Or.inr ⟨by rfl, rfl⟩) hS ?_
                simp only [Act.put, List.setIfInBounds_toArray, List.set_cons_zero, List.set_cons_succ]
                refine take_D (i := 15) 73 (undef) rfl rfl (by kernel_rfl) (by kernel_rfl) (by kernel_rfl) (by kernel_rfl) (fun _ _ _ h => h) (Or.inr ⟨by rfl, rfl⟩) hS ?_
                simp only [Act.put, List.setIfInBounds_toArray, List.set_cons_zero, List.set_cons_succ]
                refine take_D (i := 16) 74 (undef) rfl rfl (by kernel_rfl) (by kernel_rfl) (by kernel_rfl) (by kernel_rfl) (fun _ _ _ h => h) (Or.inr ⟨by rfl, rfl⟩) hS ?_
                simp only [Act.put, List.setIfInBounds_toArray, List.set_cons_zero, List.set_cons_succ]
                refine take_D (i := 17) 75 (.bool true) rfl rfl (by kernel_rfl) (by kernel_rfl) (by kernel_rfl) (by kernel_rfl) (fun _ _ _ h => h) (Or.inl ⟨by rfl, fun W' hW => by go_simp⟩) hS ?_
                simp only [Act.put, List.setIfInBounds_toArray, List.set_cons_zero, List.set_cons_succ]
                refine done_J (by kernel_rfl) ?_ _
                have HSZ := hide hS
                clear hS
                go_wp2_with fail
                go_ret
                exact ⟨rfl, HV2.out⟩
              | true =>
                rw [hcb] at HCK
                unfold cs3 at HCK
                refine ready_J (rs := [5]) (by kernel_rfl) (by simp) ?_
                intro jj hjj
                obtain rfl := List.mem_singleton.1 hjj
                clear hjj
                refine op_W rfl (by rfl) fun K hK => ?_
                go_simp
                refine HCK.out.mono ?_
                rintro r v2 ⟨rfl, hb⟩
                have HV2 : Hid (Below w.heap.size w v2) := hide (HV1.out.trans (hb.mono HV1.out.size))
                have hS2 := hS.below hb
                clear hS
                have hS := hS2
                clear hS2
                refine hK _ _ ⟨fun _ => hS, ?_⟩
                clear hK K
                clear hb HCK
                refine take_D (i := 6) 64 (.bool false) rfl rfl (by kernel_rfl) (by kernel_rfl) (by kernel_rfl) (by kernel_rfl) (fun _ _ _ h => h) (Or.inl ⟨by rfl, fun W' hW => by go_simp⟩) hS ?_
                simp only [Act.put, List.setIfInBounds_toArray, List.set_cons_zero, List.set_cons_succ]
                refine take_D (i := 7) 65 (.bool false) rfl rfl (by kernel_rfl) (by kernel_rfl) (by kernel_rfl) (by kernel_rfl) (fun _ _ _ h => h) (Or.inl ⟨by rfl, fun W' hW => by go_simp⟩) hS ?_
                simp only [Act.put, List.setIfInBounds_toArray, List.set_cons_zero, List.set_cons_succ]
                refine take_D (i := 8) 66 (.bool false) rfl rfl (by kernel_rfl) (by kernel_rfl) (by kernel_rfl) (by kernel_rfl) (fun _ _ _ h => h) (Or.inl ⟨by rfl, fun W' hW => by go_simp⟩) hS ?_
                simp only [Act.put, List.setIfInBounds_toArray, List.set_cons_zero, List.set_cons_succ]
                refine take_D (i := 9) 67 (.slice ps nk cs) rfl rfl (by kernel_rfl) (by kernel_rfl) (by kernel_rfl) (by kernel_rfl) (fun _ _ _ h => h) (Or.inl ⟨by rfl, fun W' hW => by go_simp⟩) hS ?_
                simp only [Act.put, List.setIfInBounds_toArray, List.set_cons_zero, List.set_cons_succ]
                refine take_D (i := 10) 68 (.agg #[.string (S a.nm), .int .i64 a.n, .slice pa a.ar.length ca]) rfl rfl (by kernel_rfl) (by kernel_rfl) (by kernel_rfl) (by kernel_rfl) (fun _ _ _ h => h) (Or.inl ⟨by rfl, fun W' hW => by obtain ⟨x0, x1, x2⟩ := hW.1.c3; go_simp⟩) hS ?_
                simp only [Act.put, List.setIfInBounds_toArray, List.set_cons_zero, List.set_cons_succ]
                refine take_D (i := 12) 70 (.slice ps nk cs) rfl rfl (by kernel_rfl) (by kernel_rfl) (by kernel_rfl) (by kernel_rfl) (fun _ _ _ h => h) (Or.inl ⟨by rfl, fun W' hW => by go_simp⟩) hS ?_
                simp only [Act.put, List.setIfInBounds_toArray, List.set_cons_zero, List.set_cons_succ]
                refine take_D (i := 13) 71 (.agg #[.string (S b.nm), .int .i64 b.n, .slice pb b.ar.length cb]) rfl rfl (by kernel_rfl) (by kernel_rfl) (by kernel_rfl) (by kernel_rfl) (fun _ _ _ h => h) (Or.inl ⟨by rfl, fun W' hW => by obtain ⟨y0, y1, y2⟩ := hW.2.c3; go_simp⟩) hS ?_
                simp only [Act.put, List.setIfInBounds_toArray, List.set_cons_zero, List.set_cons_succ]
                have hap := apply_any sm a (P := fun x => x < w.heap.size) (w := v2) (pl := ps) (cl := cs) (pk := pa) (ck := ca) (fun x hx => Nat.lt_of_lt_of_le hx HV2.out.size) (HTA.out v2 HV2.out) (RM.keep (KP.of_below HV2.out fun x hx => hx) (fun x hx => hx) (fun t ds h => FaIn.keep (KP.of_below HV2.out fun x hx => hx) (fun x hx => hx) t ds h) HSM.out) (by rw [HNK.out]; omega)
                rw [HNK.out] at hap
                generalize hxa : applyM sm a = xa at hap
                have HAP := hide hap; have HXA := hide hxa
                clear hap hxa
                unfold cs3 at HAP
                refine ready_J (rs := [11]) (by kernel_rfl) (by simp) ?_
                intro jj hjj
                obtain rfl := List.mem_singleton.1 hjj
                clear hjj
                refine op_W rfl (by rfl) fun K hK => ?_
                go_simp
                refine HAP.out.mono ?_
                rintro r v3 ⟨p1, c1, rfl, hb, hinx⟩
                have HINA : Hid (TyIn (fun x => x < v3.heap.size) v3 xa [.string (S xa.nm), .int .i64 xa.n, .slice p1 xa.ar.length c1]) := hide (TyIn.keep (KP.refl _ _) (fun x hx => hx.2) _ _ hinx)
                clear hinx HAP
                unfold cs3
                have HV3 : Hid (Below w.heap.size w v3) := hide (HV2.out.trans (hb.mono HV2.out.size))
                have hS2 := hS.below hb
                clear hS
                have hS := hS2
                clear hS2
                refine hK _ _ ⟨fun _ => hS, ?_⟩
                clear hK K
                clear hb
                have hap := apply_any sm b (P := fun x => x < w.heap.size) (w := v3) (pl := ps) (cl := cs) (pk := pb) (ck := cb) (fun x hx => Nat.lt_of_lt_of_le hx HV3.out.size) (HTB.out v3 HV3.out) (RM.keep (KP.of_below HV3.out fun x hx => hx) (fun x hx => hx) (fun t ds h => FaIn.keep (KP.of_below HV3.out fun x hx => hx) (fun x hx => hx) t ds h) HSM.out) (by rw [HNK.out]; omega)
                rw [HNK.out] at hap
                generalize hxb : applyM sm b = xb at hap
                have HAP := hide hap; have HXB := hide hxb
                clear hap hxb
                unfold cs3 at HAP
                refine ready_J (rs := [14]) (by kernel_rfl) (by simp) ?_
                intro jj hjj
                obtain rfl := List.mem_singleton.1 hjj
                clear hjj
                refine op_W rfl (by rfl) fun K hK => ?_
                go_simp
                refine HAP.out.mono ?_
                rintro r v4 ⟨p2, c2, rfl, hb, hinx⟩
                have HINB : Hid (TyIn (fun x => x < v4.heap.size) v4 xb [.string (S xb.nm), .int .i64 xb.n, .slice p2 xb.ar.length c2]) := hide (TyIn.keep (KP.refl _ _) (fun x hx => hx.2) _ _ hinx)
                have HINA4 : Hid (TyIn (fun x => x < v4.heap.size) v4 xa [.string (S xa.nm), .int .i64 xa.n, .slice p1 xa.ar.length c1]) := hide (TyIn.keep (KP.of_below hb fun x hx => hx) (fun x hx => Nat.lt_of_lt_of_le hx hb.size) _ _ HINA.out)
                clear hinx HAP HINA
                unfold cs3
                have HV4 : Hid (Below w.heap.size w v4) := hide (HV3.out.trans (hb.mono HV3.out.size))
                have hS2 := hS.below hb
                clear hS
                have hS := hS2
                clear hS2
                refine hK _ _ ⟨fun _ => hS, ?_⟩
                clear hK K
                clear hb
                have hsm := same_ty xa xb (P := fun x => x < v4.heap.size) (w := v4) (pk := p1) (qk := p2) (ck := c1) (dk := c2) (fun x hx => hx) HINA4.out HINB.out
                have HSAME := hide hsm
                clear hsm
                unfold cs3 at HSAME
                refine ready_J (rs := [15]) (by kernel_rfl) (by simp) ?_
                intro jj hjj
                obtain rfl := List.mem_singleton.1 hjj
                clear hjj
                refine op_W rfl (by rfl) fun K hK => ?_
                go_simp
                refine HSAME.out.mono ?_
                rintro r v5 ⟨hyes, hno, hb⟩
                by_cases heq : xa = xb
                · obtain rfl := hyes heq
                  have HEQ := hide heq
                  clear hyes hno heq HSAME
                  have HV5 : Hid (Below w.heap.size w v5) := hide (HV4.out.trans (hb.mono HV4.out.size))
                  have hS2 := hS.below hb
                  clear hS
                  have hS := hS2
                  clear hS2
                  refine hK _ _ ⟨fun _ => hS, ?_⟩
                  clear hK K
                  clear hb
                  refine take_D (i := 16) 74 (.bool false) rfl rfl (by kernel_rfl) (by kernel_rfl) (by kernel_rfl) (by kernel_rfl) (fun _ _ _ h => h) (Or.inl ⟨by rfl, fun W' hW => by go_simp⟩) hS ?_
                  simp only [Act.put, List.setIfInBounds_toArray, List.set_cons_zero, List.set_cons_succ]
                  refine take_D (i := 17) 75 (.bool false) rfl rfl (by kernel_rfl) (by kernel_rfl) (by kernel_rfl) (by kernel_rfl) (fun _ _ _ h => h) (Or.inl ⟨by rfl, fun W' hW => by go_simp⟩) hS ?_
                  simp only [Act.put, List.setIfInBounds_toArray, List.set_cons_zero, List.set_cons_succ]
                  refine done_J (by kernel_rfl) ?_ _
                  have HSZ := hide hS
                  clear hS
                  obtain ⟨x0, x1, x2⟩ := HSZ.out.1.c3
                  obtain ⟨y0, y1, y2⟩ := HSZ.out.2.c3
                  have hu := unify_any a b (P := fun x => x < w.heap.size) (w := v5) (pk := pa) (qk := pb) (ck := ca) (dk := cb) (fun x hx => Nat.lt_of_lt_of_le hx HV5.out.size) (HTA.out v5 HV5.out) (HTB.out v5 HV5.out)
                  have HUU := hide hu
                  clear hu
                  unfold cs3 at HUU
                  have hsub : sub (look sm) a = sub (look sm) b := by
                    have h1 : applyM sm a = applyM sm b := by rw [HXA.out, HXB.out, HEQ.out]
                    rwa [applyM_ok hca HALL.out, applyM_ok hcb HALL.out] at h1
                  have HSUB := hide hsub
                  clear hsub
                  clear HINA4 HINB HXA HXB HEQ
                  go_wp2_with fail
                  refine HUU.out.mono ?_
                  rintro r w7 ⟨hb, l, e, pl, cl, rfl, _, hrm, hll, hor⟩
                  have hq : UnifyQ a b l e := by
                    rcases hor with ⟨_, _, h⟩ | ⟨h, _⟩
                    · exact h
                    · rw [hca, hcb] at h
                      simp at h
                  obtain ⟨rfl, htold, htell⟩ := hq.ok hca hcb (fun f hf => (HALL.out f hf).2) HSUB.out
                  have HTOLD := hide htold; have HTELL := hide htell
                  have HB7 : Hid (Below w.heap.size w w7) := hide (HV5.out.trans (hb.mono HV5.out.size))
                  have HL7 : Hid (RM 4 (fun x => x < w7.heap.size) w7 (FaIn (fun x => x < w7.heap.size) w7) pl l) := hide (RM.keep (KP.refl _ _) (fun x hx => hx.2) (fun t ds h => FaIn.keep (KP.refl _ _) (fun x hx => hx.2) t ds h) hrm)
                  clear hor hq hb hrm htold htell x0 x1 x2 y0 y1 y2 HUU
                  generalize hm : l.length = m at *
                  have HMK := hide hm
                  clear hm
                  go_wp2_with fail
                  go_loopg [11] m (fun k s11 wr => ∃ j : Nat, j ≤ m ∧ k = m - j ∧ s11 = .int .i64 j ∧ Below w7.heap.size w7 wr)
                  case atStart => exact ⟨0, Nat.zero_le _, by omega, rfl, Below.refl _ w7⟩
                  case round =>
                    obtain ⟨j, hj1, rfl, rfl, hbr⟩ := hrel
                    have HBR2 := hide hbr
                    clear hbr
                    by_cases hlt2 : j < m
                    · have hjl : j < l.length := by rw [HMK.out]; exact hlt2
                      obtain ⟨b2, o2, q2, d2, rfl, hp2, hgn, hin2, a0, a1, a2, a3⟩ := fm_at HL7.out hjl
                      have hmem := List.getElem_mem hjl
                      generalize l[j] = g at *
                      have hc2 : ∀ (W : World), Below w7.heap.size w7 W → ∀ x, W.cell? ⟨b2, x, none⟩ = w7.cell? ⟨b2, x, none⟩ := fun W hb x => hb.cell (p := ⟨b2, x, none⟩) hp2
                      have hsf : ∀ (W : World), Below w7.heap.size w7 W → (fun W' : World => W'.cell? ⟨b2, o2 + j * 4, none⟩ = some (.int .i64 g.1) ∧ W'.cell? ⟨b2, o2 + j * 4 + 1, none⟩ = some (.string (S g.2.nm)) ∧ W'.cell? ⟨b2, o2 + j * 4 + 1 + 1, none⟩ = some (.int .i64 g.2.n) ∧ W'.cell? ⟨b2, o2 + j * 4 + 1 + 2, none⟩ = some (.slice q2 g.2.ar.length d2)) W := fun W hb => ⟨(hc2 W hb _).trans a0, (hc2 W hb _).trans a1, (hc2 W hb _).trans a2, (hc2 W hb _).trans a3⟩
                      have hpos : 0 ≤ g.1 := told_pos hca hcb _ (HTOLD.out.theirs g hmem)
                      have hsq : applyM sm g.2 = applyM sm (hole g.1) := by
                        rw [applyM_ok (HTELL.out g hmem) HALL.out, applyM_ok (chk_hole hpos) HALL.out, sub_hole]
                        exact least_math HTOLD.out HSUB.out g hmem
                      have HSQ := hide hsq; have HSF := hide hsf; have HIN2 := hide hin2; have HGN := hide hgn
                      have hjj2 : (j : Int) < m := by omega
                      have hM0 : Below w7.heap.size w7 wr.drew := HBR2.out.trans ((below_drew wr).mono HBR2.out.size)
                      clear a0 a1 a2 a3 hc2 hsf hin2 hmem hsq
                      go_upto_region 17 with fail
                      refine wp_region_noPanic ?_
                      refine region_J 17 (N := 17) (S := (fun W' : World => W'.cell? ⟨b2, o2 + j * 4, none⟩ = some (.int .i64 g.1) ∧ W'.cell? ⟨b2, o2 + j * 4 + 1, none⟩ = some (.string (S g.2.nm)) ∧ W'.cell? ⟨b2, o2 + j * 4 + 1 + 1, none⟩ = some (.int .i64 g.2.n) ∧ W'.cell? ⟨b2, o2 + j * 4 + 1 + 2, none⟩ = some (.slice q2 g.2.ar.length d2))) (by kernel_rfl) (by kernel_rfl) ?_
                      generalize wr.drew = u0 at *
                      have HM0 := hide hM0
                      have HU0 : Hid (Below w.heap.size w u0) := hide (HB7.out.trans (hM0.mono HB7.out.size))
                      have hS := HSF.out u0 hM0
                      clear hM0
                      refine take_D (i := 0) 91 (.slice ps nk cs) rfl rfl (by kernel_rfl) (by kernel_rfl) (by kernel_rfl) (by kernel_rfl) (fun _ _ _ h => h) (Or.inl ⟨by rfl, fun W' hW => by go_simp⟩) hS ?_
                      simp only [Act.put, List.setIfInBounds_toArray, List.set_cons_zero, List.set_cons_succ]
                      refine take_D (i := 1) 92 (.slice (some ⟨b2, o2, none⟩) m cl) rfl rfl (by kernel_rfl) (by kernel_rfl) (by kernel_rfl) (by kernel_rfl) (fun _ _ _ h => h) (Or.inl ⟨by rfl, fun W' hW => by go_simp⟩) hS ?_
                      simp only [Act.put, List.setIfInBounds_toArray, List.set_cons_zero, List.set_cons_succ]
                      refine take_D (i := 2) 93 (.int .i64 j) rfl rfl (by kernel_rfl) (by kernel_rfl) (by kernel_rfl) (by kernel_rfl) (fun _ _ _ h => h) (Or.inl ⟨by rfl, fun W' hW => by go_simp⟩) hS ?_
                      simp only [Act.put, List.setIfInBounds_toArray, List.set_cons_zero, List.set_cons_succ]
                      refine take_D (i := 3) 94 (.pointer (some ⟨b2, o2 + j * 4, none⟩)) rfl rfl (by kernel_rfl) (by kernel_rfl) (by kernel_rfl) (by kernel_rfl) (fun _ _ _ h => h) (Or.inl ⟨by rfl, fun W' hW => by go_simp⟩) hS ?_
                      simp only [Act.put, List.setIfInBounds_toArray, List.set_cons_zero, List.set_cons_succ]
                      refine take_D (i := 4) 95 (.pointer (some ⟨b2, o2 + j * 4 + 1, none⟩)) rfl rfl (by kernel_rfl) (by kernel_rfl) (by kernel_rfl) (by kernel_rfl) (fun _ _ _ h => h) (Or.inl ⟨by rfl, fun W' hW => by go_simp⟩) hS ?_
                      simp only [Act.put, List.setIfInBounds_toArray, List.set_cons_zero, List.set_cons_succ]
                      refine take_D (i := 5) 96 (.agg #[.string (S g.2.nm), .int .i64 g.2.n, .slice q2 g.2.ar.length d2]) rfl rfl (by kernel_rfl) (by kernel_rfl) (by kernel_rfl) (by kernel_rfl) (fun _ _ _ h => h) (Or.inl ⟨by rfl, fun W' hW => by obtain ⟨s0, s1, s2, s3⟩ := hW; go_simp⟩) hS ?_
                      simp only [Act.put, List.setIfInBounds_toArray, List.set_cons_zero, List.set_cons_succ]
                      refine take_D (i := 7) 98 (.slice ps nk cs) rfl rfl (by kernel_rfl) (by kernel_rfl) (by kernel_rfl) (by kernel_rfl) (fun _ _ _ h => h) (Or.inl ⟨by rfl, fun W' hW => by go_simp⟩) hS ?_
                      simp only [Act.put, List.setIfInBounds_toArray, List.set_cons_zero, List.set_cons_succ]
                      refine take_D (i := 8) 99 (.slice (some ⟨b2, o2, none⟩) m cl) rfl rfl (by kernel_rfl) (by kernel_rfl) (by kernel_rfl) (by kernel_rfl) (fun _ _ _ h => h) (Or.inl ⟨by rfl, fun W' hW => by go_simp⟩) hS ?_
                      simp only [Act.put, List.setIfInBounds_toArray, List.set_cons_zero, List.set_cons_succ]
                      refine take_D (i := 9) 100 (.int .i64 j) rfl rfl (by kernel_rfl) (by kernel_rfl) (by kernel_rfl) (by kernel_rfl) (fun _ _ _ h => h) (Or.inl ⟨by rfl, fun W' hW => by go_simp⟩) hS ?_
                      simp only [Act.put, List.setIfInBounds_toArray, List.set_cons_zero, List.set_cons_succ]
                      refine take_D (i := 10) 101 (.pointer (some ⟨b2, o2 + j * 4, none⟩)) rfl rfl (by kernel_rfl) (by kernel_rfl) (by kernel_rfl) (by kernel_rfl) (fun _ _ _ h => h) (Or.inl ⟨by rfl, fun W' hW => by go_simp⟩) hS ?_
                      simp only [Act.put, List.setIfInBounds_toArray, List.set_cons_zero, List.set_cons_succ]
                      refine take_D (i := 11) 102 (.pointer (some ⟨b2, o2 + j * 4, none⟩)) rfl rfl (by kernel_rfl) (by kernel_rfl) (by kernel_rfl) (by kernel_rfl) (fun _ _ _ h => h) (Or.inl ⟨by rfl, fun W' hW => by go_simp⟩) hS ?_
                      simp only [Act.put, List.setIfInBounds_toArray, List.set_cons_zero, List.set_cons_succ]
                      refine take_D (i := 12) 103 (.int .i64 g.1) rfl rfl (by kernel_rfl) (by kernel_rfl) (by kernel_rfl) (by kernel_rfl) (fun _ _ _ h => h) (Or.inl ⟨by rfl, fun W' hW => by obtain ⟨s0, s1, s2, s3⟩ := hW; go_simp⟩) hS ?_
                      simp only [Act.put, List.setIfInBounds_toArray, List.set_cons_zero, List.set_cons_succ]
                      refine take_D (i := 13) 104 (.agg #[.string ⟨#[]⟩, .int .i64 g.1, .slice none 0 0]) rfl rfl (by kernel_rfl) (by kernel_rfl) (by kernel_rfl) (by kernel_rfl) (fun _ _ _ h => h) (Or.inl ⟨by rfl, fun W' hW => by go_simp⟩) hS ?_
                      simp only [Act.put, List.setIfInBounds_toArray, List.set_cons_zero, List.set_cons_succ]
                      have hap : Calls Tryd.prog 22 #[.slice ps nk cs, .agg #[.string (S g.2.nm), .int .i64 g.2.n, .slice q2 g.2.ar.length d2]] u0 (TQ (applyM sm g.2) u0) := by
                        have h := apply_any sm g.2 (P := fun x => x < u0.heap.size) (w := u0) (pl := ps) (cl := cs) (fun x hx => hx) (TyIn.keep (KP.of_below HM0.out fun x hx => hx) (fun x hx => Nat.lt_of_lt_of_le hx HM0.out.size) _ _ HIN2.out) (RM.keep (KP.of_below HU0.out fun x hx => hx) (fun x hx => Nat.lt_of_lt_of_le hx HU0.out.size) (fun t ds h => FaIn.keep (KP.of_below HU0.out fun x hx => hx) (fun x hx => Nat.lt_of_lt_of_le hx HU0.out.size) t ds h) HSM.out) (by rw [HNK.out]; omega)
                        rw [HNK.out] at h
                        exact h
                      have HAP := hide hap
                      clear hap
                      generalize hxa2 : applyM sm g.2 = xa at HAP
                      have HXA2 := hide hxa2
                      clear hxa2
                      refine ready_J (rs := [6]) (by kernel_rfl) (by simp) ?_
                      intro jj hjj
                      obtain rfl := List.mem_singleton.1 hjj
                      clear hjj
                      refine op_W rfl (by rfl) fun K hK => ?_
                      go_simp
                      refine HAP.out.mono ?_
                      rintro r u1 ⟨p1, c1, rfl, hb, hinx⟩
                      have HINA : Hid (TyIn (fun x => x < u1.heap.size) u1 xa [.string (S xa.nm), .int .i64 xa.n, .slice p1 xa.ar.length c1]) := hide (TyIn.keep (KP.refl _ _) (fun x hx => hx.2) _ _ hinx)
                      clear hinx HAP
                      unfold cs3
                      have HU1 : Hid (Below w.heap.size w u1) := hide (HU0.out.trans (hb.mono HU0.out.size))
                      have HM1 : Hid (Below w7.heap.size w7 u1) := hide (HM0.out.trans (hb.mono HM0.out.size))
                      clear hS
                      have hS := HSF.out u1 HM1.out
                      refine hK _ _ ⟨fun _ => hS, ?_⟩
                      clear hK K
                      clear hb
                      have hap : Calls Tryd.prog 22 #[.slice ps nk cs, .agg #[.string ⟨#[]⟩, .int .i64 g.1, .slice none 0 0]] u1 (TQ (applyM sm (hole g.1)) u1) := by
                        have h := apply_any sm (hole g.1) (P := fun x => x < u1.heap.size) (w := u1) (pl := ps) (cl := cs) (fun x hx => hx) (hole_in _ _ g.1 HGN.out) (RM.keep (KP.of_below HU1.out fun x hx => hx) (fun x hx => Nat.lt_of_lt_of_le hx HU1.out.size) (fun t ds h => FaIn.keep (KP.of_below HU1.out fun x hx => hx) (fun x hx => Nat.lt_of_lt_of_le hx HU1.out.size) t ds h) HSM.out) (by rw [HNK.out]; omega)
                        rw [HNK.out] at h
                        exact h
                      have HAP := hide hap
                      clear hap
                      generalize hxb2 : applyM sm (hole g.1) = xb at HAP
                      have HXB2 := hide hxb2
                      clear hxb2
                      refine ready_J (rs := [14]) (by kernel_rfl) (by simp) ?_
                      intro jj hjj
                      obtain rfl := List.mem_singleton.1 hjj
                      clear hjj
                      refine op_W rfl (by rfl) fun K hK => ?_
                      go_simp
                      refine HAP.out.mono ?_
                      rintro r u2 ⟨p2, c2, rfl, hb, hinx⟩
                      have HINB : Hid (TyIn (fun x => x < u2.heap.size) u2 xb [.string (S xb.nm), .int .i64 xb.n, .slice p2 xb.ar.length c2]) := hide (TyIn.keep (KP.refl _ _) (fun x hx => hx.2) _ _ hinx)
                      have HINA4 : Hid (TyIn (fun x => x < u2.heap.size) u2 xa [.string (S xa.nm), .int .i64 xa.n, .slice p1 xa.ar.length c1]) := hide (TyIn.keep (KP.of_below hb fun x hx => hx) (fun x hx => Nat.lt_of_lt_of_le hx hb.size) _ _ HINA.out)
                      clear hinx HAP HINA
                      unfold cs3
                      have HU2 : Hid (Below w.heap.size w u2) := hide (HU1.out.trans (hb.mono HU1.out.size))
                      have HM2 : Hid (Below w7.heap.size w7 u2) := hide (HM1.out.trans (hb.mono HM1.out.size))
                      clear hS
                      have hS := HSF.out u2 HM2.out
                      refine hK _ _ ⟨fun _ => hS, ?_⟩
                      clear hK K
                      clear hb
                      have heq2 : xa = xb := by rw [← HXA2.out, ← HXB2.out]; exact HSQ.out
                      have hsm := same_ty xa xb (P := fun x => x < u2.heap.size) (w := u2) (pk := p1) (qk := p2) (ck := c1) (dk := c2) (fun x hx => hx) HINA4.out HINB.out
                      have HSAME := hide hsm; have HEQ2 := hide heq2
                      clear hsm heq2
                      unfold cs3 at HSAME
                      refine ready_J (rs := [15]) (by kernel_rfl) (by simp) ?_
                      intro jj hjj
                      obtain rfl := List.mem_singleton.1 hjj
                      clear hjj
                      refine op_W rfl (by rfl) fun K hK => ?_
                      go_simp
                      refine HSAME.out.mono ?_
                      rintro r u3 ⟨hyes, _, hb⟩
                      obtain rfl := hyes HEQ2.out
                      clear hyes HSAME
                      have HU3 : Hid (Below w.heap.size w u3) := hide (HU2.out.trans (hb.mono HU2.out.size))
                      have HM3 : Hid (Below w7.heap.size w7 u3) := hide (HM2.out.trans (hb.mono HM2.out.size))
                      clear hS
                      have hS := HSF.out u3 HM3.out
                      refine hK _ _ ⟨fun _ => hS, ?_⟩
                      clear hK K
                      clear hb
                      refine take_D (i := 16) 107 (.bool false) rfl rfl (by kernel_rfl) (by kernel_rfl) (by kernel_rfl) (by kernel_rfl) (fun _ _ _ h => h) (Or.inl ⟨by rfl, fun W' hW => by go_simp⟩) hS ?_
                      simp only [Act.put, List.setIfInBounds_toArray, List.set_cons_zero, List.set_cons_succ]
                      refine done_J (by kernel_rfl) ?_ _
                      refine NoPanic.normal ?_
                      clear hS
                      go_wp2_with fail
                      go_roundg (m - (j + 1))
                      case measure => omega
                      case rel => exact ⟨j + 1, by omega, rfl, by go_num, HM3.out⟩
                    · have hii2 : ¬ (j : Int) < m := by omega
                      go_wp2_with fail
                      go_ret
                      exact ⟨rfl, HB7.out.trans (HBR2.out.mono HB7.out.size)⟩
                · obtain rfl := hno heq
                  clear hyes hno heq HSAME
                  have HV5 : Hid (Below w.heap.size w v5) := hide (HV4.out.trans (hb.mono HV4.out.size))
                  have hS2 := hS.below hb
                  clear hS
                  have hS := hS2
                  clear hS2
                  refine hK _ _ ⟨fun _ => hS, ?_⟩
                  clear hK K
                  clear hb
                  refine take_D (i := 16) 74 (.bool true) rfl rfl (by kernel_rfl) (by kernel_rfl) (by kernel_rfl) (by kernel_rfl) (fun _ _ _ h => h) (Or.inl ⟨by rfl, fun W' hW => by go_simp⟩) hS ?_
                  simp only [Act.put, List.setIfInBounds_toArray, List.set_cons_zero, List.set_cons_succ]
                  refine take_D (i := 17) 75 (.bool true) rfl rfl (by kernel_rfl) (by kernel_rfl) (by kernel_rfl) (by kernel_rfl) (fun _ _ _ h => h) (Or.inl ⟨by rfl, fun W' hW => by go_simp⟩) hS ?_
                  simp only [Act.put, List.setIfInBounds_toArray, List.set_cons_zero, List.set_cons_succ]
                  refine done_J (by kernel_rfl) ?_ _
                  have HSZ := hide hS
                  clear hS
                  go_wp2_with fail
                  go_ret
                  exact ⟨rfl, HV5.out⟩
end Go.Proofs.YteoflpalmckikaaDoor
