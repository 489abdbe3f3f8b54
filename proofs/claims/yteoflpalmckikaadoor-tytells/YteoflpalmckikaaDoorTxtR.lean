/-
  THE WALKS OF dawdlerref08's text, atom AND Text.
-/
import Derived.Test.YteoflpalmckikaaDoorDigR
namespace Go.Proofs.YteoflpalmckikaaDoor
open Go.RowKit
set_option linter.unusedVariables false
set_option linter.unusedSimpArgs false
def RTOK (t : Ty) : Prop := ∀ (P : Nat → Prop) (w : World) (pk : Option Addr) (ck : Nat), (∀ b, P b → b < w.heap.size) → TyIn P w t [.string (S t.nm), .int .i64 t.n, .slice pk t.ar.length ck] → Calls Tryd.prog 41 #[.agg (cs3 t pk ck)] w (SQ (txT t) w)
def RAOK (t : Ty) : Prop := ∀ (P : Nat → Prop) (w : World) (pk : Option Addr) (ck : Nat), (∀ b, P b → b < w.heap.size) → TyIn P w t [.string (S t.nm), .int .i64 t.n, .slice pk t.ar.length ck] → Calls Tryd.prog 59 #[.agg (cs3 t pk ck)] w (SQ (atT t) w)
set_option maxHeartbeats 4000000 in
set_option maxRecDepth 100000 in
theorem ratom_of {t : Ty} (hT : RTOK t) (hl : (txT t).length ≤ 1000000) : RAOK t := by
  intro P w pk ck hP hE
  have hB0 : Below w.heap.size w (w.alloc (.cells (cs3 t pk ck) 24)) := (Below.refl _ w).alloc (Nat.le_refl _) _
  have hX : Hold w.heap.size (cs3 t pk ck) 24 (w.alloc (.cells (cs3 t pk ck) 24)) := Hold.new w _ 24
  have hc := hT P (w.alloc (.cells (cs3 t pk ck) 24)) pk ck (fun b hb => by have := hP b hb; simp; omega) (TyIn.keep (KP.of_below hB0 hP) (fun b hb => hb) _ _ hE)
  have HC := hide hc; have HB0 := hide hB0
  have hat : atT t = if t.ar.isEmpty then txT t else 40 :: (txT t ++ [41]) := rfl
  generalize atT t = at_ at *
  generalize hx : txT t = tx at *
  unfold cs3 at *
  have x0 := hX.cell 0; have x1 := hX.cell 1; have x2 := hX.cell 2
  simp only [List.getElem?_toArray, List.getElem?_cons_succ, List.getElem?_cons_zero] at x0 x1 x2
  clear hc hB0 hX hx hE hT
  cases hz : t.ar.isEmpty with
  | true =>
    rw [hz, if_pos rfl] at hat
    subst hat
    have hnl : t.ar.length = 0 := by simpa using hz
    generalize t.ar.length = nl at *
    subst hnl
    clear hz
    go_enter Tryd.func59, Tryd.ntmps59
    go_wp2_with fail
    refine HC.out.mono ?_
    rintro r w1 ⟨rfl, hb1⟩
    go_wp2_with fail
    go_ret
    exact ⟨rfl, HB0.out.trans (hb1.mono (by simp))⟩
  | false =>
    rw [hz, if_neg (by simp)] at hat
    subst hat
    have hnl : ((t.ar.length : Nat) : Int) ≠ 0 := by
      have : t.ar ≠ [] := by simpa using hz
      have := List.length_pos_iff.2 this
      omega
    generalize t.ar.length = nl at *
    have hnz : ((nl : Int) == 0) = false := by simpa using hnl
    have hsz := S_size tx
    clear hz
    go_enter Tryd.func59, Tryd.ntmps59
    go_wp2_with fail
    refine HC.out.mono ?_
    rintro r w1 ⟨rfl, hb1⟩
    go_wp2_with fail
    go_ret
    refine ⟨?_, HB0.out.trans (hb1.mono (by simp))⟩
    show Ending.returned (.string (S [40] ++ S tx ++ S [41])) = _
    rw [S_add, S_add]
    rfl
set_option maxHeartbeats 8000000 in
set_option maxRecDepth 100000 in
theorem rtext_any (t : Ty) : allT ok1 t = true → tsz t ≤ 2000 → RTOK t := by
  induction t using Ty.ind with
  | _ t ih =>
    intro hok htz P w pk ck hP hE
    obtain ⟨ho1, hks⟩ := allT_kid hok
    have hlen := txT_len t hE hok
    obtain ⟨hnl, hn1, hn2⟩ := hE.bds
    have hB0 : Below w.heap.size w (w.alloc (.cells (cs3 t pk ck) 24)) := (Below.refl _ w).alloc (Nat.le_refl _) _
    have hX : Hold w.heap.size (cs3 t pk ck) 24 (w.alloc (.cells (cs3 t pk ck) 24)) := Hold.new w _ 24
    have hih := rhole_any t (w.alloc (.cells (cs3 t pk ck) 24)) pk ck
    have HI := hide hih; have HB0 := hide hB0; have HX := hide hX
    have hkl := hE.len
    have HE := hide hE
    have x0 := hX.cell 0; have x1 := hX.cell 1; have x2 := hX.cell 2
    simp only [cs3, List.getElem?_toArray, List.getElem?_cons_succ, List.getElem?_cons_zero] at x0 x1 x2
    clear hih hB0 hX hE
    by_cases hh : t.nm.isEmpty = true
    · rw [hh] at HI
      by_cases h26 : t.n < 26
      · have hpos := (ok1_hole t ho1 hh).1
        obtain ⟨k, hk⟩ : ∃ k : Nat, t.n = k := ⟨t.n.toNat, by omega⟩
        rw [txT_let t hh h26]
        have htn : t.n.toNat = k := by omega
        rw [htn]
        have hk26 : (k : Int) < 26 := by omega
        clear ih
        unfold cs3 at *
        generalize t.n = n at *
        subst hk
        generalize t.ar.length = nl at *
        generalize hsd : S [UInt8.ofNat (97 + k)] = sd
        have HCV : Hid (∀ W : World, (convert 78 9 (.slice (some ⟨W.heap.size, 0, none⟩) 1 1)).run Tryd.prog (W.alloc (.cells #[.int .u8 (97 + (k : Int))] 5)) = .ok (.string sd) (W.alloc (.cells #[.int .u8 (97 + (k : Int))] 5))) := hide fun W => by
          rw [← hsd]
          exact conv0 (97 + k) (by rw [show ((97 + k : Nat) : Int) = 97 + (k : Int) by omega]; exact Hold.new W _ 5)
        have HFIN : Hid (Ending.returned (.string sd) = .returned (.string (S [UInt8.ofNat (97 + k)]))) := hide (by rw [hsd])
        unfold SQ
        generalize Ending.returned (.string (S [UInt8.ofNat (97 + k)])) = rr at *
        have hw2 := wr64 (97 + (k : Int)) (by omega) (by omega)
        have hw3 := wr8 (97 + (k : Int)) (by omega) (by omega)
        clear hsd htn
        go_enter Tryd.func41, Tryd.ntmps41
        go_wp2_with fail
        refine HI.out.mono ?_
        rintro r w1 ⟨rfl, hb1⟩
        have hx1 := HX.out.below hb1 HX.out.lt
        have y0 := hx1.cell 0; have y1 := hx1.cell 1; have y2 := hx1.cell 2
        simp only [List.getElem?_toArray, List.getElem?_cons_succ, List.getElem?_cons_zero] at y0 y1 y2
        have hcv := HCV.out w1
        go_wp2_with fail
        go_ret
        refine ⟨HFIN.out, ?_⟩
        have h1 : Below w.heap.size w w1 := HB0.out.trans (hb1.mono (by simp))
        exact h1.alloc h1.size _
      · rw [txT_num t hh h26]
        have hit := Lib.itoa_length_le t.n hn1 hn2
        have hpos := (ok1_hole t ho1 hh).1
        have hcall : ∀ W : World, Calls Tryd.prog 58 #[.int .i64 t.n] W (SQ (Lib.itoa t.n) W) := fun W => by
          obtain ⟨k, hk⟩ : ∃ k : Nat, t.n = k := ⟨t.n.toNat, by omega⟩
          rw [hk, show Lib.itoa (k : Int) = Lib.decDigits k by unfold Lib.itoa; rw [if_neg (by omega)]; simp]
          exact rdigits_any k (by omega)
        have HC := hide hcall
        generalize t.ar.length = nl at *
        generalize Lib.itoa t.n = it at *
        unfold cs3 at *
        clear ih hcall
        go_enter Tryd.func41, Tryd.ntmps41
        go_wp2_with fail
        refine HI.out.mono ?_
        rintro r w1 ⟨rfl, hb1⟩
        have hx1 := HX.out.below hb1 HX.out.lt
        have y0 := hx1.cell 0; have y1 := hx1.cell 1; have y2 := hx1.cell 2
        simp only [List.getElem?_toArray, List.getElem?_cons_succ, List.getElem?_cons_zero] at y0 y1 y2
        go_wp2_with fail
        have hb01 := HB0.out.trans (hb1.mono (by simp))
        have hi2 := rhole_any t w1 pk ck
        rw [hh] at hi2
        have HX1 := hide hx1; have HB01 := hide hb01
        clear hb1 hx1 y0 y1 y2
        refine hi2.mono ?_
        rintro r w2 ⟨rfl, hb2⟩
        have hx2 := HX1.out.below hb2 HX1.out.lt
        have y0 := hx2.cell 0; have y1 := hx2.cell 1; have y2 := hx2.cell 2
        simp only [cs3, List.getElem?_toArray, List.getElem?_cons_succ, List.getElem?_cons_zero] at y0 y1 y2
        have HB02 := hide (HB01.out.trans (hb2.mono HB01.out.size))
        have hits := S_size it
        clear hb2 hx2
        go_wp2_with fail
        refine (HC.out w2).mono ?_
        rintro r w3 ⟨rfl, hb3⟩
        go_wp2_with fail
        go_ret
        refine ⟨?_, HB02.out.trans (hb3.mono HB02.out.size)⟩
        show Ending.returned (.string (S [116] ++ S it)) = _
        rw [S_add]
        rfl
    · have hne : t.nm.isEmpty = false := by simpa using hh
      rw [hne] at HI
      have hi2 := fun (W : World) => rhole_any t W pk ck
      rw [hne] at hi2
      have HI2 := hide hi2
      have HKS : Hid (∀ k ∈ t.ar, RAOK k) := hide fun k hk => by
        have hsz := tsz_eq t
        obtain ⟨q, hq, rfl⟩ := List.getElem_of_mem hk
        have := sum_take_two tsz t.ar q t.ar[q] (List.getElem?_eq_getElem hq)
        have h3 : tsz t.ar[q] ≤ 2000 := by omega
        refine ratom_of (ih _ hk (hks _ hk) h3) ?_
        obtain ⟨b, o, qk, dk, _, _, h4, _⟩ := tm_at (tm_of HE.out) hq
        have := txT_len t.ar[q] h4 (hks _ hk)
        omega
      clear hi2 ih
      by_cases hf : t.nm = [45, 62] ∧ t.ar.length = 2
      · obtain ⟨hf1, hf2⟩ := hf
        obtain ⟨a, b, hab⟩ : ∃ a b, t.ar = [a, b] := by
          match ht : t.ar with
          | [a, b] => exact ⟨a, b, rfl⟩
          | [] => rw [ht] at hf2; cases hf2
          | [_] => rw [ht] at hf2; cases hf2
          | _ :: _ :: _ :: _ => rw [ht] at hf2; simp at hf2
        rw [txT_fun t hf1 a b hab]
        have htm := tm_of HE.out
        rw [hab] at htm
        obtain ⟨rb, ro, qa, da, rfl, hPb, hInA, a0, a1, a2⟩ := tm_at htm (i := 0) (by simp)
        obtain ⟨rb', ro', qb, db, hpe, _, hInB, b0, b1, b2⟩ := tm_at htm (i := 1) (by simp)
        cases hpe
        simp only [List.getElem_cons_zero, List.getElem_cons_succ] at hInA a0 a1 a2 hInB b0 b1 b2
        have hA := HKS.out a (by rw [hab]; simp)
        have hB := HKS.out b (by rw [hab]; simp)
        have hla := txT_len a hInA (hks a (by rw [hab]; simp))
        have hlb := txT_len b hInB (hks b (by rw [hab]; simp))
        have hla2 := atT_len (t := a)
        have hlb2 := atT_len (t := b)
        have hsz := tsz_eq t
        rw [hab] at hsz
        simp only [List.map_cons, List.map_nil, List.sum_cons, List.sum_nil] at hsz
        have hAT := S_size (atT a)
        have hBT := S_size (atT b)
        have hse : (S t.nm).toList = [45, 62] := by rw [S_list]; exact hf1
        have HA := hide hA; have HB := hide hB; have HINA := hide hInA; have HINB := hide hInB
        have HA0 := hide a0; have HA1 := hide a1; have HA2 := hide a2; have HB0' := hide b0; have HB1' := hide b1; have HB2' := hide b2
        have hz1 : ¬ 9223372036854775807 < (atT a).length + 4 := by omega
        have hz2 : ¬ 9223372036854775807 < (atT a).length + 4 + (atT b).length := by omega
        clear hA hB hInA hInB htm HKS hks hok ho1 hf1 a0 a1 a2 b0 b1 b2
        unfold cs3 at *
        rw [hf2] at HI HX HI2 HB0 x0 x1 x2 ⊢
        go_enter Tryd.func41, Tryd.ntmps41
        go_wp2_with fail
        refine HI.out.mono ?_
        rintro r w1 ⟨rfl, hb1⟩
        have hx1 := HX.out.below hb1 HX.out.lt
        have hb01 := HB0.out.trans (hb1.mono (by simp))
        have HX1 := hide hx1; have HB01 := hide hb01
        clear x0 x1 x2
        have y0 := hx1.cell 0; have y1 := hx1.cell 1; have y2 := hx1.cell 2
        simp only [List.getElem?_toArray, List.getElem?_cons_succ, List.getElem?_cons_zero] at y0 y1 y2
        clear hb1 hx1 hb01
        go_wp2_with fail
        refine (HI2.out w1).mono ?_
        rintro r w2 ⟨rfl, hb2⟩
        have hx2 := HX1.out.below hb2 HX1.out.lt
        clear y0 y1 y2
        have y0 := hx2.cell 0; have y1 := hx2.cell 1; have y2 := hx2.cell 2
        simp only [List.getElem?_toArray, List.getElem?_cons_succ, List.getElem?_cons_zero] at y0 y1 y2
        have HB02 := hide (HB01.out.trans (hb2.mono HB01.out.size))
        have HX2 := hide hx2
        clear hb2 hx2
        go_upto_region 6 with fail
        have hcl : ∀ (W : World), Below w.heap.size w W → ∀ x, W.cell? ⟨rb, x, none⟩ = w.cell? ⟨rb, x, none⟩ := fun W hb x => hb.cell (p := ⟨rb, x, none⟩) (hP rb hPb)
        have a0 := HA0.out; have a1 := HA1.out; have a2 := HA2.out; have b0 := HB0'.out; have b1 := HB1'.out; have b2 := HB2'.out
        simp only [Nat.zero_mul, Nat.add_zero, Nat.one_mul, Nat.add_assoc, Nat.reduceAdd] at a0 a1 a2 b0 b1 b2
        have hSall : ∀ (W : World), Below w.heap.size w W → W.cell? ⟨w.heap.size, 2, none⟩ = some (.slice (some ⟨rb, ro, none⟩) 2 ck) → (fun W' : World => W'.cell? ⟨w.heap.size, 2, none⟩ = some (.slice (some ⟨rb, ro, none⟩) 2 ck) ∧ W'.cell? ⟨rb, ro, none⟩ = some (.string (S a.nm)) ∧ W'.cell? ⟨rb, ro + 1, none⟩ = some (.int .i64 a.n) ∧ W'.cell? ⟨rb, ro + 2, none⟩ = some (.slice qa a.ar.length da) ∧ W'.cell? ⟨rb, ro + 3, none⟩ = some (.string (S b.nm)) ∧ W'.cell? ⟨rb, ro + 4, none⟩ = some (.int .i64 b.n) ∧ W'.cell? ⟨rb, ro + 5, none⟩ = some (.slice qb b.ar.length db)) W := fun W hb h => ⟨h, (hcl W hb _).trans a0, (hcl W hb _).trans a1, (hcl W hb _).trans a2, (hcl W hb _).trans b0, (hcl W hb _).trans b1, (hcl W hb _).trans b2⟩
        have HSA := hide hSall
        have hca := HA.out P w2.drew qa da (fun x hx => Nat.lt_of_lt_of_le (hP x hx) HB02.out.size) (TyIn.keep ((KP.of_below HB02.out hP).drew) (fun x hx => hx) _ _ HINA.out)
        have HCA := hide hca
        clear hcl hSall a0 a1 a2 b0 b1 b2 hca
        refine region_J 13 (N := 13) (S := (fun W' : World => W'.cell? ⟨w.heap.size, 2, none⟩ = some (.slice (some ⟨rb, ro, none⟩) 2 ck) ∧ W'.cell? ⟨rb, ro, none⟩ = some (.string (S a.nm)) ∧ W'.cell? ⟨rb, ro + 1, none⟩ = some (.int .i64 a.n) ∧ W'.cell? ⟨rb, ro + 2, none⟩ = some (.slice qa a.ar.length da) ∧ W'.cell? ⟨rb, ro + 3, none⟩ = some (.string (S b.nm)) ∧ W'.cell? ⟨rb, ro + 4, none⟩ = some (.int .i64 b.n) ∧ W'.cell? ⟨rb, ro + 5, none⟩ = some (.slice qb b.ar.length db))) (by kernel_rfl) (by kernel_rfl) ?_
        have hS : (fun W' : World => W'.cell? ⟨w.heap.size, 2, none⟩ = some (.slice (some ⟨rb, ro, none⟩) 2 ck) ∧ W'.cell? ⟨rb, ro, none⟩ = some (.string (S a.nm)) ∧ W'.cell? ⟨rb, ro + 1, none⟩ = some (.int .i64 a.n) ∧ W'.cell? ⟨rb, ro + 2, none⟩ = some (.slice qa a.ar.length da) ∧ W'.cell? ⟨rb, ro + 3, none⟩ = some (.string (S b.nm)) ∧ W'.cell? ⟨rb, ro + 4, none⟩ = some (.int .i64 b.n) ∧ W'.cell? ⟨rb, ro + 5, none⟩ = some (.slice qb b.ar.length db)) w2.drew := HSA.out w2.drew (HB02.out.trans ((below_drew w2).mono HB02.out.size)) y2
        refine take_D (i := 0) 33 (.pointer (some ⟨w.heap.size, 2, none⟩)) rfl rfl (by kernel_rfl) (by kernel_rfl) (by kernel_rfl) (by kernel_rfl) (fun _ _ _ h => h) (Or.inl ⟨by rfl, fun W' hW => by obtain ⟨s0, s1, s2, s3, s4, s5, s6⟩ := hW; go_simp⟩) hS ?_
        simp only [Act.put, List.setIfInBounds_toArray, List.set_cons_zero, List.set_cons_succ]
        refine take_D (i := 1) 34 (.slice (some ⟨rb, ro, none⟩) 2 ck) rfl rfl (by kernel_rfl) (by kernel_rfl) (by kernel_rfl) (by kernel_rfl) (fun _ _ _ h => h) (Or.inl ⟨by rfl, fun W' hW => by obtain ⟨s0, s1, s2, s3, s4, s5, s6⟩ := hW; go_simp⟩) hS ?_
        simp only [Act.put, List.setIfInBounds_toArray, List.set_cons_zero, List.set_cons_succ]
        refine take_D (i := 2) 35 (.pointer (some ⟨rb, ro, none⟩)) rfl rfl (by kernel_rfl) (by kernel_rfl) (by kernel_rfl) (by kernel_rfl) (fun _ _ _ h => h) (Or.inl ⟨by rfl, fun W' hW => by obtain ⟨s0, s1, s2, s3, s4, s5, s6⟩ := hW; go_simp⟩) hS ?_
        simp only [Act.put, List.setIfInBounds_toArray, List.set_cons_zero, List.set_cons_succ]
        refine take_D (i := 3) 36 (.agg #[.string (S a.nm), .int .i64 a.n, .slice qa a.ar.length da]) rfl rfl (by kernel_rfl) (by kernel_rfl) (by kernel_rfl) (by kernel_rfl) (fun _ _ _ h => h) (Or.inl ⟨by rfl, fun W' hW => by obtain ⟨s0, s1, s2, s3, s4, s5, s6⟩ := hW; go_simp⟩) hS ?_
        simp only [Act.put, List.setIfInBounds_toArray, List.set_cons_zero, List.set_cons_succ]
        refine take_D (i := 6) 39 (.pointer (some ⟨w.heap.size, 2, none⟩)) rfl rfl (by kernel_rfl) (by kernel_rfl) (by kernel_rfl) (by kernel_rfl) (fun _ _ _ h => h) (Or.inl ⟨by rfl, fun W' hW => by obtain ⟨s0, s1, s2, s3, s4, s5, s6⟩ := hW; go_simp⟩) hS ?_
        simp only [Act.put, List.setIfInBounds_toArray, List.set_cons_zero, List.set_cons_succ]
        refine take_D (i := 7) 40 (.slice (some ⟨rb, ro, none⟩) 2 ck) rfl rfl (by kernel_rfl) (by kernel_rfl) (by kernel_rfl) (by kernel_rfl) (fun _ _ _ h => h) (Or.inl ⟨by rfl, fun W' hW => by obtain ⟨s0, s1, s2, s3, s4, s5, s6⟩ := hW; go_simp⟩) hS ?_
        simp only [Act.put, List.setIfInBounds_toArray, List.set_cons_zero, List.set_cons_succ]
        refine take_D (i := 8) 41 (.pointer (some ⟨rb, ro + 3, none⟩)) rfl rfl (by kernel_rfl) (by kernel_rfl) (by kernel_rfl) (by kernel_rfl) (fun _ _ _ h => h) (Or.inl ⟨by rfl, fun W' hW => by obtain ⟨s0, s1, s2, s3, s4, s5, s6⟩ := hW; go_simp⟩) hS ?_
        simp only [Act.put, List.setIfInBounds_toArray, List.set_cons_zero, List.set_cons_succ]
        refine take_D (i := 9) 42 (.agg #[.string (S b.nm), .int .i64 b.n, .slice qb b.ar.length db]) rfl rfl (by kernel_rfl) (by kernel_rfl) (by kernel_rfl) (by kernel_rfl) (fun _ _ _ h => h) (Or.inl ⟨by rfl, fun W' hW => by obtain ⟨s0, s1, s2, s3, s4, s5, s6⟩ := hW; go_simp⟩) hS ?_
        simp only [Act.put, List.setIfInBounds_toArray, List.set_cons_zero, List.set_cons_succ]
        refine ready_J (rs := [4]) (by kernel_rfl) (by simp) ?_
        intro jj hjj
        obtain rfl := List.mem_singleton.1 hjj
        clear hjj
        refine op_J rfl rfl fun K hK => ?_
        go_simp
        refine HCA.out.mono ?_
        rintro r w3 ⟨rfl, hb3⟩
        have hb03 : Below w.heap.size w w3 := HB02.out.trans (((below_drew w2).trans hb3).mono HB02.out.size)
        have hx3 := HX2.out.below ((below_drew w2).trans hb3) HX2.out.lt
        clear y0 y1 y2 hS
        have y2 := hx3.cell 2
        simp only [List.getElem?_toArray, List.getElem?_cons_succ, List.getElem?_cons_zero] at y2
        have hS : (fun W' : World => W'.cell? ⟨w.heap.size, 2, none⟩ = some (.slice (some ⟨rb, ro, none⟩) 2 ck) ∧ W'.cell? ⟨rb, ro, none⟩ = some (.string (S a.nm)) ∧ W'.cell? ⟨rb, ro + 1, none⟩ = some (.int .i64 a.n) ∧ W'.cell? ⟨rb, ro + 2, none⟩ = some (.slice qa a.ar.length da) ∧ W'.cell? ⟨rb, ro + 3, none⟩ = some (.string (S b.nm)) ∧ W'.cell? ⟨rb, ro + 4, none⟩ = some (.int .i64 b.n) ∧ W'.cell? ⟨rb, ro + 5, none⟩ = some (.slice qb b.ar.length db)) w3 := HSA.out w3 hb03 y2
        have hcb := HB.out P w3 qb db (fun x hx => Nat.lt_of_lt_of_le (hP x hx) hb03.size) (TyIn.keep (KP.of_below hb03 hP) (fun x hx => hx) _ _ HINB.out)
        have HCB := hide hcb; have HB03 := hide hb03; have HX3 := hide hx3
        clear hcb hb03 hx3 hb3
        refine hK _ _ ⟨fun _ => hS, ?_⟩
        clear hK K
        refine take_D (i := 5) 38 (.string (S (atT a) ++ ⟨#[32, 45, 62, 32]⟩)) rfl rfl (by kernel_rfl) (by kernel_rfl) (by kernel_rfl) (by kernel_rfl) (fun _ _ _ h => h) (Or.inl ⟨by rfl, fun W' hW => by obtain ⟨s0, s1, s2, s3, s4, s5, s6⟩ := hW; go_simp⟩) hS ?_
        simp only [Act.put, List.setIfInBounds_toArray, List.set_cons_zero, List.set_cons_succ]
        refine ready_J (rs := [10]) (by kernel_rfl) (by simp) ?_
        intro jj hjj
        obtain rfl := List.mem_singleton.1 hjj
        clear hjj
        refine op_J rfl rfl fun K hK => ?_
        go_simp
        refine HCB.out.mono ?_
        rintro r w4 ⟨rfl, hb4⟩
        have hb04 : Below w.heap.size w w4 := HB03.out.trans (hb4.mono HB03.out.size)
        have hx4 := HX3.out.below hb4 HX3.out.lt
        clear y2 hS
        have y2 := hx4.cell 2
        simp only [List.getElem?_toArray, List.getElem?_cons_succ, List.getElem?_cons_zero] at y2
        have hS : (fun W' : World => W'.cell? ⟨w.heap.size, 2, none⟩ = some (.slice (some ⟨rb, ro, none⟩) 2 ck) ∧ W'.cell? ⟨rb, ro, none⟩ = some (.string (S a.nm)) ∧ W'.cell? ⟨rb, ro + 1, none⟩ = some (.int .i64 a.n) ∧ W'.cell? ⟨rb, ro + 2, none⟩ = some (.slice qa a.ar.length da) ∧ W'.cell? ⟨rb, ro + 3, none⟩ = some (.string (S b.nm)) ∧ W'.cell? ⟨rb, ro + 4, none⟩ = some (.int .i64 b.n) ∧ W'.cell? ⟨rb, ro + 5, none⟩ = some (.slice qb b.ar.length db)) w4 := HSA.out w4 hb04 y2
        have HB04 := hide hb04
        clear hb04 hx4 hb4
        refine hK _ _ ⟨fun _ => hS, ?_⟩
        clear hK K
        refine take_D (i := 11) 44 (.string (S (atT a) ++ ⟨#[32, 45, 62, 32]⟩ ++ S (atT b))) rfl rfl (by kernel_rfl) (by kernel_rfl) (by kernel_rfl) (by kernel_rfl) (fun _ _ _ h => h) (Or.inl ⟨by rfl, fun W' hW => by obtain ⟨s0, s1, s2, s3, s4, s5, s6⟩ := hW; go_simp⟩) hS ?_
        simp only [Act.put, List.setIfInBounds_toArray, List.set_cons_zero, List.set_cons_succ]
        refine take_D (i := 12) 2 (.string (S (atT a) ++ ⟨#[32, 45, 62, 32]⟩ ++ S (atT b))) rfl rfl (by kernel_rfl) (by kernel_rfl) (by kernel_rfl) (by kernel_rfl) (fun _ _ _ h => h) (Or.inl ⟨by rfl, fun W' hW => by obtain ⟨s0, s1, s2, s3, s4, s5, s6⟩ := hW; go_simp⟩) hS ?_
        simp only [Act.put, List.setIfInBounds_toArray, List.set_cons_zero, List.set_cons_succ]
        refine done_J (by kernel_rfl) ?_ _
        go_wp2_with fail
        go_ret
        refine ⟨?_, HB04.out⟩
        show Ending.returned (.string (S (atT a) ++ S [32, 45, 62, 32] ++ S (atT b))) = _
        rw [S_add, S_add, List.append_assoc]
        rfl
      · rw [txT_app t hne hf]
        rw [txT_app t hne hf] at hlen
        have htm := tm_of HE.out
        have hcase : (((S t.nm).toList == [45, 62]) = true ∧ (((t.ar.length : Nat) : Int) == 2) = false) ∨ ((S t.nm).toList == [45, 62]) = false := by
          rw [S_list]
          by_cases h1 : t.nm = [45, 62]
          · exact .inl ⟨by simp [h1], by
              have : t.ar.length ≠ 2 := fun h => hf ⟨h1, h⟩
              simp
              omega⟩
          · exact .inr (by simpa using h1)
        have hat : ∀ k ∈ t.ar, (atT k).length ≤ 1000000 := fun k hk => by
          obtain ⟨q, hq, rfl⟩ := List.getElem_of_mem hk
          obtain ⟨b, o, qk, dk, _, _, h4, _⟩ := tm_at htm hq
          have h1 := txT_len t.ar[q] h4 (hks _ hk)
          have h2 := atT_len (t := t.ar[q])
          have h3 := sum_take_two tsz t.ar q t.ar[q] (List.getElem?_eq_getElem hq)
          have hsz := tsz_eq t
          omega
        have HTM := hide htm; have HAT := hide hat
        clear htm hat hks hok ho1 hf
        generalize hjn : t.nm ++ (t.ar.flatMap fun k => 32 :: atT k) = jn at *
        have HJN := hide hjn
        unfold cs3 at *
        generalize hnk : t.ar.length = nk at *
        have HNK := hide hnk
        clear hjn hnk
        have hnm := S_size t.nm
        have HLEN := hide hlen
        clear hlen
        rcases hcase with ⟨hs1, hs2⟩ | hs1
        all_goals (
         skip
         go_enter Tryd.func41, Tryd.ntmps41
         go_wp2_with fail
         refine HI.out.mono ?_
         rintro r w1 ⟨rfl, hb1⟩
         have hx1 := HX.out.below hb1 HX.out.lt
         have hb01 := HB0.out.trans (hb1.mono (by simp))
         have HX1 := hide hx1; have HB01 := hide hb01
         clear x0 x1 x2
         have y0 := hx1.cell 0; have y1 := hx1.cell 1; have y2 := hx1.cell 2
         simp only [List.getElem?_toArray, List.getElem?_cons_succ, List.getElem?_cons_zero] at y0 y1 y2
         clear hb1 hx1 hb01
         go_wp2_with fail
         refine (HI2.out w1).mono ?_
         rintro r w2 ⟨rfl, hb2⟩
         have hx2 := HX1.out.below hb2 HX1.out.lt
         clear y0 y1 y2
         have y0 := hx2.cell 0; have y1 := hx2.cell 1; have y2 := hx2.cell 2
         simp only [List.getElem?_toArray, List.getElem?_cons_succ, List.getElem?_cons_zero] at y0 y1 y2
         have HB02 := hide (HB01.out.trans (hb2.mono HB01.out.size))
         have HX2 := hide hx2
         have hxl := hx2.lt
         clear hb2 hx2
         go_wp2_with fail
         go_loopg [3, 4] nk (fun k s3 s4 wr => ∃ (i : Nat), i ≤ nk ∧ k = nk - i ∧ s4 = .int .i64 i ∧ s3 = .string (S (t.nm ++ ((t.ar.take i).flatMap fun k => 32 :: atT k))) ∧ Below w2.heap.size w2 wr)
         case atStart => exact ⟨0, Nat.zero_le _, by omega, rfl, by simp, Below.refl _ w2⟩
         case round =>
           obtain ⟨i, hi1, rfl, rfl, rfl, hbr⟩ := hrel
           have HBR := hide hbr
           have hb0r : Below w.heap.size w wr := HB02.out.trans (hbr.mono HB02.out.size)
           have HB0R := hide hb0r
           have hx3 := HX2.out.below hbr HX2.out.lt
           clear y0 y1 y2
           have y0 := hx3.cell 0; have y1 := hx3.cell 1; have y2 := hx3.cell 2
           simp only [List.getElem?_toArray, List.getElem?_cons_succ, List.getElem?_cons_zero] at y0 y1 y2
           by_cases hlt : i < nk
           · have hil : i < t.ar.length := by rw [HNK.out]; exact hlt
             obtain ⟨rb, ro, qk, dk, hpk, hPb, hIn, a0, a1, a2⟩ := tm_at HTM.out hil
             have hcc : ∀ x, wr.cell? ⟨rb, x, none⟩ = w.cell? ⟨rb, x, none⟩ := fun x => hb0r.cell (p := ⟨rb, x, none⟩) (hP rb hPb)
             rw [← hcc] at a0 a1 a2
             have htk : t.nm ++ ((t.ar.take (i + 1)).flatMap fun k => 32 :: atT k) = (t.nm ++ ((t.ar.take i).flatMap fun k => 32 :: atT k)) ++ (32 :: atT t.ar[i]) := by rw [List.take_succ_eq_append_getElem hil, List.flatMap_append]; simp
             have hsub : (t.nm ++ ((t.ar.take i).flatMap fun k => 32 :: atT k)).length ≤ jn.length := by
               rw [← HJN.out]
               conv => rhs; rw [← List.take_append_drop i t.ar]
               rw [List.flatMap_append]
               simp only [List.length_append]
               omega
             have hmem := List.getElem_mem hil
             have hcall := HKS.out _ hmem P wr qk dk (fun x hx => Nat.lt_of_lt_of_le (hP x hx) hb0r.size) (TyIn.keep (KP.of_below hb0r hP) (fun x hx => hx) _ _ hIn)
             have hatk := HAT.out _ hmem
             have hln := HLEN.out
             unfold SQ at hcall
             subst hpk
             generalize t.ar[i] = kd at *
             generalize t.nm ++ ((t.ar.take i).flatMap fun k => 32 :: atT k) = so at *
             have hso := S_size so
             have hsk := S_size (atT kd)
             have HFS : Hid (S so ++ ⟨#[32]⟩ ++ S (atT kd) = S (so ++ (32 :: atT kd))) := hide (by show S so ++ S [32] ++ S (atT kd) = _; rw [S_add, S_add]; simp)
             generalize hsn : S (so ++ (32 :: atT kd)) = sn at *
             have HSN := hide hsn
             clear hsn
             generalize (atT kd).length = la at *
             generalize S (atT kd) = sk at *
             generalize so.length = lo at *
             generalize hSo : S so = ss at *
             have hz1 : ¬ 9223372036854775807 < lo + 1 := by omega
             have hz2 : ¬ 9223372036854775807 < lo + 1 + la := by omega
             have HC := hide hcall; have HTK := hide htk
             have hii : (i : Int) < nk := by omega
             clear hbr hcall htk hmem hcc hb0r hIn hx3 hsub hatk hln hSo
             unfold cs3 at HC
             go_wp2_with fail
             refine HC.out.mono ?_
             rintro r w4 ⟨rfl, hb4⟩
             have HB24 := hide (HBR.out.trans (hb4.mono HBR.out.size))
             clear hb4
             go_wp2_with fail
             go_roundg (nk - (i + 1))
             case measure => omega
             case rel => exact ⟨i + 1, by omega, rfl, by go_num, by rw [HTK.out, HSN.out, HFS.out], HB24.out⟩
           · have hii : ¬ (i : Int) < nk := by omega
             have hfull : t.ar.take i = t.ar := List.take_of_length_le (by rw [HNK.out]; omega)
             rw [hfull, HJN.out]
             clear hbr hb0r hx3 hfull
             go_wp2_with fail
             go_ret
             exact ⟨rfl, HB0R.out⟩)
set_option maxHeartbeats 4000000 in
set_option maxRecDepth 100000 in
theorem rText_any (t : Ty) {P : Nat → Prop} {w : World} {pk : Option Addr} {ck : Nat} (hP : ∀ b, P b → b < w.heap.size) (hE : TyIn P w t [.string (S t.nm), .int .i64 t.n, .slice pk t.ar.length ck]) : Calls Tryd.prog 21 #[.agg (cs3 t pk ck)] w (SQ (if chk t then txT t else []) w) := by
  have hB0 : Below w.heap.size w (w.alloc (.cells (cs3 t pk ck) 24)) := (Below.refl _ w).alloc (Nat.le_refl _) _
  have hX : Hold w.heap.size (cs3 t pk ck) 24 (w.alloc (.cells (cs3 t pk ck) 24)) := Hold.new w _ 24
  have hc := rcheck_any t (P := P) (w := w.alloc (.cells (cs3 t pk ck) 24)) (pk := pk) (ck := ck) (fun b hb => by have := hP b hb; simp; omega) (TyIn.keep (KP.of_below hB0 hP) (fun b hb => hb) _ _ hE)
  have x0 := hX.cell 0; have x1 := hX.cell 1; have x2 := hX.cell 2
  simp only [cs3, List.getElem?_toArray, List.getElem?_cons_succ, List.getElem?_cons_zero] at x0 x1 x2
  have HC := hide hc; have HB0 := hide hB0; have HX := hide hX; have HE := hide hE
  clear hc hB0 hX hE
  cases hch : chk t with
  | false =>
    rw [hch] at HC
    rw [if_neg (by simp)]
    unfold cs3 at *
    go_enter Tryd.func21, Tryd.ntmps21
    go_wp2_with fail
    refine HC.out.mono ?_
    rintro r w1 ⟨rfl, hb1⟩
    go_wp2_with fail
    go_ret
    exact ⟨rfl, HB0.out.trans (hb1.mono (by simp))⟩
  | true =>
    rw [hch] at HC
    rw [if_pos rfl]
    have hct := (chk_iff t).1 hch
    have htx := fun (W : World) (hb : Below w.heap.size w W) => rtext_any t hct.1 hct.2.2 P W pk ck (fun b hb' => Nat.lt_of_lt_of_le (hP b hb') hb.size) (TyIn.keep (KP.of_below hb hP) (fun b hb => hb) _ _ HE.out)
    have HT := hide htx
    clear htx
    unfold cs3 at *
    go_enter Tryd.func21, Tryd.ntmps21
    go_wp2_with fail
    refine HC.out.mono ?_
    rintro r w1 ⟨rfl, hb1⟩
    have hx1 := HX.out.below hb1 HX.out.lt
    clear x0 x1 x2
    have y0 := hx1.cell 0; have y1 := hx1.cell 1; have y2 := hx1.cell 2
    simp only [List.getElem?_toArray, List.getElem?_cons_succ, List.getElem?_cons_zero] at y0 y1 y2
    have hb01 : Below w.heap.size w w1 := HB0.out.trans (hb1.mono (by simp))
    have HB01 := hide hb01
    clear hb1 hx1 hb01
    go_wp2_with fail
    refine (HT.out w1 HB01.out).mono ?_
    rintro r w2 ⟨rfl, hb2⟩
    go_wp2_with fail
    go_ret
    exact ⟨rfl, HB01.out.trans (hb2.mono HB01.out.size)⟩
end Go.Proofs.YteoflpalmckikaaDoor
