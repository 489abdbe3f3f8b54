/-
  THE WALKS OF ty's text AND atom, AND OF ty.Text.
-/
import Derived.Test.YteoflpalmckikaaDoorTxtM
import Derived.Test.YteoflpalmckikaaDoorLayP
namespace Go.Proofs.YteoflpalmckikaaDoor
open Go.RowKit
set_option linter.unusedVariables false
set_option linter.unusedSimpArgs false
/-- A text that is made, with what was of old as it was. -/
def SQ (s : List UInt8) (w : World) (r : Ending) (w' : World) : Prop := r = .returned (.string (S s)) ∧ Below w.heap.size w w'
def TOK (t : Ty) : Prop := ∀ (P : Nat → Prop) (w : World) (pk : Option Addr) (ck : Nat), (∀ b, P b → b < w.heap.size) → GT w → TyIn P w t [.string (S t.nm), .int .i64 t.n, .slice pk t.ar.length ck] → Calls Tryd.prog 40 #[.agg (cs3 t pk ck)] w (SQ (txT t) w)
def AOK (t : Ty) : Prop := ∀ (P : Nat → Prop) (w : World) (pk : Option Addr) (ck : Nat), (∀ b, P b → b < w.heap.size) → GT w → TyIn P w t [.string (S t.nm), .int .i64 t.n, .slice pk t.ar.length ck] → Calls Tryd.prog 56 #[.agg (cs3 t pk ck)] w (SQ (atT t) w)
set_option maxHeartbeats 4000000 in
set_option maxRecDepth 100000 in
theorem atom_of {t : Ty} (hT : TOK t) (hl : (txT t).length ≤ 1000000) : AOK t := by
  intro P w pk ck hP hG hE
  have hB0 : Below w.heap.size w (w.alloc (.cells (cs3 t pk ck) 24)) := (Below.refl _ w).alloc (Nat.le_refl _) _
  have hX : Hold w.heap.size (cs3 t pk ck) 24 (w.alloc (.cells (cs3 t pk ck) 24)) := Hold.new w _ 24
  have hc := hT P (w.alloc (.cells (cs3 t pk ck) 24)) pk ck (fun b hb => by have := hP b hb; simp; omega) (hG.below hB0) (TyIn.keep (KP.of_below hB0 hP) (fun b hb => hb) _ _ hE)
  have HC := hide hc; have HB0 := hide hB0
  have hat : atT t = if t.ar.isEmpty then txT t else 40 :: (txT t ++ [41]) := rfl
  generalize atT t = at_ at *
  generalize hx : txT t = tx at *
  unfold cs3 at *
  have x0 := hX.cell 0; have x1 := hX.cell 1; have x2 := hX.cell 2
  simp only [List.getElem?_toArray, List.getElem?_cons_succ, List.getElem?_cons_zero] at x0 x1 x2
  clear hc hB0 hX hx hE hT
  cases hz : t.ar.isEmpty with
  | true =>
    rw [hz, if_pos rfl] at hat
    subst hat
    have hnl : t.ar.length = 0 := by simpa using hz
    generalize t.ar.length = nl at *
    subst hnl
    clear hz
    go_enter Tryd.func56, Tryd.ntmps56
    go_wp2_with fail
    refine HC.out.mono ?_
    rintro r w1 ⟨rfl, hb1⟩
    go_wp2_with fail
    go_ret
    exact ⟨rfl, HB0.out.trans (hb1.mono (by simp))⟩
  | false =>
    rw [hz, if_neg (by simp)] at hat
    subst hat
    have hnl : ((t.ar.length : Nat) : Int) ≠ 0 := by
      have : t.ar ≠ [] := by simpa using hz
      have := List.length_pos_iff.2 this
      omega
    generalize t.ar.length = nl at *
    have hnz : ((nl : Int) == 0) = false := by simpa using hnl
    have hsz := S_size tx
    clear hz
    go_enter Tryd.func56, Tryd.ntmps56
    go_wp2_with fail
    refine HC.out.mono ?_
    rintro r w1 ⟨rfl, hb1⟩
    go_wp2_with fail
    go_ret
    refine ⟨?_, HB0.out.trans (hb1.mono (by simp))⟩
    show Ending.returned (.string (S [40] ++ S tx ++ S [41])) = _
    rw [S_add, S_add]
    rfl
def strV (l : List (List UInt8)) : List Value := l.map fun s => .string (S s)
theorem strV_at {l : List (List UInt8)} {i : Nat} {x : List UInt8} (h : l[i]? = some x) : (strV l)[i]? = some (.string (S x)) := by unfold strV; rw [List.getElem?_map, h]; rfl
theorem row_one (w : World) (s : List UInt8) : (w.alloc (.cells #[.string (S s)] 9)).ownsRow w.heap.size 9 1 (.slice (some ⟨w.heap.size, 0, none⟩) 1 1) 1 (strV [s]) :=
  ⟨rfl, .inr ⟨_, _, _, rfl, Nat.le_refl _, Hold.new w _ 9, by omega, by unfold maxLen; omega, rfl, rfl⟩⟩
theorem rune26 : ∀ k : Nat, k < 26 → Utf8.encode (97 + (k : Int)) = S [UInt8.ofNat (97 + k)] := by decide
set_option maxHeartbeats 8000000 in
set_option maxRecDepth 100000 in
theorem text_any (t : Ty) : allT ok1 t = true → tsz t ≤ 2000 → TOK t := by
  induction t using Ty.ind with
  | _ t ih =>
    intro hok htz P w pk ck hP hG hE
    obtain ⟨ho1, hks⟩ := allT_kid hok
    have hlen := txT_len t hE hok
    obtain ⟨hnl, hn1, hn2⟩ := hE.bds
    have hB0 : Below w.heap.size w (w.alloc (.cells (cs3 t pk ck) 24)) := (Below.refl _ w).alloc (Nat.le_refl _) _
    have hX : Hold w.heap.size (cs3 t pk ck) 24 (w.alloc (.cells (cs3 t pk ck) 24)) := Hold.new w _ 24
    have hih := isHole_any t (w.alloc (.cells (cs3 t pk ck) 24)) pk ck
    have HI := hide hih; have HB0 := hide hB0; have HX := hide hX; have HG := hide (hG.below hB0)
    have hkl := hE.len
    have HE := hide hE
    have x0 := hX.cell 0; have x1 := hX.cell 1; have x2 := hX.cell 2
    simp only [cs3, List.getElem?_toArray, List.getElem?_cons_succ, List.getElem?_cons_zero] at x0 x1 x2
    clear hih hB0 hX hE hG
    by_cases hh : t.nm.isEmpty = true
    · rw [hh] at HI
      by_cases h26 : t.n < 26
      · have hpos := (ok1_hole t ho1 hh).1
        rw [txT_let t hh h26]
        generalize t.ar.length = nl at *
        unfold cs3 at *
        clear ih
        go_enter Tryd.func40, Tryd.ntmps40
        go_wp2_with fail
        refine HI.out.mono ?_
        rintro r w1 ⟨rfl, hb1⟩
        have hx1 := HX.out.below hb1 HX.out.lt
        have y0 := hx1.cell 0; have y1 := hx1.cell 1; have y2 := hx1.cell 2
        simp only [List.getElem?_toArray, List.getElem?_cons_succ, List.getElem?_cons_zero] at y0 y1 y2
        go_wp2_with fail
        go_ret
        refine ⟨?_, HB0.out.trans (hb1.mono (by simp))⟩
        obtain ⟨k, hk⟩ : ∃ k : Nat, t.n = k := ⟨t.n.toNat, by omega⟩
        rw [hk, rune26 k (by omega)]
        rfl
      · rw [txT_num t hh h26]
        have hit := Lib.itoa_length_le t.n hn1 hn2
        have hcall := fun (W : World) (hg : GT W) => itoa_any t.n hn1 hn2 hg
        have HC := hide hcall
        generalize t.ar.length = nl at *
        generalize Lib.itoa t.n = it at *
        unfold cs3 at *
        clear ih hcall
        go_enter Tryd.func40, Tryd.ntmps40
        go_wp2_with fail
        refine HI.out.mono ?_
        rintro r w1 ⟨rfl, hb1⟩
        have hx1 := HX.out.below hb1 HX.out.lt
        have y0 := hx1.cell 0; have y1 := hx1.cell 1; have y2 := hx1.cell 2
        simp only [List.getElem?_toArray, List.getElem?_cons_succ, List.getElem?_cons_zero] at y0 y1 y2
        go_wp2_with fail
        have hb01 := HB0.out.trans (hb1.mono (by simp))
        have hi2 := isHole_any t w1 pk ck
        rw [hh] at hi2
        have HG1 := hide (HG.out.below hb1)
        have HX1 := hide hx1; have HB01 := hide hb01
        clear hb1 hx1 y0 y1 y2
        refine hi2.mono ?_
        rintro r w2 ⟨rfl, hb2⟩
        have hx2 := HX1.out.below hb2 HX1.out.lt
        have y0 := hx2.cell 0; have y1 := hx2.cell 1; have y2 := hx2.cell 2
        simp only [cs3, List.getElem?_toArray, List.getElem?_cons_succ, List.getElem?_cons_zero] at y0 y1 y2
        have HG2 := hide (HG1.out.below hb2)
        have HB02 := hide (HB01.out.trans (hb2.mono HB01.out.size))
        have hits := S_size it
        clear hb2 hx2
        go_wp2_with fail
        refine (HC.out w2 HG2.out).mono ?_
        rintro r w3 ⟨rfl, hb3⟩
        go_wp2_with fail
        go_ret
        refine ⟨?_, HB02.out.trans (hb3.mono HB02.out.size)⟩
        show Ending.returned (.string (S [116] ++ S it)) = _
        rw [S_add]
        rfl
    · have hne : t.nm.isEmpty = false := by simpa using hh
      rw [hne] at HI
      have hi2 := fun (W : World) => isHole_any t W pk ck
      rw [hne] at hi2
      have HI2 := hide hi2
      have HKS : Hid (∀ k ∈ t.ar, AOK k) := hide fun k hk => by
        have hsz := tsz_eq t
        obtain ⟨q, hq, rfl⟩ := List.getElem_of_mem hk
        have := sum_take_two tsz t.ar q t.ar[q] (List.getElem?_eq_getElem hq)
        have h3 : tsz t.ar[q] ≤ 2000 := by omega
        refine atom_of (ih _ hk (hks _ hk) h3) ?_
        obtain ⟨b, o, qk, dk, _, _, h4, _⟩ := tm_at (tm_of HE.out) hq
        have := txT_len t.ar[q] h4 (hks _ hk)
        omega
      clear hi2 ih
      by_cases hf : t.nm = [45, 62] ∧ t.ar.length = 2
      · obtain ⟨hf1, hf2⟩ := hf
        obtain ⟨a, b, hab⟩ : ∃ a b, t.ar = [a, b] := by
          match ht : t.ar with
          | [a, b] => exact ⟨a, b, rfl⟩
          | [] => rw [ht] at hf2; cases hf2
          | [_] => rw [ht] at hf2; cases hf2
          | _ :: _ :: _ :: _ => rw [ht] at hf2; simp at hf2
        rw [txT_fun t hf1 a b hab]
        have htm := tm_of HE.out
        rw [hab] at htm
        obtain ⟨rb, ro, qa, da, rfl, hPb, hInA, a0, a1, a2⟩ := tm_at htm (i := 0) (by simp)
        obtain ⟨rb', ro', qb, db, hpe, _, hInB, b0, b1, b2⟩ := tm_at htm (i := 1) (by simp)
        cases hpe
        simp only [List.getElem_cons_zero, List.getElem_cons_succ] at hInA a0 a1 a2 hInB b0 b1 b2
        have hA := HKS.out a (by rw [hab]; simp)
        have hB := HKS.out b (by rw [hab]; simp)
        have hla := txT_len a hInA (hks a (by rw [hab]; simp))
        have hlb := txT_len b hInB (hks b (by rw [hab]; simp))
        have hla2 := atT_len (t := a)
        have hlb2 := atT_len (t := b)
        have hsz := tsz_eq t
        rw [hab] at hsz
        simp only [List.map_cons, List.map_nil, List.sum_cons, List.sum_nil] at hsz
        have hAT := S_size (atT a)
        have hBT := S_size (atT b)
        have hse : (S t.nm).toList = [45, 62] := by rw [S_list]; exact hf1
        have HA := hide hA; have HB := hide hB; have HINA := hide hInA; have HINB := hide hInB
        have HA0 := hide a0; have HA1 := hide a1; have HA2 := hide a2; have HB0' := hide b0; have HB1' := hide b1; have HB2' := hide b2
        have hz1 : ¬ 9223372036854775807 < (atT a).length + 4 := by omega
        have hz2 : ¬ 9223372036854775807 < (atT a).length + 4 + (atT b).length := by omega
        clear hA hB hInA hInB htm HKS hks hok ho1 hf1 a0 a1 a2 b0 b1 b2
        unfold cs3 at *
        rw [hf2] at HI HX HI2 HB0 HG x0 x1 x2 ⊢
        go_enter Tryd.func40, Tryd.ntmps40
        go_wp2_with fail
        refine HI.out.mono ?_
        rintro r w1 ⟨rfl, hb1⟩
        have hx1 := HX.out.below hb1 HX.out.lt
        have hb01 := HB0.out.trans (hb1.mono (by simp))
        have HG1 := hide (HG.out.below hb1)
        have HX1 := hide hx1; have HB01 := hide hb01
        clear x0 x1 x2
        have y0 := hx1.cell 0; have y1 := hx1.cell 1; have y2 := hx1.cell 2
        simp only [List.getElem?_toArray, List.getElem?_cons_succ, List.getElem?_cons_zero] at y0 y1 y2
        clear hb1 hx1 hb01
        go_wp2_with fail
        refine (HI2.out w1).mono ?_
        rintro r w2 ⟨rfl, hb2⟩
        have hx2 := HX1.out.below hb2 HX1.out.lt
        clear y0 y1 y2
        have y0 := hx2.cell 0; have y1 := hx2.cell 1; have y2 := hx2.cell 2
        simp only [List.getElem?_toArray, List.getElem?_cons_succ, List.getElem?_cons_zero] at y0 y1 y2
        have HG2 := hide (HG1.out.below hb2)
        have HB02 := hide (HB01.out.trans (hb2.mono HB01.out.size))
        have HX2 := hide hx2
        clear hb2 hx2
        go_upto_region 6 with fail
        have hcl : ∀ (W : World), Below w.heap.size w W → ∀ x, W.cell? ⟨rb, x, none⟩ = w.cell? ⟨rb, x, none⟩ := fun W hb x => hb.cell (p := ⟨rb, x, none⟩) (hP rb hPb)
        have a0 := HA0.out; have a1 := HA1.out; have a2 := HA2.out; have b0 := HB0'.out; have b1 := HB1'.out; have b2 := HB2'.out
        simp only [Nat.zero_mul, Nat.add_zero, Nat.one_mul, Nat.add_assoc, Nat.reduceAdd] at a0 a1 a2 b0 b1 b2
        have hSall : ∀ (W : World), Below w.heap.size w W → W.cell? ⟨w.heap.size, 2, none⟩ = some (.slice (some ⟨rb, ro, none⟩) 2 ck) → (fun W' : World => W'.cell? ⟨w.heap.size, 2, none⟩ = some (.slice (some ⟨rb, ro, none⟩) 2 ck) ∧ W'.cell? ⟨rb, ro, none⟩ = some (.string (S a.nm)) ∧ W'.cell? ⟨rb, ro + 1, none⟩ = some (.int .i64 a.n) ∧ W'.cell? ⟨rb, ro + 2, none⟩ = some (.slice qa a.ar.length da) ∧ W'.cell? ⟨rb, ro + 3, none⟩ = some (.string (S b.nm)) ∧ W'.cell? ⟨rb, ro + 4, none⟩ = some (.int .i64 b.n) ∧ W'.cell? ⟨rb, ro + 5, none⟩ = some (.slice qb b.ar.length db)) W := fun W hb h => ⟨h, (hcl W hb _).trans a0, (hcl W hb _).trans a1, (hcl W hb _).trans a2, (hcl W hb _).trans b0, (hcl W hb _).trans b1, (hcl W hb _).trans b2⟩
        have HSA := hide hSall
        have hca := HA.out P w2.drew qa da (fun x hx => Nat.lt_of_lt_of_le (hP x hx) HB02.out.size) (HG2.out.below (below_drew w2)) (TyIn.keep ((KP.of_below HB02.out hP).drew) (fun x hx => hx) _ _ HINA.out)
        have HCA := hide hca
        clear hcl hSall a0 a1 a2 b0 b1 b2 hca
        refine region_J 13 (N := 13) (S := (fun W' : World => W'.cell? ⟨w.heap.size, 2, none⟩ = some (.slice (some ⟨rb, ro, none⟩) 2 ck) ∧ W'.cell? ⟨rb, ro, none⟩ = some (.string (S a.nm)) ∧ W'.cell? ⟨rb, ro + 1, none⟩ = some (.int .i64 a.n) ∧ W'.cell? ⟨rb, ro + 2, none⟩ = some (.slice qa a.ar.length da) ∧ W'.cell? ⟨rb, ro + 3, none⟩ = some (.string (S b.nm)) ∧ W'.cell? ⟨rb, ro + 4, none⟩ = some (.int .i64 b.n) ∧ W'.cell? ⟨rb, ro + 5, none⟩ = some (.slice qb b.ar.length db))) (by kernel_rfl) (by kernel_rfl) ?_
        have hS : (fun W' : World => W'.cell? ⟨w.heap.size, 2, none⟩ = some (.slice (some ⟨rb, ro, none⟩) 2 ck) ∧ W'.cell? ⟨rb, ro, none⟩ = some (.string (S a.nm)) ∧ W'.cell? ⟨rb, ro + 1, none⟩ = some (.int .i64 a.n) ∧ W'.cell? ⟨rb, ro + 2, none⟩ = some (.slice qa a.ar.length da) ∧ W'.cell? ⟨rb, ro + 3, none⟩ = some (.string (S b.nm)) ∧ W'.cell? ⟨rb, ro + 4, none⟩ = some (.int .i64 b.n) ∧ W'.cell? ⟨rb, ro + 5, none⟩ = some (.slice qb b.ar.length db)) w2.drew := HSA.out w2.drew (HB02.out.trans ((below_drew w2).mono HB02.out.size)) y2
        refine take_D (i := 0) 36 (.pointer (some ⟨w.heap.size, 2, none⟩)) rfl rfl (by kernel_rfl) (by kernel_rfl) (by kernel_rfl) (by kernel_rfl) (fun _ _ _ h => h) (Or.inl ⟨by rfl, fun W' hW => by obtain ⟨s0, s1, s2, s3, s4, s5, s6⟩ := hW; go_simp⟩) hS ?_
        simp only [Act.put, List.setIfInBounds_toArray, List.set_cons_zero, List.set_cons_succ]
        refine take_D (i := 1) 37 (.slice (some ⟨rb, ro, none⟩) 2 ck) rfl rfl (by kernel_rfl) (by kernel_rfl) (by kernel_rfl) (by kernel_rfl) (fun _ _ _ h => h) (Or.inl ⟨by rfl, fun W' hW => by obtain ⟨s0, s1, s2, s3, s4, s5, s6⟩ := hW; go_simp⟩) hS ?_
        simp only [Act.put, List.setIfInBounds_toArray, List.set_cons_zero, List.set_cons_succ]
        refine take_D (i := 2) 38 (.pointer (some ⟨rb, ro, none⟩)) rfl rfl (by kernel_rfl) (by kernel_rfl) (by kernel_rfl) (by kernel_rfl) (fun _ _ _ h => h) (Or.inl ⟨by rfl, fun W' hW => by obtain ⟨s0, s1, s2, s3, s4, s5, s6⟩ := hW; go_simp⟩) hS ?_
        simp only [Act.put, List.setIfInBounds_toArray, List.set_cons_zero, List.set_cons_succ]
        refine take_D (i := 3) 39 (.agg #[.string (S a.nm), .int .i64 a.n, .slice qa a.ar.length da]) rfl rfl (by kernel_rfl) (by kernel_rfl) (by kernel_rfl) (by kernel_rfl) (fun _ _ _ h => h) (Or.inl ⟨by rfl, fun W' hW => by obtain ⟨s0, s1, s2, s3, s4, s5, s6⟩ := hW; go_simp⟩) hS ?_
        simp only [Act.put, List.setIfInBounds_toArray, List.set_cons_zero, List.set_cons_succ]
        refine take_D (i := 6) 42 (.pointer (some ⟨w.heap.size, 2, none⟩)) rfl rfl (by kernel_rfl) (by kernel_rfl) (by kernel_rfl) (by kernel_rfl) (fun _ _ _ h => h) (Or.inl ⟨by rfl, fun W' hW => by obtain ⟨s0, s1, s2, s3, s4, s5, s6⟩ := hW; go_simp⟩) hS ?_
        simp only [Act.put, List.setIfInBounds_toArray, List.set_cons_zero, List.set_cons_succ]
        refine take_D (i := 7) 43 (.slice (some ⟨rb, ro, none⟩) 2 ck) rfl rfl (by kernel_rfl) (by kernel_rfl) (by kernel_rfl) (by kernel_rfl) (fun _ _ _ h => h) (Or.inl ⟨by rfl, fun W' hW => by obtain ⟨s0, s1, s2, s3, s4, s5, s6⟩ := hW; go_simp⟩) hS ?_
        simp only [Act.put, List.setIfInBounds_toArray, List.set_cons_zero, List.set_cons_succ]
        refine take_D (i := 8) 44 (.pointer (some ⟨rb, ro + 3, none⟩)) rfl rfl (by kernel_rfl) (by kernel_rfl) (by kernel_rfl) (by kernel_rfl) (fun _ _ _ h => h) (Or.inl ⟨by rfl, fun W' hW => by obtain ⟨s0, s1, s2, s3, s4, s5, s6⟩ := hW; go_simp⟩) hS ?_
        simp only [Act.put, List.setIfInBounds_toArray, List.set_cons_zero, List.set_cons_succ]
        refine take_D (i := 9) 45 (.agg #[.string (S b.nm), .int .i64 b.n, .slice qb b.ar.length db]) rfl rfl (by kernel_rfl) (by kernel_rfl) (by kernel_rfl) (by kernel_rfl) (fun _ _ _ h => h) (Or.inl ⟨by rfl, fun W' hW => by obtain ⟨s0, s1, s2, s3, s4, s5, s6⟩ := hW; go_simp⟩) hS ?_
        simp only [Act.put, List.setIfInBounds_toArray, List.set_cons_zero, List.set_cons_succ]
        refine ready_J (rs := [4]) (by kernel_rfl) (by simp) ?_
        intro jj hjj
        obtain rfl := List.mem_singleton.1 hjj
        clear hjj
        refine op_J rfl rfl fun K hK => ?_
        go_simp
        refine HCA.out.mono ?_
        rintro r w3 ⟨rfl, hb3⟩
        have hb03 : Below w.heap.size w w3 := HB02.out.trans (((below_drew w2).trans hb3).mono HB02.out.size)
        have hx3 := HX2.out.below ((below_drew w2).trans hb3) HX2.out.lt
        clear y0 y1 y2 hS
        have y2 := hx3.cell 2
        simp only [List.getElem?_toArray, List.getElem?_cons_succ, List.getElem?_cons_zero] at y2
        have hS : (fun W' : World => W'.cell? ⟨w.heap.size, 2, none⟩ = some (.slice (some ⟨rb, ro, none⟩) 2 ck) ∧ W'.cell? ⟨rb, ro, none⟩ = some (.string (S a.nm)) ∧ W'.cell? ⟨rb, ro + 1, none⟩ = some (.int .i64 a.n) ∧ W'.cell? ⟨rb, ro + 2, none⟩ = some (.slice qa a.ar.length da) ∧ W'.cell? ⟨rb, ro + 3, none⟩ = some (.string (S b.nm)) ∧ W'.cell? ⟨rb, ro + 4, none⟩ = some (.int .i64 b.n) ∧ W'.cell? ⟨rb, ro + 5, none⟩ = some (.slice qb b.ar.length db)) w3 := HSA.out w3 hb03 y2
        have hcb := HB.out P w3 qb db (fun x hx => Nat.lt_of_lt_of_le (hP x hx) hb03.size) (HG2.out.below ((below_drew w2).trans hb3)) (TyIn.keep (KP.of_below hb03 hP) (fun x hx => hx) _ _ HINB.out)
        have HCB := hide hcb; have HB03 := hide hb03; have HX3 := hide hx3
        clear hcb hb03 hx3 hb3
        refine hK _ _ ⟨fun _ => hS, ?_⟩
        clear hK K
        refine take_D (i := 5) 41 (.string (S (atT a) ++ ⟨#[32, 45, 62, 32]⟩)) rfl rfl (by kernel_rfl) (by kernel_rfl) (by kernel_rfl) (by kernel_rfl) (fun _ _ _ h => h) (Or.inl ⟨by rfl, fun W' hW => by obtain ⟨s0, s1, s2, s3, s4, s5, s6⟩ := hW; go_simp⟩) hS ?_
        simp only [Act.put, List.setIfInBounds_toArray, List.set_cons_zero, List.set_cons_succ]
        refine ready_J (rs := [10]) (by kernel_rfl) (by simp) ?_
        intro jj hjj
        obtain rfl := List.mem_singleton.1 hjj
        clear hjj
        refine op_J rfl rfl fun K hK => ?_
        go_simp
        refine HCB.out.mono ?_
        rintro r w4 ⟨rfl, hb4⟩
        have hb04 : Below w.heap.size w w4 := HB03.out.trans (hb4.mono HB03.out.size)
        have hx4 := HX3.out.below hb4 HX3.out.lt
        clear y2 hS
        have y2 := hx4.cell 2
        simp only [List.getElem?_toArray, List.getElem?_cons_succ, List.getElem?_cons_zero] at y2
        have hS : (fun W' : World => W'.cell? ⟨w.heap.size, 2, none⟩ = some (.slice (some ⟨rb, ro, none⟩) 2 ck) ∧ W'.cell? ⟨rb, ro, none⟩ = some (.string (S a.nm)) ∧ W'.cell? ⟨rb, ro + 1, none⟩ = some (.int .i64 a.n) ∧ W'.cell? ⟨rb, ro + 2, none⟩ = some (.slice qa a.ar.length da) ∧ W'.cell? ⟨rb, ro + 3, none⟩ = some (.string (S b.nm)) ∧ W'.cell? ⟨rb, ro + 4, none⟩ = some (.int .i64 b.n) ∧ W'.cell? ⟨rb, ro + 5, none⟩ = some (.slice qb b.ar.length db)) w4 := HSA.out w4 hb04 y2
        have HB04 := hide hb04
        clear hb04 hx4 hb4
        refine hK _ _ ⟨fun _ => hS, ?_⟩
        clear hK K
        refine take_D (i := 11) 47 (.string (S (atT a) ++ ⟨#[32, 45, 62, 32]⟩ ++ S (atT b))) rfl rfl (by kernel_rfl) (by kernel_rfl) (by kernel_rfl) (by kernel_rfl) (fun _ _ _ h => h) (Or.inl ⟨by rfl, fun W' hW => by obtain ⟨s0, s1, s2, s3, s4, s5, s6⟩ := hW; go_simp⟩) hS ?_
        simp only [Act.put, List.setIfInBounds_toArray, List.set_cons_zero, List.set_cons_succ]
        refine take_D (i := 12) 2 (.string (S (atT a) ++ ⟨#[32, 45, 62, 32]⟩ ++ S (atT b))) rfl rfl (by kernel_rfl) (by kernel_rfl) (by kernel_rfl) (by kernel_rfl) (fun _ _ _ h => h) (Or.inl ⟨by rfl, fun W' hW => by obtain ⟨s0, s1, s2, s3, s4, s5, s6⟩ := hW; go_simp⟩) hS ?_
        simp only [Act.put, List.setIfInBounds_toArray, List.set_cons_zero, List.set_cons_succ]
        refine done_J (by kernel_rfl) ?_ _
        go_wp2_with fail
        go_ret
        refine ⟨?_, HB04.out⟩
        show Ending.returned (.string (S (atT a) ++ S [32, 45, 62, 32] ++ S (atT b))) = _
        rw [S_add, S_add, List.append_assoc]
        rfl
      · rw [txT_app t hne hf]
        rw [txT_app t hne hf] at hlen
        have hfin : Lib.join (t.nm :: t.ar.map atT) [32] = t.nm ++ (t.ar.flatMap fun k => 32 :: atT k) := by rw [join_sp, List.flatMap_map]
        rw [← hfin]
        rw [← hfin] at hlen
        have htm := tm_of HE.out
        have hcase : (((S t.nm).toList == [45, 62]) = true ∧ (((t.ar.length : Nat) : Int) == 2) = false) ∨ ((S t.nm).toList == [45, 62]) = false := by
          rw [S_list]
          by_cases h1 : t.nm = [45, 62]
          · exact .inl ⟨by simp [h1], by
              have : t.ar.length ≠ 2 := fun h => hf ⟨h1, h⟩
              simp
              omega⟩
          · exact .inr (by simpa using h1)
        have hat : ∀ k ∈ t.ar, (atT k).length ≤ 1000000 := fun k hk => by
          obtain ⟨q, hq, rfl⟩ := List.getElem_of_mem hk
          obtain ⟨b, o, qk, dk, _, _, h4, _⟩ := tm_at htm hq
          have h1 := txT_len t.ar[q] h4 (hks _ hk)
          have h2 := atT_len (t := t.ar[q])
          have h3 := sum_take_two tsz t.ar q t.ar[q] (List.getElem?_eq_getElem hq)
          have hsz := tsz_eq t
          omega
        have hal : t.ar.length ≤ 2000 := by have := ar_le t; have hsz := tsz_eq t; omega
        have HTM := hide htm; have HAT := hide hat; have HFIN := hide hfin
        clear htm hat hfin hks hok ho1 hf
        have hjl2 : (Lib.join (t.nm :: t.ar.map atT) [32]).length ≤ 140737488355328 := by omega
        have HJL := hide hjl2
        clear hjl2 hlen
        obtain ⟨i0, hi, hz0, hz1, hz2⟩ := info_parts info9
        generalize hjn : Lib.join (t.nm :: t.ar.map atT) [32] = jn at *
        have HJN := hide hjn
        unfold cs3 at *
        generalize hnk : t.ar.length = nk at *
        have HNK := hide hnk
        clear hjn hnk
        have hnm := S_size t.nm
        rcases hcase with ⟨hs1, hs2⟩ | hs1
        all_goals (
         skip
         go_enter Tryd.func40, Tryd.ntmps40
         go_wp2_with fail
         refine HI.out.mono ?_
         rintro r w1 ⟨rfl, hb1⟩
         have hx1 := HX.out.below hb1 HX.out.lt
         have hb01 := HB0.out.trans (hb1.mono (by simp))
         have HG1 := hide (HG.out.below hb1)
         have HX1 := hide hx1; have HB01 := hide hb01
         clear x0 x1 x2
         have y0 := hx1.cell 0; have y1 := hx1.cell 1; have y2 := hx1.cell 2
         simp only [List.getElem?_toArray, List.getElem?_cons_succ, List.getElem?_cons_zero] at y0 y1 y2
         clear hb1 hx1 hb01
         go_wp2_with fail
         refine (HI2.out w1).mono ?_
         rintro r w2 ⟨rfl, hb2⟩
         have hx2 := HX1.out.below hb2 HX1.out.lt
         clear y0 y1 y2
         have y0 := hx2.cell 0; have y1 := hx2.cell 1; have y2 := hx2.cell 2
         simp only [List.getElem?_toArray, List.getElem?_cons_succ, List.getElem?_cons_zero] at y0 y1 y2
         have HG2 := hide (HG1.out.below hb2)
         have HB02 := hide (HB01.out.trans (hb2.mono HB01.out.size))
         have HX2 := hide hx2
         have hxl := hx2.lt
         clear hb2 hx2
         go_wp2_with fail
         go_loopg [3, 54] nk (fun k s3 s54 wr => ∃ (i : Nat) (g c : Nat), i ≤ nk ∧ k = nk - i ∧ s54 = .int .i64 i ∧ s3 = .slice (some ⟨g, 0, none⟩) (i + 1) c ∧ wr.ownsRow w2.heap.size 9 1 s3 (i + 1) (strV (t.nm :: (t.ar.take i).map atT)) ∧ Below w2.heap.size w2 wr)
         case atStart => exact ⟨0, _, _, Nat.zero_le _, by omega, rfl, rfl, row_one w2 t.nm, (Below.refl _ w2).alloc (Nat.le_refl _) _⟩
         case round =>
           obtain ⟨i, g, c, hi1, rfl, rfl, rfl, hrow, hbr⟩ := hrel
           have HROW := hide hrow; have HBR := hide hbr
           have hgb := row_own hrow rfl
           have hb0r : Below w.heap.size w wr := HB02.out.trans (hbr.mono HB02.out.size)
           have HB0R := hide hb0r
           have hgr : GT wr := HG2.out.below hbr
           have HGR := hide hgr
           by_cases hlt : i < nk
           · have hil : i < t.ar.length := by rw [HNK.out]; exact hlt
             obtain ⟨rb, ro, qk, dk, hpk, hPb, hIn, a0, a1, a2⟩ := tm_at HTM.out hil
             have hcc : ∀ x, wr.cell? ⟨rb, x, none⟩ = w.cell? ⟨rb, x, none⟩ := fun x => hb0r.cell (p := ⟨rb, x, none⟩) (hP rb hPb)
             rw [← hcc] at a0 a1 a2
             have htk : (t.ar.take (i + 1)).map atT = (t.ar.take i).map atT ++ [atT t.ar[i]] := by rw [List.take_succ_eq_append_getElem hil, List.map_append, List.map_singleton]
             have hmem := List.getElem_mem hil
             have hcall := HKS.out _ hmem P (wr.alloc (.cells #[.string (S t.ar[i].nm), .int .i64 t.ar[i].n, .slice qk t.ar[i].ar.length dk] 24)) qk dk (fun x hx => by have := hP x hx; have := hb0r.size; simp; omega) (hgr.below ((Below.refl _ wr).alloc (Nat.le_refl _) _)) (TyIn.keep ((KP.of_below hb0r hP).trans (KP.alloc _ _ fun x hx => Nat.lt_of_lt_of_le (hP x hx) hb0r.size)) (fun x hx => hx) _ _ hIn)
             have hatk := HAT.out _ hmem
             subst hpk
             generalize t.ar[i] = kd at *
             have HC := hide hcall; have HTK := hide htk
             have hii : (i : Int) < nk := by omega
             clear hrow hbr hcall htk hmem hcc hb0r hgr hIn
             unfold cs3 at *
             go_wp2_with fail
             refine HC.out.mono ?_
             rintro r w4 ⟨rfl, hb4⟩
             have hs4 : wr.heap.size + 1 ≤ w4.heap.size := by have := hb4.size; simp at this; omega
             have hb24 : Below w2.heap.size w2 w4 := HBR.out.trans ((((Below.refl _ wr).alloc (Nat.le_refl _) _).trans (hb4.mono (by simp))).mono HBR.out.size)
             have hrow4 : w4.ownsRow w2.heap.size 9 1 (.slice (some ⟨g, 0, none⟩) (i + 1) c) (i + 1) (strV (t.nm :: (t.ar.take i).map atT)) := row_keep HROW.out fun b hb hl => (hb4.block b (by simp; omega)).trans (Below.heap_alloc _ _ b hl)
             have HROW4 := hide hrow4; have HB24 := hide hb24
             have hnews := cells_new w4 [.string (S (atT kd))] 9
             have hones : ∀ u ∈ ([.string (S (atT kd))] : List Value), u.oneCell' = true := by simp [Value.oneCell']
             clear hrow4 hb24 hb4
             go_wp2_with (first
               | (at_builtin; refine wpList_append_lies _ rfl _ _ 72 rfl w2.heap.size 9 i0 _ 1 16 Tryd.underlying72 hi hz0 hz1 hz2 rfl (by omega) (.slice (some ⟨g, 0, none⟩) (i + 1) c) (i + 1) (strV (t.nm :: (t.ar.take i).map atT)) rfl (HROW4.out.alloc _) ⟨w4.heap.size, 0, none⟩ 1 1 [.string (S (atT kd))] rfl rfl hnews hones (by omega) (by unfold maxLen; omega) (by omega) (by simp; omega) (w4.heap.size + 1) (by simp) ?_; intro g2 cap2 w5 hown5 hgr5 hat5 hlt5
                  have HOWN5 := hide hown5; have HGR5 := hide hgr5
                  clear hown5 hgr5 hat5
                  go_frame)
               | fail)
             have hgne : ∀ b, b < w2.heap.size → some b ≠ (Value.slice (some ⟨g, 0, none⟩) (i + 1) c).ownBlock := fun b hb e => by
               have e' : b = g := by simpa [Value.ownBlock] using e
               omega
             have hb5 : Below w2.heap.size w2 w5 := HB24.out.trans ((((Below.refl _ w4).alloc (Nat.le_refl _) _).mono HB24.out.size).trans ((KP.of_grown (P := fun b => b < w2.heap.size) HGR5.out fun b hb => ⟨by have hb' : b < w2.heap.size := hb; have := HB24.out.size; simp; omega, fun e => hgne b hb e⟩).below fun b hb => hb))
             have hr5 : w5.ownsRow w2.heap.size 9 1 (.slice (some ⟨g2, 0, none⟩) (i + 1 + 1) cap2) (i + 1 + 1) (strV (t.nm :: (t.ar.take (i + 1)).map atT)) := by
               have h := HOWN5.out
               rw [HTK.out]
               have e : strV (t.nm :: ((t.ar.take i).map atT ++ [atT kd])) = strV (t.nm :: (t.ar.take i).map atT) ++ [.string (S (atT kd))] := by simp [strV]
               rw [e]
               exact h
             go_roundg (nk - (i + 1))
             case measure => omega
             case rel => exact ⟨i + 1, g2, cap2, by omega, rfl, by go_num, rfl, hr5, hb5⟩
           · have hii : ¬ (i : Int) < nk := by omega
             go_wp2_with fail
             have hin : i = nk := by omega
             have hfull : t.ar.take i = t.ar := List.take_of_length_le (by rw [HNK.out]; omega)
             have hrw := HROW.out
             rw [hfull] at hrw
             have hcap : i + 1 ≤ c := by
               rcases hrw.2 with ⟨h, _⟩ | ⟨g', cap, cur, hv, _, _, r1, _⟩
               · cases h
               · cases hv; exact r1
             have hxl : ((t.nm :: t.ar.map atT).map S).length = i + 1 := by have h := HNK.out; simp; omega
             have hxd : ((t.nm :: t.ar.map atT).map S).map (·.data.toList) = t.nm :: t.ar.map atT := by
               rw [List.map_map]
               exact List.map_id'' (fun s => S_data s) _
             have hj := Tryd.strings_Join g 0 c ((t.nm :: t.ar.map atT).map S) ⟨#[32]⟩ wr (fun j x hx => by
               rw [List.getElem?_map, Option.map_eq_some_iff] at hx
               obtain ⟨s, hs, rfl⟩ := hx
               rw [Nat.zero_add]
               exact row_cell hrw (strV_at hs)) hgb.2 (by rw [hxl]; omega) (by rw [hxl]; exact hcap) (by
               rw [hxd]
               show (Lib.join (t.nm :: t.ar.map atT) [32]).length ≤ _
               rw [HJN.out]
               exact HJL.out)
             rw [hxl, hxd] at hj
             have hjj : (⟨(Lib.join (t.nm :: t.ar.map atT) [32]).toArray⟩ : ByteArray) = S jn := by rw [HJN.out]; rfl
             have hj2 : Calls Tryd.prog 57 #[.slice (some ⟨g, 0, none⟩) (i + 1) c, .string ⟨#[32]⟩] wr fun e w' => e = .returned (.string (S jn)) ∧ Below wr.heap.size wr w' := hj.mono fun e w' h => ⟨h.1.trans (by rw [← hjj]), h.2⟩
             have HJ2 := hide hj2
             clear hj hj2 hrow hrw
             refine HJ2.out.mono ?_
             rintro r w6 ⟨rfl, hb6⟩
             go_wp2_with fail
             go_ret
             exact ⟨rfl, HB0R.out.trans (hb6.mono HB0R.out.size)⟩)
set_option maxHeartbeats 4000000 in
set_option maxRecDepth 100000 in
theorem ty_text_any (t : Ty) {P : Nat → Prop} {w : World} {pk : Option Addr} {ck : Nat} (hP : ∀ b, P b → b < w.heap.size) (hG : GT w) (hE : TyIn P w t [.string (S t.nm), .int .i64 t.n, .slice pk t.ar.length ck]) : Calls Tryd.prog 20 #[.agg (cs3 t pk ck)] w (SQ (if chk t then txT t else []) w) := by
  have hB0 : Below w.heap.size w (w.alloc (.cells (cs3 t pk ck) 24)) := (Below.refl _ w).alloc (Nat.le_refl _) _
  have hX : Hold w.heap.size (cs3 t pk ck) 24 (w.alloc (.cells (cs3 t pk ck) 24)) := Hold.new w _ 24
  have hc := check_any t (P := P) (w := w.alloc (.cells (cs3 t pk ck) 24)) (pk := pk) (ck := ck) (fun b hb => by have := hP b hb; simp; omega) (TyIn.keep (KP.of_below hB0 hP) (fun b hb => hb) _ _ hE)
  have x0 := hX.cell 0; have x1 := hX.cell 1; have x2 := hX.cell 2
  simp only [cs3, List.getElem?_toArray, List.getElem?_cons_succ, List.getElem?_cons_zero] at x0 x1 x2
  have HC := hide hc; have HB0 := hide hB0; have HX := hide hX; have HG := hide hG; have HE := hide hE
  clear hc hB0 hX hG hE
  cases hch : chk t with
  | false =>
    rw [hch] at HC
    rw [if_neg (by simp)]
    unfold cs3 at *
    go_enter Tryd.func20, Tryd.ntmps20
    go_wp2_with fail
    refine HC.out.mono ?_
    rintro r w1 ⟨rfl, hb1⟩
    go_wp2_with fail
    go_ret
    exact ⟨rfl, HB0.out.trans (hb1.mono (by simp))⟩
  | true =>
    rw [hch] at HC
    rw [if_pos rfl]
    have hct := (chk_iff t).1 hch
    have htx := fun (W : World) (hb : Below w.heap.size w W) => text_any t hct.1 hct.2.2 P W pk ck (fun b hb' => Nat.lt_of_lt_of_le (hP b hb') hb.size) (HG.out.below hb) (TyIn.keep (KP.of_below hb hP) (fun b hb => hb) _ _ HE.out)
    have HT := hide htx
    clear htx
    unfold cs3 at *
    go_enter Tryd.func20, Tryd.ntmps20
    go_wp2_with fail
    refine HC.out.mono ?_
    rintro r w1 ⟨rfl, hb1⟩
    have hx1 := HX.out.below hb1 HX.out.lt
    clear x0 x1 x2
    have y0 := hx1.cell 0; have y1 := hx1.cell 1; have y2 := hx1.cell 2
    simp only [List.getElem?_toArray, List.getElem?_cons_succ, List.getElem?_cons_zero] at y0 y1 y2
    have hb01 : Below w.heap.size w w1 := HB0.out.trans (hb1.mono (by simp))
    have HB01 := hide hb01
    clear hb1 hx1 hb01
    go_wp2_with fail
    refine (HT.out w1 HB01.out).mono ?_
    rintro r w2 ⟨rfl, hb2⟩
    go_wp2_with fail
    go_ret
    exact ⟨rfl, HB01.out.trans (hb2.mono HB01.out.size)⟩
end Go.Proofs.YteoflpalmckikaaDoor
