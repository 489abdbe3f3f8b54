/-
  THE WALK OF dawdlerref08's Same.
-/
import Derived.Test.YteoflpalmckikaaDoorBase
import Derived.Deep.RegionHeld3
namespace Go.Proofs.YteoflpalmckikaaDoor
open Go.RowKit
set_option linter.unusedVariables false
set_option linter.unusedSimpArgs false
theorem alloc_step2 {W : World} {n : Nat} (hs : W.heap.size = n) (C : Array Value) (t : TypeId) : Hold n C t (W.alloc (.cells C t)) ∧ (W.alloc (.cells C t)).heap.size = n + 1 := by
  subst hs
  exact ⟨Hold.new W C t, by simp⟩
/-- Does a call tell whether two things are one? -/
def Tells (p : Prop) (w : World) (r : Ending) (w' : World) : Prop := (p → r = .returned (.bool true)) ∧ (¬ p → r = .returned (.bool false)) ∧ Below w.heap.size w w'
set_option maxHeartbeats 8000000 in
set_option maxRecDepth 100000 in
theorem same_ty (a : Ty) : ∀ (b : Ty) {P : Nat → Prop} {w : World} {pk qk : Option Addr} {ck dk : Nat}, (∀ b, P b → b < w.heap.size) → TyIn P w a [.string (S a.nm), .int .i64 a.n, .slice pk a.ar.length ck] → TyIn P w b [.string (S b.nm), .int .i64 b.n, .slice qk b.ar.length dk] →
    Calls Tryd.prog 17 #[.agg (cs3 a pk ck), .agg (cs3 b qk dk)] w (Tells (a = b) w) := by
  induction a using Ty.ind with
  | _ a ih =>
    intro b P w pk qk ck dk hP hA hB
    have hka := hA.len
    have hkb := hB.len
    have hB0 : Below w.heap.size w ((w.alloc (.cells (cs3 a pk ck) 24)).alloc (.cells (cs3 b qk dk) 24)) := ((Below.refl _ w).alloc (Nat.le_refl _) _).alloc (by simp) _
    obtain ⟨h1, s1⟩ := alloc_step2 (W := w) rfl (cs3 a pk ck) 24
    obtain ⟨h2, s2⟩ := alloc_step2 s1 (cs3 b qk dk) 24
    have h1 := h1.alloc (.cells (cs3 b qk dk) 24)
    have HIH := hide ih
    have HEA := hide hA
    have HEB := hide hB
    have HB0 := hide hB0
    have HG1 := hide h1
    have HG2 := hide h2
    have HSZ := hide (show w.heap.size + 1 + 1 ≤ ((w.alloc (.cells (cs3 a pk ck) 24)).alloc (.cells (cs3 b qk dk) 24)).heap.size from by rw [s2]; exact Nat.le_refl _)
    clear ih hA hB hB0 h1 h2 s1 s2
    obtain ⟨pp, hpp⟩ : ∃ pp : Prop, pp ↔ (a = b) := ⟨_, Iff.rfl⟩
    have HPP := hide hpp
    have hgoal : ∀ r w', Tells pp w r w' → Tells (a = b) w r w' := fun r w' h => ⟨fun e => h.1 (HPP.out.2 e), fun e => h.2.1 (fun q => e (HPP.out.1 q)), h.2.2⟩
    refine Calls.mono ?_ hgoal
    clear hgoal hpp
    have HKA := hide (tm_of HEA.out)
    have HKB := hide (tm_of HEB.out)
    clear HEA HEB
    obtain ⟨na, ua, ksa⟩ := a
    obtain ⟨nb, ub, ksb⟩ := b
    unfold cs3 at *
    simp only at *
    have hsa : (S na).toList = na := S_list na
    have hsb : (S nb).toList = nb := S_list nb
    generalize hma : ksa.length = ma at *
    generalize hmb : ksb.length = mb at *
    generalize hxa : S na = xa at *
    generalize hxb : S nb = xb at *
    have HMA := hide hma
    have HMB := hide hmb
    clear hma hmb hxa hxb
    by_cases hk : ¬ na = nb
    · have HF : Hid (¬ (Ty.mk na ua ksa = Ty.mk nb ub ksb)) := fun e => hk (Ty.mk.inj e).1
      have hk2 : (xa.toList == xb.toList) = false := by rw [hsa, hsb]; simpa using hk
      clear hsa hsb
      go_enter Tryd.func17, Tryd.ntmps17
      go_wp2_with fail
      go_ret
      exact ⟨fun h => absurd (HPP.out.1 h) HF.out, fun _ => rfl, HB0.out⟩
    obtain rfl : na = nb := by simpa using hk
    have hk2 : (xa.toList == xb.toList) = true := by rw [hsa, hsb]; simp
    clear hsa hsb
    by_cases hk : ¬ ua = ub
    · have HF : Hid (¬ (Ty.mk na ua ksa = Ty.mk na ub ksb)) := fun e => hk (Ty.mk.inj e).2.1
      have hk3 : (ua == ub) = false := by simpa using hk
      go_enter Tryd.func17, Tryd.ntmps17
      go_wp2_with fail
      go_ret
      exact ⟨fun h => absurd (HPP.out.1 h) HF.out, fun _ => rfl, HB0.out⟩
    obtain rfl : ua = ub := by simpa using hk
    by_cases hk : ¬ ma = mb
    · have HF : Hid (¬ (Ty.mk na ua ksa = Ty.mk na ua ksb)) := fun e => hk (by rw [← HMA.out, ← HMB.out, (Ty.mk.inj e).2.2])
      have hk3 : ¬ (ma : Int) = mb := by omega
      have hk4 : ((ma : Int) == mb) = false := by simpa using hk3
      go_enter Tryd.func17, Tryd.ntmps17
      go_wp2_with fail
      go_ret
      exact ⟨fun h => absurd (HPP.out.1 h) HF.out, fun _ => rfl, HB0.out⟩
    obtain rfl : ma = mb := by simpa using hk
    go_enter Tryd.func17, Tryd.ntmps17
    go_wp2_with fail
    go_loopg [5] ma (fun k s5 wr => ∃ i : Nat, i ≤ ma ∧ k = ma - i ∧ s5 = .int .i64 i ∧ Below w.heap.size w wr ∧ Below (w.heap.size + 1 + 1) ((w.alloc (.cells #[.string xa, .int .i64 ua, .slice pk ma ck] 24)).alloc (.cells #[.string xb, .int .i64 ua, .slice qk ma dk] 24)) wr ∧ ksa.take i = ksb.take i)
    case atStart => exact ⟨0, Nat.zero_le _, by omega, rfl, HB0.out, Below.refl _ _, rfl⟩
    case round =>
      obtain ⟨i, hi1, rfl, rfl, hbr, hb2, htk⟩ := hrel
      have HBR := hide hbr
      have HB2 := hide hb2
      have g1 := HG1.out.below hb2 (by omega)
      have g2 := HG2.out.below hb2 (by omega)
      have c4 := g1.cell 2
      have d4 := g2.cell 2
      simp only [List.getElem?_toArray, List.getElem?_cons_succ, List.getElem?_cons_zero, Nat.zero_add] at c4 d4
      by_cases hlt : i < ma
      · have hil : i < ksa.length := by rw [HMA.out]; exact hlt
        have him : i < ksb.length := by rw [HMB.out]; exact hlt
        obtain ⟨b1, o1, qk1, dk1, hp1, hPb1, hIn1, a0, a1, a2⟩ := tm_at HKA.out hil
        obtain ⟨b2, o2, qk2, dk2, hp2, hPb2, hIn2, e0, e1, e2⟩ := tm_at HKB.out him
        have hc1 : ∀ x, wr.cell? ⟨b1, x, none⟩ = w.cell? ⟨b1, x, none⟩ := fun x => hbr.cell (p := ⟨b1, x, none⟩) (hP b1 hPb1)
        have hc2 : ∀ x, wr.cell? ⟨b2, x, none⟩ = w.cell? ⟨b2, x, none⟩ := fun x => hbr.cell (p := ⟨b2, x, none⟩) (hP b2 hPb2)
        rw [← hc1] at a0 a1 a2
        rw [← hc2] at e0 e1 e2
        have hcall := fun W (hb : Below w.heap.size w W) => HIH.out ksa[i] (by simp) ksb[i] (w := W) (fun b hb' => Nat.lt_of_lt_of_le (hP b hb') hb.size) (TyIn.keep (KP.of_below hb hP) (fun b hb => hb) _ _ hIn1) (TyIn.keep (KP.of_below hb hP) (fun b hb => hb) _ _ hIn2)
        have ht1 : ksa.take (i + 1) = ksa.take i ++ [ksa[i]] := List.take_succ_eq_append_getElem hil
        have ht2 : ksb.take (i + 1) = ksb.take i ++ [ksb[i]] := List.take_succ_eq_append_getElem him
        have hneq : ¬ ksa[i] = ksb[i] → ¬ ksa = ksb := fun h e => by subst e; exact h rfl
        have hii : (i : Int) < ma := by omega
        subst hp1 hp2
        generalize ksa[i] = x at *
        generalize ksb[i] = y at *
        have HT1 := hide ht1
        have HT2 := hide ht2
        have HTK := hide htk
        have HNE := hide hneq
        have HC := hide hcall
        have hbd : Below w.heap.size w wr.drew := ⟨hbr.os, hbr.tape, hbr.output, hbr.size, hbr.block⟩
        have hb2d : Below (w.heap.size + 1 + 1) ((w.alloc (.cells #[.string xa, .int .i64 ua, .slice (some ⟨b1, o1, none⟩) ma ck] 24)).alloc (.cells #[.string xb, .int .i64 ua, .slice (some ⟨b2, o2, none⟩) ma dk] 24)) wr.drew := ⟨hb2.os, hb2.tape, hb2.output, hb2.size, hb2.block⟩
        have HBD := hide hbd
        have HB2D := hide hb2d
        have hszr : w.heap.size + 1 + 1 ≤ wr.heap.size := Nat.le_trans HSZ.out hb2.size
        have HSZR : Hid (w.heap.size + 1 + 1 ≤ wr.drew.heap.size) := hszr
        obtain ⟨SS, hSS⟩ : ∃ SS : World → Prop, SS = fun w' => w'.cell? ⟨w.heap.size, 2, none⟩ = some (.slice (some ⟨b1, o1, none⟩) ma ck) ∧ w'.cell? ⟨w.heap.size + 1, 2, none⟩ = some (.slice (some ⟨b2, o2, none⟩) ma dk) ∧ w'.cell? ⟨b1, o1 + i * 3, none⟩ = some (.string (S x.nm)) ∧ w'.cell? ⟨b1, o1 + i * 3 + 1, none⟩ = some (.int .i64 x.n) ∧ w'.cell? ⟨b1, o1 + i * 3 + 2, none⟩ = some (.slice qk1 x.ar.length dk1) ∧
            w'.cell? ⟨b2, o2 + i * 3, none⟩ = some (.string (S y.nm)) ∧ w'.cell? ⟨b2, o2 + i * 3 + 1, none⟩ = some (.int .i64 y.n) ∧ w'.cell? ⟨b2, o2 + i * 3 + 2, none⟩ = some (.slice qk2 y.ar.length dk2) := ⟨_, rfl⟩
        have hS0 : SS wr.drew := by rw [hSS]; exact ⟨c4, d4, a0, a1, a2, e0, e1, e2⟩
        have hkeep : ∀ W2, Below wr.drew.heap.size wr.drew W2 → SS W2 := fun W2 hb => by
          have hk1 : ∀ n x, n < wr.drew.heap.size → W2.cell? ⟨n, x, none⟩ = wr.drew.cell? ⟨n, x, none⟩ := fun n x hn => hb.cell (p := ⟨n, x, none⟩) hn
          have z1 : b1 < wr.drew.heap.size := Nat.lt_of_lt_of_le (hP b1 hPb1) hbd.size
          have z2 : b2 < wr.drew.heap.size := Nat.lt_of_lt_of_le (hP b2 hPb2) hbd.size
          have z3 : w.heap.size < wr.drew.heap.size := by have := HSZR.out; omega
          have z4 : w.heap.size + 1 < wr.drew.heap.size := by have := HSZR.out; omega
          rw [hSS] at hS0 ⊢
          simp only [hk1 _ _ z1, hk1 _ _ z2, hk1 _ _ z3, hk1 _ _ z4]
          exact hS0
        have HS := hide hkeep
        rw [hSS] at HS hS0
        obtain ⟨c4, d4, a0, a1, a2, e0, e1, e2⟩ := hS0
        clear hcall hc1 hc2 hbr hb2 hIn1 hIn2 ht1 ht2 htk hneq g1 g2 hkeep hSS hbd hb2d hszr
        by_cases hxy : x = y
        · have HCT := hide fun W hb => (HC.out W hb).mono fun r w' (h : Tells (x = y) W r w') => (⟨h.1 hxy, h.2.2⟩ : r = .returned (.bool true) ∧ Below W.heap.size W w')
          have HXY := hide hxy
          clear hxy HC
          go_wp2_with fail
          go_region_held3 (fun w' => w'.cell? ⟨w.heap.size, 2, none⟩ = some (.slice (some ⟨b1, o1, none⟩) ma ck) ∧ w'.cell? ⟨w.heap.size + 1, 2, none⟩ = some (.slice (some ⟨b2, o2, none⟩) ma dk) ∧ w'.cell? ⟨b1, o1 + i * 3, none⟩ = some (.string (S x.nm)) ∧ w'.cell? ⟨b1, o1 + i * 3 + 1, none⟩ = some (.int .i64 x.n) ∧ w'.cell? ⟨b1, o1 + i * 3 + 2, none⟩ = some (.slice qk1 x.ar.length dk1) ∧ w'.cell? ⟨b2, o2 + i * 3, none⟩ = some (.string (S y.nm)) ∧ w'.cell? ⟨b2, o2 + i * 3 + 1, none⟩ = some (.int .i64 y.n) ∧ w'.cell? ⟨b2, o2 + i * 3 + 2, none⟩ = some (.slice qk2 y.ar.length dk2)) (first | go_keep | (exact HS.out _ HB5.out)) (first | (go_at_call 17; refine (HCT.out _ HBD.out).mono ?_; rintro r w5 ⟨rfl, hb5⟩; have HB5 := hide hb5; clear hb5))
          go_wp2_with fail
          go_roundg (ma - (i + 1))
          case measure => omega
          case rel => exact ⟨i + 1, by omega, rfl, by go_num, HBD.out.trans (HB5.out.mono HBD.out.size), HB2D.out.trans (HB5.out.mono HSZR.out), by rw [HT1.out, HT2.out, HTK.out, HXY.out]⟩
        · have HCT := hide fun W hb => (HC.out W hb).mono fun r w' (h : Tells (x = y) W r w') => (⟨h.2.1 hxy, h.2.2⟩ : r = .returned (.bool false) ∧ Below W.heap.size W w')
          have HF : Hid (¬ (Ty.mk na ua ksa = Ty.mk na ua ksb)) := fun e => HNE.out hxy (Ty.mk.inj e).2.2
          clear hxy HC
          go_wp2_with fail
          go_region_held3 (fun w' => w'.cell? ⟨w.heap.size, 2, none⟩ = some (.slice (some ⟨b1, o1, none⟩) ma ck) ∧ w'.cell? ⟨w.heap.size + 1, 2, none⟩ = some (.slice (some ⟨b2, o2, none⟩) ma dk) ∧ w'.cell? ⟨b1, o1 + i * 3, none⟩ = some (.string (S x.nm)) ∧ w'.cell? ⟨b1, o1 + i * 3 + 1, none⟩ = some (.int .i64 x.n) ∧ w'.cell? ⟨b1, o1 + i * 3 + 2, none⟩ = some (.slice qk1 x.ar.length dk1) ∧ w'.cell? ⟨b2, o2 + i * 3, none⟩ = some (.string (S y.nm)) ∧ w'.cell? ⟨b2, o2 + i * 3 + 1, none⟩ = some (.int .i64 y.n) ∧ w'.cell? ⟨b2, o2 + i * 3 + 2, none⟩ = some (.slice qk2 y.ar.length dk2)) (first | go_keep | (exact HS.out _ HB5.out)) (first | (go_at_call 17; refine (HCT.out _ HBD.out).mono ?_; rintro r w5 ⟨rfl, hb5⟩; have HB5 := hide hb5; clear hb5))
          go_wp2_with fail
          go_ret
          exact ⟨fun h => absurd (HPP.out.1 h) HF.out, fun _ => rfl, HBD.out.trans (HB5.out.mono HBD.out.size)⟩
      · have HF : Hid (Ty.mk na ua ksa = Ty.mk na ua ksb) := by
          rw [List.take_of_length_le (by rw [HMA.out]; omega), List.take_of_length_le (by rw [HMB.out]; omega)] at htk
          rw [htk]
          rfl
        have hii : ¬ (i : Int) < ma := by omega
        clear hbr htk hb2 g1 g2
        go_wp2_with fail
        go_ret
        exact ⟨fun _ => rfl, fun h => absurd (HPP.out.2 HF.out) h, HBR.out⟩
end Go.Proofs.YteoflpalmckikaaDoor
