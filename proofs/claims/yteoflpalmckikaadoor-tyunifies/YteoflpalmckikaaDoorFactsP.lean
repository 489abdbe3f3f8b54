/-
  THE WALK OF dawdlerref08's Facts.
-/
import Derived.Test.YteoflpalmckikaaDoorUniP
import Derived.Test.YteoflpalmckikaaDoorSame
namespace Go.Proofs.YteoflpalmckikaaDoor
open Go.RowKit
set_option linter.unusedVariables false
set_option linter.unusedSimpArgs false
set_option maxHeartbeats 8000000 in
set_option maxRecDepth 100000 in
theorem facts_any (l m : List (Int × Ty)) {P : Nat → Prop} {w : World} {pl pm : Option Addr} {cl cm : Nat} (hP : ∀ b, P b → b < w.heap.size) (hL : RM 4 P w (FaIn P w) pl l) (hM : RM 4 P w (FaIn P w) pm m) (hll : l.length ≤ 1000000) :
    Calls Tryd.prog 26 #[.slice pl l.length cl, .slice pm m.length cm] w (Tells (l = m) w) := by
  have HL := hide hL; have HM := hide hM
  clear hL hM
  by_cases hlen : l.length = m.length
  · generalize hnk : l.length = nk at *
    rw [← hlen]
    have HNK := hide hnk; have HMK := hide hlen
    clear hnk hlen
    go_enter Tryd.func26, Tryd.ntmps26
    go_wp2_with fail
    go_loopg [5] nk (fun k s5 wr => ∃ i : Nat, i ≤ nk ∧ k = nk - i ∧ s5 = .int .i64 i ∧ l.take i = m.take i ∧ Below w.heap.size w wr)
    case atStart => exact ⟨0, Nat.zero_le _, by omega, rfl, by simp, Below.refl _ w⟩
    case round =>
      obtain ⟨i, hi1, rfl, rfl, htk, hbr⟩ := hrel
      have HTK := hide htk; have HBR := hide hbr
      by_cases hlt : i < nk
      · have hil : i < l.length := by rw [HNK.out]; exact hlt
        have him : i < m.length := by rw [← HMK.out]; exact hlt
        obtain ⟨b1, o1, q1, d1, rfl, hp1, _, hin1, a0, a1, a2, a3⟩ := fm_at HL.out hil
        obtain ⟨b2, o2, q2, d2, rfl, hp2, _, hin2, e0, e1, e2, e3⟩ := fm_at HM.out him
        have hl1 : l.take (i + 1) = l.take i ++ [l[i]] := List.take_succ_eq_append_getElem hil
        have hm1 : m.take (i + 1) = m.take i ++ [m[i]] := List.take_succ_eq_append_getElem him
        have hne : l[i] ≠ m[i] → l ≠ m := fun h e => h (by subst e; rfl)
        generalize l[i] = f at *
        generalize m[i] = g at *
        have hc1 : ∀ (W : World), Below w.heap.size w W → ∀ x, W.cell? ⟨b1, x, none⟩ = w.cell? ⟨b1, x, none⟩ := fun W hb x => hb.cell (p := ⟨b1, x, none⟩) (hP b1 hp1)
        have hc2 : ∀ (W : World), Below w.heap.size w W → ∀ x, W.cell? ⟨b2, x, none⟩ = w.cell? ⟨b2, x, none⟩ := fun W hb x => hb.cell (p := ⟨b2, x, none⟩) (hP b2 hp2)
        have h6 : ∀ (W : World), Below w.heap.size w W → (fun W' : World => (W'.cell? ⟨b1, o1 + i * 4 + 1, none⟩ = some (.string (S f.2.nm)) ∧ W'.cell? ⟨b1, o1 + i * 4 + 1 + 1, none⟩ = some (.int .i64 f.2.n) ∧ W'.cell? ⟨b1, o1 + i * 4 + 1 + 2, none⟩ = some (.slice q1 f.2.ar.length d1)) ∧ (W'.cell? ⟨b2, o2 + i * 4 + 1, none⟩ = some (.string (S g.2.nm)) ∧ W'.cell? ⟨b2, o2 + i * 4 + 1 + 1, none⟩ = some (.int .i64 g.2.n) ∧ W'.cell? ⟨b2, o2 + i * 4 + 1 + 2, none⟩ = some (.slice q2 g.2.ar.length d2))) W := fun W hb => ⟨⟨(hc1 W hb _).trans a1, (hc1 W hb _).trans a2, (hc1 W hb _).trans a3⟩, ⟨(hc2 W hb _).trans e1, (hc2 W hb _).trans e2, (hc2 W hb _).trans e3⟩⟩
        have h7 : ∀ (W : World), Below w.heap.size w W → (fun W' : World => W'.cell? ⟨b1, o1 + i * 4, none⟩ = some (.int .i64 f.1) ∧ W'.cell? ⟨b2, o2 + i * 4, none⟩ = some (.int .i64 g.1)) W := fun W hb => ⟨(hc1 W hb _).trans a0, (hc2 W hb _).trans e0⟩
        have hbd : Below w.heap.size w wr.drew := hbr.trans ((below_drew wr).mono hbr.size)
        have hsame := same_ty f.2 g.2 (P := P) (w := wr.drew) (fun b hb => Nat.lt_of_lt_of_le (hP b hb) hbd.size) (TyIn.keep (KP.of_below hbd hP) (fun b hb => hb) _ _ hin1) (TyIn.keep (KP.of_below hbd hP) (fun b hb => hb) _ _ hin2)
        have H6 := hide h6; have H7 := hide h7; have HSM := hide hsame; have HBD := hide hbd; have HNE := hide hne; have HL1 := hide hl1; have HM1 := hide hm1
        have hii : (i : Int) < nk := by omega
        clear a0 a1 a2 a3 e0 e1 e2 e3 hc1 hc2 h6 h7 hsame hbd hne hl1 hm1 htk hbr hin1 hin2
        unfold cs3 at HSM
        go_upto_region 6 with fail
        refine wp_region_noPanic ?_
        refine region_J 12 (N := 12) (S := (fun W' : World => (W'.cell? ⟨b1, o1 + i * 4 + 1, none⟩ = some (.string (S f.2.nm)) ∧ W'.cell? ⟨b1, o1 + i * 4 + 1 + 1, none⟩ = some (.int .i64 f.2.n) ∧ W'.cell? ⟨b1, o1 + i * 4 + 1 + 2, none⟩ = some (.slice q1 f.2.ar.length d1)) ∧ (W'.cell? ⟨b2, o2 + i * 4 + 1, none⟩ = some (.string (S g.2.nm)) ∧ W'.cell? ⟨b2, o2 + i * 4 + 1 + 1, none⟩ = some (.int .i64 g.2.n) ∧ W'.cell? ⟨b2, o2 + i * 4 + 1 + 2, none⟩ = some (.slice q2 g.2.ar.length d2)))) (by kernel_rfl) (by kernel_rfl) ?_
        have hS : (fun W' : World => (W'.cell? ⟨b1, o1 + i * 4 + 1, none⟩ = some (.string (S f.2.nm)) ∧ W'.cell? ⟨b1, o1 + i * 4 + 1 + 1, none⟩ = some (.int .i64 f.2.n) ∧ W'.cell? ⟨b1, o1 + i * 4 + 1 + 2, none⟩ = some (.slice q1 f.2.ar.length d1)) ∧ (W'.cell? ⟨b2, o2 + i * 4 + 1, none⟩ = some (.string (S g.2.nm)) ∧ W'.cell? ⟨b2, o2 + i * 4 + 1 + 1, none⟩ = some (.int .i64 g.2.n) ∧ W'.cell? ⟨b2, o2 + i * 4 + 1 + 2, none⟩ = some (.slice q2 g.2.ar.length d2))) wr.drew := H6.out _ HBD.out
        refine take_D (i := 0) 18 (.slice (some ⟨b1, o1, none⟩) nk cl) rfl rfl (by kernel_rfl) (by kernel_rfl) (by kernel_rfl) (by kernel_rfl) (fun _ _ _ h => h) (Or.inl ⟨by rfl, fun W' hW => by go_simp⟩) hS ?_
        simp only [Act.put, List.setIfInBounds_toArray, List.set_cons_zero, List.set_cons_succ]
        refine take_D (i := 1) 19 (.int .i64 i) rfl rfl (by kernel_rfl) (by kernel_rfl) (by kernel_rfl) (by kernel_rfl) (fun _ _ _ h => h) (Or.inl ⟨by rfl, fun W' hW => by go_simp⟩) hS ?_
        simp only [Act.put, List.setIfInBounds_toArray, List.set_cons_zero, List.set_cons_succ]
        refine take_D (i := 2) 20 (.pointer (some ⟨b1, o1 + i * 4, none⟩)) rfl rfl (by kernel_rfl) (by kernel_rfl) (by kernel_rfl) (by kernel_rfl) (fun _ _ _ h => h) (Or.inl ⟨by rfl, fun W' hW => by go_simp⟩) hS ?_
        simp only [Act.put, List.setIfInBounds_toArray, List.set_cons_zero, List.set_cons_succ]
        refine take_D (i := 3) 21 (.pointer (some ⟨b1, o1 + i * 4 + 1, none⟩)) rfl rfl (by kernel_rfl) (by kernel_rfl) (by kernel_rfl) (by kernel_rfl) (fun _ _ _ h => h) (Or.inl ⟨by rfl, fun W' hW => by go_simp⟩) hS ?_
        simp only [Act.put, List.setIfInBounds_toArray, List.set_cons_zero, List.set_cons_succ]
        refine take_D (i := 4) 22 (.agg #[.string (S f.2.nm), .int .i64 f.2.n, .slice q1 f.2.ar.length d1]) rfl rfl (by kernel_rfl) (by kernel_rfl) (by kernel_rfl) (by kernel_rfl) (fun _ _ _ h => h) (Or.inl ⟨by rfl, fun W' hW => by obtain ⟨⟨s0, s1, s2⟩, ⟨t0, t1, t2⟩⟩ := hW; go_simp⟩) hS ?_
        simp only [Act.put, List.setIfInBounds_toArray, List.set_cons_zero, List.set_cons_succ]
        refine take_D (i := 5) 23 (.slice (some ⟨b2, o2, none⟩) nk cm) rfl rfl (by kernel_rfl) (by kernel_rfl) (by kernel_rfl) (by kernel_rfl) (fun _ _ _ h => h) (Or.inl ⟨by rfl, fun W' hW => by go_simp⟩) hS ?_
        simp only [Act.put, List.setIfInBounds_toArray, List.set_cons_zero, List.set_cons_succ]
        refine take_D (i := 6) 24 (.int .i64 i) rfl rfl (by kernel_rfl) (by kernel_rfl) (by kernel_rfl) (by kernel_rfl) (fun _ _ _ h => h) (Or.inl ⟨by rfl, fun W' hW => by go_simp⟩) hS ?_
        simp only [Act.put, List.setIfInBounds_toArray, List.set_cons_zero, List.set_cons_succ]
        refine take_D (i := 7) 25 (.pointer (some ⟨b2, o2 + i * 4, none⟩)) rfl rfl (by kernel_rfl) (by kernel_rfl) (by kernel_rfl) (by kernel_rfl) (fun _ _ _ h => h) (Or.inl ⟨by rfl, fun W' hW => by go_simp⟩) hS ?_
        simp only [Act.put, List.setIfInBounds_toArray, List.set_cons_zero, List.set_cons_succ]
        refine take_D (i := 8) 26 (.pointer (some ⟨b2, o2 + i * 4 + 1, none⟩)) rfl rfl (by kernel_rfl) (by kernel_rfl) (by kernel_rfl) (by kernel_rfl) (fun _ _ _ h => h) (Or.inl ⟨by rfl, fun W' hW => by go_simp⟩) hS ?_
        simp only [Act.put, List.setIfInBounds_toArray, List.set_cons_zero, List.set_cons_succ]
        refine take_D (i := 9) 27 (.agg #[.string (S g.2.nm), .int .i64 g.2.n, .slice q2 g.2.ar.length d2]) rfl rfl (by kernel_rfl) (by kernel_rfl) (by kernel_rfl) (by kernel_rfl) (fun _ _ _ h => h) (Or.inl ⟨by rfl, fun W' hW => by obtain ⟨⟨s0, s1, s2⟩, ⟨t0, t1, t2⟩⟩ := hW; go_simp⟩) hS ?_
        simp only [Act.put, List.setIfInBounds_toArray, List.set_cons_zero, List.set_cons_succ]
        refine ready_J (rs := [10]) (by kernel_rfl) (by simp) ?_
        intro jj hjj
        obtain rfl := List.mem_singleton.1 hjj
        clear hjj
        refine op_J rfl rfl fun K hK => ?_
        go_simp
        refine HSM.out.mono ?_
        rintro r w3 ⟨hyes, hno, hb3⟩
        have hb03 : Below w.heap.size w w3 := HBD.out.trans (hb3.mono HBD.out.size)
        have HB03 := hide hb03
        clear hb3 hb03 hS
        have hS := H6.out w3 HB03.out
        by_cases heq : f.2 = g.2
        · obtain rfl := hyes heq
          refine hK _ _ ⟨fun _ => hS, ?_⟩
          clear hK K hyes hno
          refine take_D (i := 11) 6 (.bool true) rfl rfl (by kernel_rfl) (by kernel_rfl) (by kernel_rfl) (by kernel_rfl) (fun _ _ _ h => h) (Or.inl ⟨by rfl, fun W' hW => by go_simp⟩) hS ?_
          simp only [Act.put, List.setIfInBounds_toArray, List.set_cons_zero, List.set_cons_succ]
          refine done_J (by kernel_rfl) ?_ _
          refine NoPanic.normal ?_
          clear hS
          go_upto_region 7 with fail
          refine wp_region_noPanic ?_
          refine region_J 15 (N := 15) (S := (fun W' : World => W'.cell? ⟨b1, o1 + i * 4, none⟩ = some (.int .i64 f.1) ∧ W'.cell? ⟨b2, o2 + i * 4, none⟩ = some (.int .i64 g.1))) (by kernel_rfl) (by kernel_rfl) ?_
          have hB3d : Below w.heap.size w w3.drew := HB03.out.trans ((below_drew w3).mono HB03.out.size)
          have hS : (fun W' : World => W'.cell? ⟨b1, o1 + i * 4, none⟩ = some (.int .i64 f.1) ∧ W'.cell? ⟨b2, o2 + i * 4, none⟩ = some (.int .i64 g.1)) w3.drew := H7.out _ hB3d
          have HB3D := hide hB3d
          clear hB3d
          refine take_D (i := 0) 29 (.bool true) rfl rfl (by kernel_rfl) (by kernel_rfl) (by kernel_rfl) (by kernel_rfl) (fun _ _ _ h => h) (Or.inl ⟨by rfl, fun W' hW => by go_simp⟩) hS ?_
          simp only [Act.put, List.setIfInBounds_toArray, List.set_cons_zero, List.set_cons_succ]
          refine take_D (i := 1) 30 (.bool false) rfl rfl (by kernel_rfl) (by kernel_rfl) (by kernel_rfl) (by kernel_rfl) (fun _ _ _ h => h) (Or.inl ⟨by rfl, fun W' hW => by go_simp⟩) hS ?_
          simp only [Act.put, List.setIfInBounds_toArray, List.set_cons_zero, List.set_cons_succ]
          refine take_D (i := 2) 31 (.bool false) rfl rfl (by kernel_rfl) (by kernel_rfl) (by kernel_rfl) (by kernel_rfl) (fun _ _ _ h => h) (Or.inl ⟨by rfl, fun W' hW => by go_simp⟩) hS ?_
          simp only [Act.put, List.setIfInBounds_toArray, List.set_cons_zero, List.set_cons_succ]
          refine take_D (i := 3) 32 (.slice (some ⟨b1, o1, none⟩) nk cl) rfl rfl (by kernel_rfl) (by kernel_rfl) (by kernel_rfl) (by kernel_rfl) (fun _ _ _ h => h) (Or.inl ⟨by rfl, fun W' hW => by go_simp⟩) hS ?_
          simp only [Act.put, List.setIfInBounds_toArray, List.set_cons_zero, List.set_cons_succ]
          refine take_D (i := 4) 33 (.int .i64 i) rfl rfl (by kernel_rfl) (by kernel_rfl) (by kernel_rfl) (by kernel_rfl) (fun _ _ _ h => h) (Or.inl ⟨by rfl, fun W' hW => by go_simp⟩) hS ?_
          simp only [Act.put, List.setIfInBounds_toArray, List.set_cons_zero, List.set_cons_succ]
          refine take_D (i := 5) 34 (.pointer (some ⟨b1, o1 + i * 4, none⟩)) rfl rfl (by kernel_rfl) (by kernel_rfl) (by kernel_rfl) (by kernel_rfl) (fun _ _ _ h => h) (Or.inl ⟨by rfl, fun W' hW => by go_simp⟩) hS ?_
          simp only [Act.put, List.setIfInBounds_toArray, List.set_cons_zero, List.set_cons_succ]
          refine take_D (i := 6) 35 (.pointer (some ⟨b1, o1 + i * 4, none⟩)) rfl rfl (by kernel_rfl) (by kernel_rfl) (by kernel_rfl) (by kernel_rfl) (fun _ _ _ h => h) (Or.inl ⟨by rfl, fun W' hW => by go_simp⟩) hS ?_
          simp only [Act.put, List.setIfInBounds_toArray, List.set_cons_zero, List.set_cons_succ]
          refine take_D (i := 7) 36 (.int .i64 f.1) rfl rfl (by kernel_rfl) (by kernel_rfl) (by kernel_rfl) (by kernel_rfl) (fun _ _ _ h => h) (Or.inl ⟨by rfl, fun W' hW => by obtain ⟨s0, s1⟩ := hW; go_simp⟩) hS ?_
          simp only [Act.put, List.setIfInBounds_toArray, List.set_cons_zero, List.set_cons_succ]
          refine take_D (i := 8) 37 (.slice (some ⟨b2, o2, none⟩) nk cm) rfl rfl (by kernel_rfl) (by kernel_rfl) (by kernel_rfl) (by kernel_rfl) (fun _ _ _ h => h) (Or.inl ⟨by rfl, fun W' hW => by go_simp⟩) hS ?_
          simp only [Act.put, List.setIfInBounds_toArray, List.set_cons_zero, List.set_cons_succ]
          refine take_D (i := 9) 38 (.int .i64 i) rfl rfl (by kernel_rfl) (by kernel_rfl) (by kernel_rfl) (by kernel_rfl) (fun _ _ _ h => h) (Or.inl ⟨by rfl, fun W' hW => by go_simp⟩) hS ?_
          simp only [Act.put, List.setIfInBounds_toArray, List.set_cons_zero, List.set_cons_succ]
          refine take_D (i := 10) 39 (.pointer (some ⟨b2, o2 + i * 4, none⟩)) rfl rfl (by kernel_rfl) (by kernel_rfl) (by kernel_rfl) (by kernel_rfl) (fun _ _ _ h => h) (Or.inl ⟨by rfl, fun W' hW => by go_simp⟩) hS ?_
          simp only [Act.put, List.setIfInBounds_toArray, List.set_cons_zero, List.set_cons_succ]
          refine take_D (i := 11) 40 (.pointer (some ⟨b2, o2 + i * 4, none⟩)) rfl rfl (by kernel_rfl) (by kernel_rfl) (by kernel_rfl) (by kernel_rfl) (fun _ _ _ h => h) (Or.inl ⟨by rfl, fun W' hW => by go_simp⟩) hS ?_
          simp only [Act.put, List.setIfInBounds_toArray, List.set_cons_zero, List.set_cons_succ]
          refine take_D (i := 12) 41 (.int .i64 g.1) rfl rfl (by kernel_rfl) (by kernel_rfl) (by kernel_rfl) (by kernel_rfl) (fun _ _ _ h => h) (Or.inl ⟨by rfl, fun W' hW => by obtain ⟨s0, s1⟩ := hW; go_simp⟩) hS ?_
          simp only [Act.put, List.setIfInBounds_toArray, List.set_cons_zero, List.set_cons_succ]
          refine take_D (i := 13) 42 (.bool (f.1 != g.1)) rfl rfl (by kernel_rfl) (by kernel_rfl) (by kernel_rfl) (by kernel_rfl) (fun _ _ _ h => h) (Or.inl ⟨by rfl, fun W' hW => by go_simp⟩) hS ?_
          simp only [Act.put, List.setIfInBounds_toArray, List.set_cons_zero, List.set_cons_succ]
          refine take_D (i := 14) 43 (.bool (f.1 != g.1)) rfl rfl (by kernel_rfl) (by kernel_rfl) (by kernel_rfl) (by kernel_rfl) (fun _ _ _ h => h) (Or.inl ⟨by rfl, fun W' hW => by go_simp⟩) hS ?_
          simp only [Act.put, List.setIfInBounds_toArray, List.set_cons_zero, List.set_cons_succ]
          refine done_J (by kernel_rfl) ?_ _
          refine NoPanic.normal ?_
          clear hS
          by_cases hfg : f.1 = g.1
          · have hz : (f.1 != g.1) = false := by simp [hfg]
            rw [hz]
            have htk2 : l.take (i + 1) = m.take (i + 1) := by rw [HL1.out, HM1.out, HTK.out, show f = g from Prod.ext hfg heq]
            have HTK2 := hide htk2
            clear htk2 hfg heq hz
            go_wp2_with fail
            go_roundg (nk - (i + 1))
            case measure => omega
            case rel => exact ⟨i + 1, by omega, rfl, by go_num, HTK2.out, HB3D.out⟩
          · have hz : (f.1 != g.1) = true := by simp [hfg]
            rw [hz]
            have hnn : l ≠ m := HNE.out fun h => hfg (by rw [h])
            have HNN := hide hnn
            clear hnn hfg heq hz
            go_wp2_with fail
            go_ret
            exact ⟨fun h => absurd h HNN.out, fun _ => rfl, HB3D.out⟩
        · obtain rfl := hno heq
          have hnn : l ≠ m := HNE.out fun h => heq (by rw [h])
          have HNN := hide hnn
          refine hK _ _ ⟨fun _ => hS, ?_⟩
          clear hK K hyes hno hnn heq
          refine take_D (i := 11) 6 (.bool false) rfl rfl (by kernel_rfl) (by kernel_rfl) (by kernel_rfl) (by kernel_rfl) (fun _ _ _ h => h) (Or.inl ⟨by rfl, fun W' hW => by go_simp⟩) hS ?_
          simp only [Act.put, List.setIfInBounds_toArray, List.set_cons_zero, List.set_cons_succ]
          refine done_J (by kernel_rfl) ?_ _
          refine NoPanic.normal ?_
          clear hS
          go_upto_region 7 with fail
          refine wp_region_noPanic ?_
          refine region_J 15 (N := 15) (S := (fun W' : World => W'.cell? ⟨b1, o1 + i * 4, none⟩ = some (.int .i64 f.1) ∧ W'.cell? ⟨b2, o2 + i * 4, none⟩ = some (.int .i64 g.1))) (by kernel_rfl) (by kernel_rfl) ?_
          have hB3d : Below w.heap.size w w3.drew := HB03.out.trans ((below_drew w3).mono HB03.out.size)
          have hS : (fun W' : World => W'.cell? ⟨b1, o1 + i * 4, none⟩ = some (.int .i64 f.1) ∧ W'.cell? ⟨b2, o2 + i * 4, none⟩ = some (.int .i64 g.1)) w3.drew := H7.out _ hB3d
          have HB3D := hide hB3d
          clear hB3d
          refine take_D (i := 0) 29 (.bool false) rfl rfl (by kernel_rfl) (by kernel_rfl) (by kernel_rfl) (by kernel_rfl) (fun _ _ _ h => h) (Or.inl ⟨by rfl, fun W' hW => by go_simp⟩) hS ?_
          simp only [Act.put, List.setIfInBounds_toArray, List.set_cons_zero, List.set_cons_succ]
          refine take_D (i := 1) 30 (.bool true) rfl rfl (by kernel_rfl) (by kernel_rfl) (by kernel_rfl) (by kernel_rfl) (fun _ _ _ h => h) (Or.inl ⟨by rfl, fun W' hW => by go_simp⟩) hS ?_
          simp only [Act.put, List.setIfInBounds_toArray, List.set_cons_zero, List.set_cons_succ]
          refine take_D (i := 2) 31 (.bool true) rfl rfl (by kernel_rfl) (by kernel_rfl) (by kernel_rfl) (by kernel_rfl) (fun _ _ _ h => h) (Or.inl ⟨by rfl, fun W' hW => by go_simp⟩) hS ?_
          simp only [Act.put, List.setIfInBounds_toArray, List.set_cons_zero, List.set_cons_succ]
          refine take_D (i := 3) 32 (undef) rfl rfl (by kernel_rfl) (by kernel_rfl) (by kernel_rfl) (by kernel_rfl) (fun _ _ _ h => h) (Or.inr ⟨by rfl, rfl⟩) hS ?_
          simp only [Act.put, List.setIfInBounds_toArray, List.set_cons_zero, List.set_cons_succ]
          refine take_D (i := 4) 33 (undef) rfl rfl (by kernel_rfl) (by kernel_rfl) (by kernel_rfl) (by kernel_rfl) (fun _ _ _ h => h) (Or.inr ⟨by rfl, rfl⟩) hS ?_
          simp only [Act.put, List.setIfInBounds_toArray, List.set_cons_zero, List.set_cons_succ]
          refine take_D (i := 5) 34 (undef) rfl rfl (by kernel_rfl) (by kernel_rfl) (by kernel_rfl) (by kernel_rfl) (fun _ _ _ h => h) (Or.inr ⟨by rfl, rfl⟩) hS ?_
          simp only [Act.put, List.setIfInBounds_toArray, List.set_cons_zero, List.set_cons_succ]
          refine take_D (i := 6) 35 (undef) rfl rfl (by kernel_rfl) (by kernel_rfl) (by kernel_rfl) (by kernel_rfl) (fun _ _ _ h => h) (Or.inr ⟨by rfl, rfl⟩) hS ?_
          simp only [Act.put, List.setIfInBounds_toArray, List.set_cons_zero, List.set_cons_succ]
          refine take_D (i := 7) 36 (undef) rfl rfl (by kernel_rfl) (by kernel_rfl) (by kernel_rfl) (by kernel_rfl) (fun _ _ _ h => h) (Or.inr ⟨by rfl, rfl⟩) hS ?_
          simp only [Act.put, List.setIfInBounds_toArray, List.set_cons_zero, List.set_cons_succ]
          refine take_D (i := 8) 37 (undef) rfl rfl (by kernel_rfl) (by kernel_rfl) (by kernel_rfl) (by kernel_rfl) (fun _ _ _ h => h) (Or.inr ⟨by rfl, rfl⟩) hS ?_
          simp only [Act.put, List.setIfInBounds_toArray, List.set_cons_zero, List.set_cons_succ]
          refine take_D (i := 9) 38 (undef) rfl rfl (by kernel_rfl) (by kernel_rfl) (by kernel_rfl) (by kernel_rfl) (fun _ _ _ h => h) (Or.inr ⟨by rfl, rfl⟩) hS ?_
          simp only [Act.put, List.setIfInBounds_toArray, List.set_cons_zero, List.set_cons_succ]
          refine take_D (i := 10) 39 (undef) rfl rfl (by kernel_rfl) (by kernel_rfl) (by kernel_rfl) (by kernel_rfl) (fun _ _ _ h => h) (Or.inr ⟨by rfl, rfl⟩) hS ?_
          simp only [Act.put, List.setIfInBounds_toArray, List.set_cons_zero, List.set_cons_succ]
          refine take_D (i := 11) 40 (undef) rfl rfl (by kernel_rfl) (by kernel_rfl) (by kernel_rfl) (by kernel_rfl) (fun _ _ _ h => h) (Or.inr ⟨by rfl, rfl⟩) hS ?_
          simp only [Act.put, List.setIfInBounds_toArray, List.set_cons_zero, List.set_cons_succ]
          refine take_D (i := 12) 41 (undef) rfl rfl (by kernel_rfl) (by kernel_rfl) (by kernel_rfl) (by kernel_rfl) (fun _ _ _ h => h) (Or.inr ⟨by rfl, rfl⟩) hS ?_
          simp only [Act.put, List.setIfInBounds_toArray, List.set_cons_zero, List.set_cons_succ]
          refine take_D (i := 13) 42 (undef) rfl rfl (by kernel_rfl) (by kernel_rfl) (by kernel_rfl) (by kernel_rfl) (fun _ _ _ h => h) (Or.inr ⟨by rfl, rfl⟩) hS ?_
          simp only [Act.put, List.setIfInBounds_toArray, List.set_cons_zero, List.set_cons_succ]
          refine take_D (i := 14) 43 (.bool true) rfl rfl (by kernel_rfl) (by kernel_rfl) (by kernel_rfl) (by kernel_rfl) (fun _ _ _ h => h) (Or.inl ⟨by rfl, fun W' hW => by go_simp⟩) hS ?_
          simp only [Act.put, List.setIfInBounds_toArray, List.set_cons_zero, List.set_cons_succ]
          refine done_J (by kernel_rfl) ?_ _
          refine NoPanic.normal ?_
          clear hS
          go_wp2_with fail
          go_ret
          exact ⟨fun h => absurd h HNN.out, fun _ => rfl, HB3D.out⟩
      · have hii : ¬ (i : Int) < nk := by omega
        have heq : l = m := by
          have h1 : l.take i = l := List.take_of_length_le (by rw [HNK.out]; omega)
          have h2 : m.take i = m := List.take_of_length_le (by rw [← HMK.out]; omega)
          rw [← h1, htk, h2]
        have HEQ := hide heq
        clear heq htk hbr
        go_wp2_with fail
        go_ret
        exact ⟨fun _ => rfl, fun h => absurd HEQ.out h, HBR.out⟩
  · have hne : (((l.length : Nat) : Int) != ((m.length : Nat) : Int)) = true := by simp; omega
    have hnn : l ≠ m := fun h => hlen (by rw [h])
    have HNN := hide hnn
    clear hnn hlen
    go_enter Tryd.func26, Tryd.ntmps26
    go_wp2_with fail
    go_ret
    exact ⟨fun h => absurd h HNN.out, fun _ => rfl, Below.refl _ w⟩
end Go.Proofs.YteoflpalmckikaaDoor
