/-
  THE WALK OF dawdlerref08's digits.
-/
import Derived.Test.YteoflpalmckikaaDoorTxtP
import Derived.Test.YteoflpalmckikaaDoorRefD
import Derived.Laws.BytesArg
import Derived.Deep.DeepCutAuto
namespace Go.Proofs.YteoflpalmckikaaDoor
open Go.RowKit
set_option linter.unusedVariables false
set_option linter.unusedSimpArgs false
theorem wr64 (n : Int) (h0 : -9223372036854775808 ≤ n) (h1 : n ≤ 9223372036854775807) : IntKind.i64.wrap n = n := by
  simp [IntKind.wrap, IntKind.bits, IntKind.signed]
  omega
theorem wr8 (n : Int) (h0 : 0 ≤ n) (h1 : n ≤ 255) : IntKind.u8.wrap n = n := by
  simp [IntKind.wrap, IntKind.bits, IntKind.signed]
  omega
theorem dec_small {u : Nat} (h : u < 10) : Lib.decDigits u = [UInt8.ofNat (48 + u)] := by rw [Lib.decDigits, dif_pos h]
theorem dec_big {u : Nat} (h : ¬ u < 10) : Lib.decDigits u = Lib.decDigits (u / 10) ++ [UInt8.ofNat (48 + u % 10)] := by rw [Lib.decDigits, dif_neg h]
theorem conv0 {W : World} {B : Nat} (k : Nat) (h : Hold B #[.int .u8 (k : Int)] 5 W) : (convert 78 9 (.slice (some ⟨B, 0, none⟩) 1 1)).run Tryd.prog W = .ok (.string (S [UInt8.ofNat k])) W := by
  have hc : ∀ i, i < 1 → W.cell? ⟨B, 0 + i, none⟩ = some (.int .u8 ([(k : Int)].getD i 0)) := fun i hi => by
    obtain rfl : i = 0 := by omega
    simpa using h.cell 0
  have := run_convert_bytes_arg (P := Tryd.prog) W 78 5 Tryd.underlying78 Tryd.underlying5 B 0 1 1 [(k : Int)] rfl hc 9 Tryd.underlying9
  rw [this]
  congr 2
theorem conv1 {W : World} {B : Nat} (r : Nat) (sd : ByteArray) (hs : S [UInt8.ofNat (48 + r)] = sd) (h : Hold B #[.int .u8 (48 + (r : Int))] 5 W) : (convert 78 9 (.slice (some ⟨B, 0, none⟩) 1 1)).run Tryd.prog W = .ok (.string sd) W := by
  rw [← hs]
  exact conv0 (48 + r) (by rw [show ((48 + r : Nat) : Int) = 48 + (r : Int) by omega]; exact h)
set_option maxHeartbeats 4000000 in
set_option maxRecDepth 100000 in
theorem rdigits_any (u : Nat) : ∀ {w : World}, u ≤ 9223372036854775807 → Calls Tryd.prog 58 #[.int .i64 u] w (SQ (Lib.decDigits u) w) := by
  induction u using Nat.strongRecOn with
  | _ u ih =>
    intro w hu
    by_cases h10 : u < 10
    · rw [dec_small h10]
      have h1 : (u : Int) < 10 := by omega
      have hb0 : Below w.heap.size w (w.alloc (.cells #[.int .u8 (48 + (u : Int))] 5)) := (Below.refl _ w).alloc (Nat.le_refl _) _
      generalize hsd : S [UInt8.ofNat (48 + u)] = sd
      have hcv := conv1 u sd hsd (Hold.new w #[.int .u8 (48 + (u : Int))] 5)
      have HB0 := hide hb0
      have HFIN : Hid (Ending.returned (.string sd) = .returned (.string (S [UInt8.ofNat (48 + u)]))) := hide (by rw [hsd])
      unfold SQ
      generalize Ending.returned (.string (S [UInt8.ofNat (48 + u)])) = rr at *
      clear ih hsd hb0
      go_enter Tryd.func58, Tryd.ntmps58
      go_wp2_with fail
      go_ret
      exact ⟨HFIN.out, HB0.out⟩
    · have hbg := dec_big h10
      have h1 : ¬ (u : Int) < 10 := by omega
      have hlen : (Lib.decDigits (u / 10)).length ≤ 20 := by rw [Lib.decDigits_length]; exact Lib.nDigits_le20 _ (by omega)
      have hm5 : (u : Int).tmod 10 = ((u % 10 : Nat) : Int) := by rw [show (10 : Int) = ((10 : Nat) : Int) from rfl, Int.ofNat_tmod]
      have hm4 : (u : Int) % 10 = ((u % 10 : Nat) : Int) := by omega
      have hm3 : u % 10 ≤ 9 := by omega
      have hd5 : (u : Int).tdiv 10 = ((u / 10 : Nat) : Int) := by rw [show (10 : Int) = ((10 : Nat) : Int) from rfl, Int.ofNat_tdiv]
      have hd4 : (u : Int) / 10 = ((u / 10 : Nat) : Int) := by omega
      have hd3 : u / 10 < u := by omega
      have HC : Hid (∀ W : World, Below w.heap.size w W → Calls Tryd.prog 58 #[.int .i64 ((u / 10 : Nat) : Int)] W (SQ (Lib.decDigits (u / 10)) W)) := hide fun W _ => ih (u / 10) hd3 (by omega)
      have hss := S_size (Lib.decDigits (u / 10))
      have hfin : Ending.returned (.string (S (Lib.decDigits (u / 10)) ++ S [UInt8.ofNat (48 + u % 10)])) = .returned (.string (S (Lib.decDigits u))) := by rw [S_add, ← hbg]
      have hs1 : (S [UInt8.ofNat (48 + u % 10)]).size = 1 := rfl
      unfold SQ at *
      generalize Ending.returned (.string (S (Lib.decDigits u))) = rr at *
      generalize hsd : S [UInt8.ofNat (48 + u % 10)] = sd at *
      generalize (Lib.decDigits (u / 10)).length = ln at *
      generalize S (Lib.decDigits (u / 10)) = sq at *
      generalize u % 10 = r10 at *
      generalize u / 10 = q10 at *
      have HFIN := hide hfin; have HSD := hide hsd
      have hz1 : ¬ 9223372036854775807 < ln + 1 := by omega
      have hw1 := wr64 (q10 : Int) (by omega) (by omega)
      have hw2 := wr64 (48 + (r10 : Int)) (by omega) (by omega)
      have hw3 := wr8 (48 + (r10 : Int)) (by omega) (by omega)
      clear ih hbg hfin hsd
      have HB0 : Hid (Below w.heap.size w w.drew) := hide (below_drew w)
      go_enter Tryd.func58, Tryd.ntmps58
      go_upto_region 3 with fail
      refine wp_region_noPanic ?_
      refine region_J 11 (N := 10) (S := fun _ => True) (by kernel_rfl) (by kernel_rfl) ?_
      generalize w.drew = v0 at *
      refine take_D (i := 0) 10 (.int .i64 u) rfl rfl (by kernel_rfl) (by kernel_rfl) (by kernel_rfl) (by kernel_rfl) (fun _ _ _ h => h) (Or.inl ⟨by rfl, fun W' hW => by go_simp; try simp only [hw1, hw2, hw3]⟩) trivial ?_
      simp only [Act.put, List.setIfInBounds_toArray, List.set_cons_zero, List.set_cons_succ]
      refine take_D (i := 1) 11 (.int .i64 q10) rfl rfl (by kernel_rfl) (by kernel_rfl) (by kernel_rfl) (by kernel_rfl) (fun _ _ _ h => h) (Or.inl ⟨by rfl, fun W' hW => by go_simp; try simp only [hw1, hw2, hw3]⟩) trivial ?_
      simp only [Act.put, List.setIfInBounds_toArray, List.set_cons_zero, List.set_cons_succ]
      refine take_D (i := 3) 13 (.int .i64 u) rfl rfl (by kernel_rfl) (by kernel_rfl) (by kernel_rfl) (by kernel_rfl) (fun _ _ _ h => h) (Or.inl ⟨by rfl, fun W' hW => by go_simp; try simp only [hw1, hw2, hw3]⟩) trivial ?_
      simp only [Act.put, List.setIfInBounds_toArray, List.set_cons_zero, List.set_cons_succ]
      refine take_D (i := 4) 14 (.int .i64 r10) rfl rfl (by kernel_rfl) (by kernel_rfl) (by kernel_rfl) (by kernel_rfl) (fun _ _ _ h => h) (Or.inl ⟨by rfl, fun W' hW => by go_simp; try simp only [hw1, hw2, hw3]⟩) trivial ?_
      simp only [Act.put, List.setIfInBounds_toArray, List.set_cons_zero, List.set_cons_succ]
      refine take_D (i := 5) 15 (.int .i64 (48 + (r10 : Int))) rfl rfl (by kernel_rfl) (by kernel_rfl) (by kernel_rfl) (by kernel_rfl) (fun _ _ _ h => h) (Or.inl ⟨by rfl, fun W' hW => by go_simp; try simp only [hw1, hw2, hw3]⟩) trivial ?_
      simp only [Act.put, List.setIfInBounds_toArray, List.set_cons_zero, List.set_cons_succ]
      refine take_D (i := 6) 16 (.int .u8 (48 + (r10 : Int))) rfl rfl (by kernel_rfl) (by kernel_rfl) (by kernel_rfl) (by kernel_rfl) (fun _ _ _ h => h) (Or.inl ⟨by rfl, fun W' hW => by go_simp; try simp only [hw1, hw2, hw3]⟩) trivial ?_
      simp only [Act.put, List.setIfInBounds_toArray, List.set_cons_zero, List.set_cons_succ]
      refine ready_J (rs := [2, 7]) (by kernel_rfl) (by simp) ?_
      intro jj hjj
      have hj2 : jj = 2 ∨ jj = 7 := by simpa using hjj
      clear hjj
      rcases hj2 with rfl | rfl
      · refine op_J rfl rfl fun K hK => ?_
        go_simp
        refine (HC.out v0 HB0.out).mono ?_
        rintro r v1 ⟨rfl, hb⟩
        have HB1 := hide (HB0.out.trans (hb.mono HB0.out.size))
        have hlt1 := hb.size
        have HBX1 := hide hb
        clear hb
        refine hK _ _ ⟨fun _ => trivial, ?_⟩
        clear hK K
        refine ready_J (rs := [7]) (by kernel_rfl) (by simp) ?_
        intro jj hjj
        obtain rfl := List.mem_singleton.1 hjj
        clear hjj
        refine op_J rfl rfl fun K hK => ?_
        go_simp
        have HB2 : Hid (Below w.heap.size w (v1.alloc (.cells #[.int .u8 (48 + (r10 : Int))] 5))) := hide (HB1.out.alloc HB1.out.size _)
        have hld := Hold.new v1 #[.int .u8 (48 + (r10 : Int))] 5
        refine hK _ _ ⟨fun _ => trivial, ?_⟩
        clear hK K
        generalize (v1.alloc (.cells #[.int .u8 (48 + (r10 : Int))] 5)) = v2 at *
        generalize v1.heap.size = bx at *
        refine ready_J (rs := [8]) (by kernel_rfl) (by simp) ?_
        intro jj hjj
        obtain rfl := List.mem_singleton.1 hjj
        clear hjj
        refine op_J rfl rfl fun K hK => ?_
        have hcv := conv1 r10 sd HSD.out hld
        go_simp
        refine hK _ _ ⟨fun _ => trivial, ?_⟩
        clear hK K
        clear hcv
        refine ready_J (rs := [9]) (by kernel_rfl) (by simp) ?_
        intro jj hjj
        obtain rfl := List.mem_singleton.1 hjj
        clear hjj
        refine op_J rfl rfl fun K hK => ?_
        go_simp
        refine hK _ _ ⟨fun _ => trivial, ?_⟩
        clear hK K
        refine ready_J (rs := [10]) (by kernel_rfl) (by simp) ?_
        intro jj hjj
        obtain rfl := List.mem_singleton.1 hjj
        clear hjj
        refine op_J rfl rfl fun K hK => ?_
        go_simp
        refine hK _ _ ⟨fun _ => trivial, ?_⟩
        clear hK K
        refine done_J (by kernel_rfl) ?_ _
        refine NoPanic.normal ?_
        go_wp2_with fail
        go_ret
        exact ⟨HFIN.out, HB2.out⟩
      · refine op_J rfl rfl fun K hK => ?_
        go_simp
        have HB1 : Hid (Below w.heap.size w (v0.alloc (.cells #[.int .u8 (48 + (r10 : Int))] 5))) := hide (HB0.out.alloc HB0.out.size _)
        have hld := Hold.new v0 #[.int .u8 (48 + (r10 : Int))] 5
        refine hK _ _ ⟨fun _ => trivial, ?_⟩
        clear hK K
        generalize (v0.alloc (.cells #[.int .u8 (48 + (r10 : Int))] 5)) = v1 at *
        generalize v0.heap.size = bx at *
        refine ready_J (rs := [2, 8]) (by kernel_rfl) (by simp) ?_
        intro jj hjj
        have hj2 : jj = 2 ∨ jj = 8 := by simpa using hjj
        clear hjj
        rcases hj2 with rfl | rfl
        · refine op_J rfl rfl fun K hK => ?_
          go_simp
          refine (HC.out v1 HB1.out).mono ?_
          rintro r v2 ⟨rfl, hb⟩
          have HB2 := hide (HB1.out.trans (hb.mono HB1.out.size))
          have hlt2 := hb.size
          have HBX2 := hide hb
          clear hb
          refine hK _ _ ⟨fun _ => trivial, ?_⟩
          clear hK K
          have hld2 := hld.below HBX2.out hld.lt
          clear hld
          have hld := hld2
          refine ready_J (rs := [8]) (by kernel_rfl) (by simp) ?_
          intro jj hjj
          obtain rfl := List.mem_singleton.1 hjj
          clear hjj
          refine op_J rfl rfl fun K hK => ?_
          have hcv := conv1 r10 sd HSD.out hld
          go_simp
          refine hK _ _ ⟨fun _ => trivial, ?_⟩
          clear hK K
          clear hcv
          refine ready_J (rs := [9]) (by kernel_rfl) (by simp) ?_
          intro jj hjj
          obtain rfl := List.mem_singleton.1 hjj
          clear hjj
          refine op_J rfl rfl fun K hK => ?_
          go_simp
          refine hK _ _ ⟨fun _ => trivial, ?_⟩
          clear hK K
          refine ready_J (rs := [10]) (by kernel_rfl) (by simp) ?_
          intro jj hjj
          obtain rfl := List.mem_singleton.1 hjj
          clear hjj
          refine op_J rfl rfl fun K hK => ?_
          go_simp
          refine hK _ _ ⟨fun _ => trivial, ?_⟩
          clear hK K
          refine done_J (by kernel_rfl) ?_ _
          refine NoPanic.normal ?_
          go_wp2_with fail
          go_ret
          exact ⟨HFIN.out, HB2.out⟩
        · refine op_J rfl rfl fun K hK => ?_
          have hcv := conv1 r10 sd HSD.out hld
          go_simp
          refine hK _ _ ⟨fun _ => trivial, ?_⟩
          clear hK K
          clear hcv
          refine ready_J (rs := [2]) (by kernel_rfl) (by simp) ?_
          intro jj hjj
          obtain rfl := List.mem_singleton.1 hjj
          clear hjj
          refine op_J rfl rfl fun K hK => ?_
          go_simp
          refine (HC.out v1 HB1.out).mono ?_
          rintro r v2 ⟨rfl, hb⟩
          have HB2 := hide (HB1.out.trans (hb.mono HB1.out.size))
          have hlt2 := hb.size
          have HBX2 := hide hb
          clear hb
          refine hK _ _ ⟨fun _ => trivial, ?_⟩
          clear hK K
          refine ready_J (rs := [9]) (by kernel_rfl) (by simp) ?_
          intro jj hjj
          obtain rfl := List.mem_singleton.1 hjj
          clear hjj
          refine op_J rfl rfl fun K hK => ?_
          go_simp
          refine hK _ _ ⟨fun _ => trivial, ?_⟩
          clear hK K
          refine ready_J (rs := [10]) (by kernel_rfl) (by simp) ?_
          intro jj hjj
          obtain rfl := List.mem_singleton.1 hjj
          clear hjj
          refine op_J rfl rfl fun K hK => ?_
          go_simp
          refine hK _ _ ⟨fun _ => trivial, ?_⟩
          clear hK K
          refine done_J (by kernel_rfl) ?_ _
          refine NoPanic.normal ?_
          go_wp2_with fail
          go_ret
          exact ⟨HFIN.out, HB2.out⟩
end Go.Proofs.YteoflpalmckikaaDoor
