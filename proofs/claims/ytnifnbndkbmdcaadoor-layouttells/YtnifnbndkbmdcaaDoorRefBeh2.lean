/-
  THE WALK OF dawdlerref03.behind: blocks.
-/
import Derived.Test.YtnifnbndkbmdcaaDoorRefBeh
import Derived.Deep.DeepCutAuto
namespace Go.Proofs.YtnifnbndkbmdcaaDoor
open Go.RowKit
set_option linter.unusedVariables false
set_option maxRecDepth 20000 in
set_option maxHeartbeats 2000000 in
theorem behind_begin (t : Tok) (g og k m c : Nat) (o : List Tok) (st : List Blk) (po : Option Addr) (co : Nat) (pi : Option Addr) (ci : Nat) (w : World) (rest : List Tok) (hR : RS w po co pi ci o st) (hwf : wf st) (hl : o.length + st.length ≤ 900000) (hg : g < w.heap.size) (hH : Hold2 g (og + k * 5) t w) (hkm : k < m) (hm : m ≤ 1000000)
    (hrm : rest.length = m - (k + 1)) (hN : ∀ n r, rest = n :: r → Hold2 g (og + (k + 1) * 5) n w) (h1 : isK t [40] = false) (h2 : isK t [123] = false) (hbg : beginsK t = true) :
    Calls Tryd.prog 27 #[.agg #[.slice po o.length co, .slice pi st.length ci], .slice (some ⟨g, og, none⟩) m c, .int .i64 k] w (BPost w (behM t rest st o false)) := by
  have hr : behM t rest st o false = indM t rest st o false := by unfold behM opensK; rw [h1, h2, hbg]; rfl
  generalize behM t rest st o false = r at *
  have HR := hide hr
  obtain ⟨N1, B1⟩ := NB.start w t hR
  have K1 := hide (fun w => rkey_any t [40] w)
  have K2 := hide (fun w => rkey_any t [123] w)
  have K3 := hide (fun w => rkey_any t [111, 102] w)
  have K4 := hide (fun w => rkey_any t [100, 111] w)
  have K5 := hide (fun w => rkey_any t [100, 111, 115] w)
  rw [h1] at K1
  rw [h2] at K2
  unfold tv at K1 K2 K3 K4 K5
  have hH1 := (Hold2.below hH ((Below.refl _ w).alloc (Nat.le_refl _) (.cells #[.slice po o.length co, .slice pi st.length ci] 50)) hg)
  obtain ⟨m0, m1, m2, m3, m4⟩ := Hold2.below hH1 ((Below.refl _ (w.alloc (.cells #[.slice po o.length co, .slice pi st.length ci] 50))).alloc (Nat.le_refl _) (.cells #[.slice none 0 0, .slice none 0 0] 50)) (by simp; omega)
  have hi1 : (0 : Int) ≤ (k : Int) := by omega
  have hi2 : (k : Int) < (m : Int) := by omega
  have HBG := hide hbg
  have HH := hide hN
  clear hH hH1 hr hN hbg
  obtain ⟨k0, k1, k2, k3, k4⟩ := N1.tk.cells
  go_enter Tryd.func27, Tryd.ntmps27
  go_wp2_with fail
  refine (K1.out _).mono ?_
  rintro e W1 ⟨rfl, b1⟩
  replace N1 := N1.below b1
  replace B1 := B1.trans (b1.mono B1.size)
  clear b1 k0 k1 k2 k3 k4 K1 m0 m1 m2 m3 m4
  obtain ⟨k0, k1, k2, k3, k4⟩ := N1.tk.cells
  go_upto_region 6 with (go_at_call 22; refine (K2.out _).mono ?_; rintro e W2 ⟨rfl, b1⟩)
  replace N1 := N1.below b1
  replace B1 := B1.trans (b1.mono B1.size)
  clear b1 k0 k1 k2 k3 k4 K2
  go_cut [33] (fun s33 wx => s33 = .bool false ∧ NB w.heap.size t wx po co pi ci o st ∧ Below w.heap.size w wx)
  case first =>
    obtain ⟨k0, k1, k2, k3, k4⟩ := N1.tk.cells
    cases h3 : isK t [111, 102]
    · rw [h3] at K3
      go_wp2_with fail
      refine (K3.out _).mono ?_
      rintro e W3 ⟨rfl, b1⟩
      replace N1 := N1.below b1
      replace B1 := B1.trans (b1.mono B1.size)
      clear b1 k0 k1 k2 k3 k4 K3
      obtain ⟨k0, k1, k2, k3, k4⟩ := N1.tk.cells
      cases h4 : isK t [100, 111]
      · rw [h4] at K4
        have h5 : isK t [100, 111, 115] = true := by have := HBG.out; unfold beginsK at this; rw [h3, h4] at this; exact this
        rw [h5] at K5
        go_wp2_with fail
        refine (K4.out _).mono ?_
        rintro e W4 ⟨rfl, b1⟩
        replace N1 := N1.below b1
        replace B1 := B1.trans (b1.mono B1.size)
        clear b1 k0 k1 k2 k3 k4 K4
        obtain ⟨k0, k1, k2, k3, k4⟩ := N1.tk.cells
        go_wp2_with fail
        refine (K5.out _).mono ?_
        rintro e W5 ⟨rfl, b1⟩
        replace N1 := N1.below b1
        replace B1 := B1.trans (b1.mono B1.size)
        clear b1 k0 k1 k2 k3 k4 K5
        go_wp2_with fail
        go_meet
        case rel => exact ⟨rfl, N1, B1⟩
      · rw [h4] at K4
        go_wp2_with fail
        refine (K4.out _).mono ?_
        rintro e W4 ⟨rfl, b1⟩
        replace N1 := N1.below b1
        replace B1 := B1.trans (b1.mono B1.size)
        clear b1 k0 k1 k2 k3 k4 K4
        go_wp2_with fail
        go_meet
        case rel => exact ⟨rfl, N1, B1⟩
    · rw [h3] at K3
      go_wp2_with fail
      refine (K3.out _).mono ?_
      rintro e W3 ⟨rfl, b1⟩
      replace N1 := N1.below b1
      replace B1 := B1.trans (b1.mono B1.size)
      clear b1 k0 k1 k2 k3 k4 K3
      go_wp2_with fail
      go_meet
      case rel => exact ⟨rfl, N1, B1⟩
  case rest =>
    clear N1 B1 K3 K4 K5 W2
    obtain ⟨rfl, N1, B1⟩ := hcut
    have hb := below_drew wc.heap.size wc
    have hwr : IntKind.i64.wrap ((k : Int) + 1) = (k : Int) + 1 := wrap_i (by omega) (by omega)
    have HN1 := hide N1
    have HF2 : Hid (∀ W' : World, Below wc.heap.size wc W' → W'.cell? ⟨w.heap.size, 0, none⟩ = some (.slice po o.length co) ∧ W'.cell? ⟨w.heap.size, 1, none⟩ = some (.slice pi st.length ci)) := fun W' hb => ⟨(HN1.out.below hb).s.cell 0, (HN1.out.below hb).s.cell 1⟩
    have HF7 : Hid (∀ W' : World, Below wc.heap.size wc W' → W'.cell? ⟨w.heap.size, 0, none⟩ = some (.slice po o.length co) ∧ W'.cell? ⟨w.heap.size, 1, none⟩ = some (.slice pi st.length ci) ∧ W'.cell? ⟨w.heap.size + 1 + 1, 0, none⟩ = some (.int .i64 t.kd) ∧ W'.cell? ⟨w.heap.size + 1 + 1, 1, none⟩ = some (.string (S t.tx)) ∧ W'.cell? ⟨w.heap.size + 1 + 1, 2, none⟩ = some (.int .i64 t.nu) ∧ W'.cell? ⟨w.heap.size + 1 + 1, 3, none⟩ = some (.int .i64 t.ln) ∧ W'.cell? ⟨w.heap.size + 1 + 1, 4, none⟩ = some (.int .i64 t.co)) := fun W' hb => ⟨(HN1.out.below hb).s.cell 0, (HN1.out.below hb).s.cell 1, TB.cells (HN1.out.below hb).tk⟩
    have HCOL : Hid (∀ W' : World, Below wc.heap.size wc W' → Calls Tryd.prog 46 #[.agg #[.slice po o.length co, .slice pi st.length ci]] W' fun e w' => e = .returned (.int .i64 (top st).cl) ∧ Below wc.heap.size wc w') := fun W' hb => (column_ref o st po co pi ci W' (HN1.out.below hb).ra.rs (by omega)).mono fun e w' kk => ⟨by rw [kk.1, colR_top st hwf], hb.trans (kk.2.mono hb.size)⟩
    have d0 : wc.cell? ⟨w.heap.size, 0, none⟩ = some (.slice po o.length co) := N1.s.cell 0
    have d1 : wc.cell? ⟨w.heap.size, 1, none⟩ = some (.slice pi st.length ci) := N1.s.cell 1
    clear N1
    cases rest with
    | nil =>
      have hlt : ¬ (k : Int) + 1 < (m : Int) := by simp at hrm; omega
      have hd : decide ((k : Int) + 1 < (m : Int)) = false := by simpa using hlt
      have HRE : Hid (r = (st, (o ++ [pt1 123 t]) ++ [pt1 125 t], false)) := HR.out
      go_wp2_with fail
      refine wp_region_noPanic ?_
      refine region_J 16 (N := 16) (S := (fun W' => W'.cell? ⟨w.heap.size, 0, none⟩ = some (.slice po o.length co) ∧ W'.cell? ⟨w.heap.size, 1, none⟩ = some (.slice pi st.length ci))) (by kernel_rfl) (by kernel_rfl) ?_
      have hS := HF2.out _ hb
      refine take_D (i := 0) 49 (.int .i64 k) rfl rfl (by kernel_rfl) (by kernel_rfl) (by kernel_rfl) (by kernel_rfl) (fun _ _ _ h => h) (Or.inl ⟨by rfl, fun W' hW => by obtain ⟨s0, s1⟩ := hW; go_simp⟩) hS ?_
      simp only [Act.put, List.setIfInBounds_toArray, List.set_cons_zero, List.set_cons_succ]
      refine take_D (i := 1) 50 (.int .i64 ((k : Int) + 1)) rfl rfl (by kernel_rfl) (by kernel_rfl) (by kernel_rfl) (by kernel_rfl) (fun _ _ _ h => h) (Or.inl ⟨by rfl, fun W' hW => by obtain ⟨s0, s1⟩ := hW; go_simp⟩) hS ?_
      simp only [Act.put, List.setIfInBounds_toArray, List.set_cons_zero, List.set_cons_succ]
      refine take_D (i := 2) 51 (.slice (some ⟨g, og, none⟩) m c) rfl rfl (by kernel_rfl) (by kernel_rfl) (by kernel_rfl) (by kernel_rfl) (fun _ _ _ h => h) (Or.inl ⟨by rfl, fun W' hW => by obtain ⟨s0, s1⟩ := hW; go_simp⟩) hS ?_
      simp only [Act.put, List.setIfInBounds_toArray, List.set_cons_zero, List.set_cons_succ]
      refine take_D (i := 3) 52 (.int .i64 m) rfl rfl (by kernel_rfl) (by kernel_rfl) (by kernel_rfl) (by kernel_rfl) (fun _ _ _ h => h) (Or.inl ⟨by rfl, fun W' hW => by obtain ⟨s0, s1⟩ := hW; go_simp⟩) hS ?_
      simp only [Act.put, List.setIfInBounds_toArray, List.set_cons_zero, List.set_cons_succ]
      refine take_D (i := 4) 53 (.bool false) rfl rfl (by kernel_rfl) (by kernel_rfl) (by kernel_rfl) (by kernel_rfl) (fun _ _ _ h => h) (Or.inl ⟨by rfl, fun W' hW => by obtain ⟨s0, s1⟩ := hW; go_simp⟩) hS ?_
      simp only [Act.put, List.setIfInBounds_toArray, List.set_cons_zero, List.set_cons_succ]
      refine take_D (i := 5) 54 (.bool false) rfl rfl (by kernel_rfl) (by kernel_rfl) (by kernel_rfl) (by kernel_rfl) (fun _ _ _ h => h) (Or.inl ⟨by rfl, fun W' hW => by obtain ⟨s0, s1⟩ := hW; go_simp⟩) hS ?_
      simp only [Act.put, List.setIfInBounds_toArray, List.set_cons_zero, List.set_cons_succ]
      refine take_D (i := 6) 55 undef rfl rfl (by kernel_rfl) (by kernel_rfl) (by kernel_rfl) (by kernel_rfl) (fun _ _ _ h => h) (Or.inr ⟨by rfl, rfl⟩) hS ?_
      simp only [Act.put, List.setIfInBounds_toArray, List.set_cons_zero, List.set_cons_succ]
      refine take_D (i := 7) 56 undef rfl rfl (by kernel_rfl) (by kernel_rfl) (by kernel_rfl) (by kernel_rfl) (fun _ _ _ h => h) (Or.inr ⟨by rfl, rfl⟩) hS ?_
      simp only [Act.put, List.setIfInBounds_toArray, List.set_cons_zero, List.set_cons_succ]
      refine take_D (i := 8) 57 undef rfl rfl (by kernel_rfl) (by kernel_rfl) (by kernel_rfl) (by kernel_rfl) (fun _ _ _ h => h) (Or.inr ⟨by rfl, rfl⟩) hS ?_
      simp only [Act.put, List.setIfInBounds_toArray, List.set_cons_zero, List.set_cons_succ]
      refine take_D (i := 9) 58 undef rfl rfl (by kernel_rfl) (by kernel_rfl) (by kernel_rfl) (by kernel_rfl) (fun _ _ _ h => h) (Or.inr ⟨by rfl, rfl⟩) hS ?_
      simp only [Act.put, List.setIfInBounds_toArray, List.set_cons_zero, List.set_cons_succ]
      refine take_D (i := 10) 59 undef rfl rfl (by kernel_rfl) (by kernel_rfl) (by kernel_rfl) (by kernel_rfl) (fun _ _ _ h => h) (Or.inr ⟨by rfl, rfl⟩) hS ?_
      simp only [Act.put, List.setIfInBounds_toArray, List.set_cons_zero, List.set_cons_succ]
      refine take_D (i := 11) 60 undef rfl rfl (by kernel_rfl) (by kernel_rfl) (by kernel_rfl) (by kernel_rfl) (fun _ _ _ h => h) (Or.inr ⟨by rfl, rfl⟩) hS ?_
      simp only [Act.put, List.setIfInBounds_toArray, List.set_cons_zero, List.set_cons_succ]
      refine take_D (i := 12) 61 undef rfl rfl (by kernel_rfl) (by kernel_rfl) (by kernel_rfl) (by kernel_rfl) (fun _ _ _ h => h) (Or.inr ⟨by rfl, rfl⟩) hS ?_
      simp only [Act.put, List.setIfInBounds_toArray, List.set_cons_zero, List.set_cons_succ]
      refine take_D (i := 13) 62 undef rfl rfl (by kernel_rfl) (by kernel_rfl) (by kernel_rfl) (by kernel_rfl) (fun _ _ _ h => h) (Or.inr ⟨by rfl, rfl⟩) hS ?_
      simp only [Act.put, List.setIfInBounds_toArray, List.set_cons_zero, List.set_cons_succ]
      refine take_D (i := 14) 63 undef rfl rfl (by kernel_rfl) (by kernel_rfl) (by kernel_rfl) (by kernel_rfl) (fun _ _ _ h => h) (Or.inr ⟨by rfl, rfl⟩) hS ?_
      simp only [Act.put, List.setIfInBounds_toArray, List.set_cons_zero, List.set_cons_succ]
      refine take_D (i := 15) 64 (.bool false) rfl rfl (by kernel_rfl) (by kernel_rfl) (by kernel_rfl) (by kernel_rfl) (fun _ _ _ h => h) (Or.inl ⟨by rfl, fun W' hW => by obtain ⟨s0, s1⟩ := hW; go_simp⟩) hS ?_
      simp only [Act.put, List.setIfInBounds_toArray, List.set_cons_zero, List.set_cons_succ]
      refine done_J (by kernel_rfl) ?_ _
      refine NoPanic.normal ?_
      go_wp2_with fail
      have hb := hb.trans (below_drew _ _)
      refine wp_region_noPanic ?_
      refine region_J 7 (N := 5) (S := (fun W' => W'.cell? ⟨w.heap.size, 0, none⟩ = some (.slice po o.length co) ∧ W'.cell? ⟨w.heap.size, 1, none⟩ = some (.slice pi st.length ci) ∧ W'.cell? ⟨w.heap.size + 1 + 1, 0, none⟩ = some (.int .i64 t.kd) ∧ W'.cell? ⟨w.heap.size + 1 + 1, 1, none⟩ = some (.string (S t.tx)) ∧ W'.cell? ⟨w.heap.size + 1 + 1, 2, none⟩ = some (.int .i64 t.nu) ∧ W'.cell? ⟨w.heap.size + 1 + 1, 3, none⟩ = some (.int .i64 t.ln) ∧ W'.cell? ⟨w.heap.size + 1 + 1, 4, none⟩ = some (.int .i64 t.co))) (by kernel_rfl) (by kernel_rfl) ?_
      have hS := HF7.out _ hb
      refine take_D (i := 0) 79 (.agg #[.slice po o.length co, .slice pi st.length ci]) rfl rfl (by kernel_rfl) (by kernel_rfl) (by kernel_rfl) (by kernel_rfl) (fun _ _ _ h => h) (Or.inl ⟨by rfl, fun W' hW => by obtain ⟨s0, s1, s2, s3, s4, s5, s6⟩ := hW; go_simp⟩) hS ?_
      simp only [Act.put, List.setIfInBounds_toArray, List.set_cons_zero, List.set_cons_succ]
      refine take_D (i := 1) 80 (.agg #[.int .i64 t.kd, .string (S t.tx), .int .i64 t.nu, .int .i64 t.ln, .int .i64 t.co]) rfl rfl (by kernel_rfl) (by kernel_rfl) (by kernel_rfl) (by kernel_rfl) (fun _ _ _ h => h) (Or.inl ⟨by rfl, fun W' hW => by obtain ⟨s0, s1, s2, s3, s4, s5, s6⟩ := hW; go_simp⟩) hS ?_
      simp only [Act.put, List.setIfInBounds_toArray, List.set_cons_zero, List.set_cons_succ]
      refine take_D (i := 3) 82 (.agg #[.int .i64 t.kd, .string (S t.tx), .int .i64 t.nu, .int .i64 t.ln, .int .i64 t.co]) rfl rfl (by kernel_rfl) (by kernel_rfl) (by kernel_rfl) (by kernel_rfl) (fun _ _ _ h => h) (Or.inl ⟨by rfl, fun W' hW => by obtain ⟨s0, s1, s2, s3, s4, s5, s6⟩ := hW; go_simp⟩) hS ?_
      simp only [Act.put, List.setIfInBounds_toArray, List.set_cons_zero, List.set_cons_succ]
      have HP := hide (put_ra [123] t (HN1.out.below hb).ra (HN1.out.below hb).hi (by omega))
      unfold tv at HP
      refine ready_J (rs := [2]) (by kernel_rfl) (by simp) ?_
      intro i him
      obtain rfl := List.mem_singleton.1 him
      refine op_W rfl (by rfl) fun K hK => ?_
      go_simp
      refine HP.out.mono ?_
      rintro e W4 ⟨po2, co2, rfl, hR4, hB4⟩
      have hb4 := hb.trans (hB4.mono hb.size)
      go_simp
      refine hK _ _ ⟨fun _ => HF7.out _ hb4, ?_⟩
      clear hK K HP
      have hP2 := put_ra [125] t hR4 (HN1.out.below hb4).hi (by simp; omega)
      rw [List.length_append, List.length_singleton] at hP2
      unfold tv at hP2
      have HP := hide hP2
      clear hP2 hR4
      refine ready_J (rs := [4]) (by kernel_rfl) (by simp) ?_
      intro i him
      obtain rfl := List.mem_singleton.1 him
      refine op_W rfl (by rfl) fun K hK => ?_
      go_simp
      refine HP.out.mono ?_
      rintro e W5 ⟨po3, co3, rfl, hR5, hB5⟩
      have hb5 := hb4.trans (hB5.mono hb4.size)
      go_simp
      refine hK _ _ ⟨fun _ => HF7.out _ hb5, ?_⟩
      clear hK K HP
      have N2 := HN1.out.below hb5
      have e0 := N2.re.cell 0
      have e1 := N2.re.cell 1
      have f0 := N2.re.frozen 0
      have f1 := N2.re.frozen 1
      have HFI := hide (NB.fin (w := w) hR5 rfl (B1.trans (Below.mono hb5 B1.size)) (o.length + 1 + 1) (st.length) (by simp) (by simp))
      clear N2
      refine ready_J (rs := [5]) (by kernel_rfl) (by simp) ?_
      intro i him
      obtain rfl := List.mem_singleton.1 him
      refine op_W rfl (by rfl) fun K hK => ?_
      go_simp
      refine hK _ _ ⟨fun h => absurd h (by decide), ?_⟩
      clear hK K
      refine ready_J (rs := [6]) (by kernel_rfl) (by simp) ?_
      intro i him
      obtain rfl := List.mem_singleton.1 him
      refine op_W rfl (by rfl) fun K hK => ?_
      go_simp
      refine hK _ _ ⟨fun h => absurd h (by decide), ?_⟩
      clear hK K
      refine done_J (by kernel_rfl) ?_ _
      refine NoPanic.normal ?_
      go_wp2_with fail
      exact bodyPost_ret (v := .tuple #[.agg #[.slice po3 (o.length + 1 + 1) co3, .slice pi (st.length) ci], .bool false]) (by simp only [results, Tryd.results27]; go_simp) rfl ⟨po3, co3, pi, ci, by rw [HRE.out]; simp, by rw [HRE.out]; exact HFI.out.1, HFI.out.2⟩
    | cons n r2 =>
      have hlt : (k : Int) + 1 < (m : Int) := by simp at hrm; omega
      have hd : decide ((k : Int) + 1 < (m : Int)) = true := by simpa using hlt
      have hi3 : (0 : Int) ≤ (k : Int) + 1 := by omega
      have hi4 : ((k : Int) + 1).toNat = k + 1 := by omega
      have HHn := hide (HH.out n r2 rfl)
      have HF3 : Hid (∀ W' : World, Below wc.heap.size wc W' → W'.cell? ⟨w.heap.size, 0, none⟩ = some (.slice po o.length co) ∧ W'.cell? ⟨w.heap.size, 1, none⟩ = some (.slice pi st.length ci) ∧ W'.cell? ⟨g, og + (k + 1) * 5 + 4, none⟩ = some (.int .i64 n.co)) := fun W' hb => ⟨(HN1.out.below hb).s.cell 0, (HN1.out.below hb).s.cell 1, (Hold2.below HHn.out (B1.trans (hb.mono B1.size)) hg).2.2.2.2⟩
      have HF7n : Hid (∀ W' : World, Below wc.heap.size wc W' → W'.cell? ⟨w.heap.size, 0, none⟩ = some (.slice po o.length co) ∧ W'.cell? ⟨w.heap.size, 1, none⟩ = some (.slice pi st.length ci) ∧ W'.cell? ⟨g, og + (k + 1) * 5, none⟩ = some (.int .i64 n.kd) ∧ W'.cell? ⟨g, og + (k + 1) * 5 + 1, none⟩ = some (.string (S n.tx)) ∧ W'.cell? ⟨g, og + (k + 1) * 5 + 2, none⟩ = some (.int .i64 n.nu) ∧ W'.cell? ⟨g, og + (k + 1) * 5 + 3, none⟩ = some (.int .i64 n.ln) ∧ W'.cell? ⟨g, og + (k + 1) * 5 + 4, none⟩ = some (.int .i64 n.co)) := fun W' hb => ⟨(HN1.out.below hb).s.cell 0, (HN1.out.below hb).s.cell 1, Hold2.below HHn.out (B1.trans (hb.mono B1.size)) hg⟩
      obtain ⟨m0, m1, m2, m3, m4⟩ := Hold2.below HHn.out B1 hg
      have KN := hide (fun w => rkey_any n [123] w)
      unfold tv at KN
      cases hkn : isK n [123]
      · rw [hkn] at KN
        go_wp2_with fail
        refine (KN.out _).mono ?_
        rintro e W2 ⟨rfl, b2⟩
        have hb := b2.trans (below_drew _ _)
        clear m0 m1 m2 m3 m4 KN d0 d1
        generalize hcl : (top st).cl = cl at HCOL
        by_cases hc : cl < n.co
        · have hd2 : decide (cl < n.co) = true := by simpa using hc
          have HRE : Hid (r = (⟨[], n.co⟩ :: st, o ++ [pt1 123 n], true)) := by show r = _; rw [HR.out]; unfold indM; simp only [hkn]; rw [if_neg (by simp), if_pos (by rw [hcl]; exact hc)]
          go_wp2_with fail
          refine wp_region_noPanic ?_
          refine region_J 16 (N := 16) (S := (fun W' => W'.cell? ⟨w.heap.size, 0, none⟩ = some (.slice po o.length co) ∧ W'.cell? ⟨w.heap.size, 1, none⟩ = some (.slice pi st.length ci) ∧ W'.cell? ⟨g, og + (k + 1) * 5 + 4, none⟩ = some (.int .i64 n.co))) (by kernel_rfl) (by kernel_rfl) ?_
          have hS := HF3.out _ hb
          refine take_D (i := 0) 49 (.int .i64 k) rfl rfl (by kernel_rfl) (by kernel_rfl) (by kernel_rfl) (by kernel_rfl) (fun _ _ _ h => h) (Or.inl ⟨by rfl, fun W' hW => by obtain ⟨s0, s1, s2⟩ := hW; go_simp⟩) hS ?_
          simp only [Act.put, List.setIfInBounds_toArray, List.set_cons_zero, List.set_cons_succ]
          refine take_D (i := 1) 50 (.int .i64 ((k : Int) + 1)) rfl rfl (by kernel_rfl) (by kernel_rfl) (by kernel_rfl) (by kernel_rfl) (fun _ _ _ h => h) (Or.inl ⟨by rfl, fun W' hW => by obtain ⟨s0, s1, s2⟩ := hW; go_simp⟩) hS ?_
          simp only [Act.put, List.setIfInBounds_toArray, List.set_cons_zero, List.set_cons_succ]
          refine take_D (i := 2) 51 (.slice (some ⟨g, og, none⟩) m c) rfl rfl (by kernel_rfl) (by kernel_rfl) (by kernel_rfl) (by kernel_rfl) (fun _ _ _ h => h) (Or.inl ⟨by rfl, fun W' hW => by obtain ⟨s0, s1, s2⟩ := hW; go_simp⟩) hS ?_
          simp only [Act.put, List.setIfInBounds_toArray, List.set_cons_zero, List.set_cons_succ]
          refine take_D (i := 3) 52 (.int .i64 m) rfl rfl (by kernel_rfl) (by kernel_rfl) (by kernel_rfl) (by kernel_rfl) (fun _ _ _ h => h) (Or.inl ⟨by rfl, fun W' hW => by obtain ⟨s0, s1, s2⟩ := hW; go_simp⟩) hS ?_
          simp only [Act.put, List.setIfInBounds_toArray, List.set_cons_zero, List.set_cons_succ]
          refine take_D (i := 4) 53 (.bool true) rfl rfl (by kernel_rfl) (by kernel_rfl) (by kernel_rfl) (by kernel_rfl) (fun _ _ _ h => h) (Or.inl ⟨by rfl, fun W' hW => by obtain ⟨s0, s1, s2⟩ := hW; go_simp⟩) hS ?_
          simp only [Act.put, List.setIfInBounds_toArray, List.set_cons_zero, List.set_cons_succ]
          refine take_D (i := 5) 54 (.bool true) rfl rfl (by kernel_rfl) (by kernel_rfl) (by kernel_rfl) (by kernel_rfl) (fun _ _ _ h => h) (Or.inl ⟨by rfl, fun W' hW => by obtain ⟨s0, s1, s2⟩ := hW; go_simp⟩) hS ?_
          simp only [Act.put, List.setIfInBounds_toArray, List.set_cons_zero, List.set_cons_succ]
          refine take_D (i := 6) 55 (.slice (some ⟨g, og, none⟩) m c) rfl rfl (by kernel_rfl) (by kernel_rfl) (by kernel_rfl) (by kernel_rfl) (fun _ _ _ h => h) (Or.inl ⟨by rfl, fun W' hW => by obtain ⟨s0, s1, s2⟩ := hW; go_simp⟩) hS ?_
          simp only [Act.put, List.setIfInBounds_toArray, List.set_cons_zero, List.set_cons_succ]
          refine take_D (i := 7) 56 (.int .i64 k) rfl rfl (by kernel_rfl) (by kernel_rfl) (by kernel_rfl) (by kernel_rfl) (fun _ _ _ h => h) (Or.inl ⟨by rfl, fun W' hW => by obtain ⟨s0, s1, s2⟩ := hW; go_simp⟩) hS ?_
          simp only [Act.put, List.setIfInBounds_toArray, List.set_cons_zero, List.set_cons_succ]
          refine take_D (i := 8) 57 (.int .i64 ((k : Int) + 1)) rfl rfl (by kernel_rfl) (by kernel_rfl) (by kernel_rfl) (by kernel_rfl) (fun _ _ _ h => h) (Or.inl ⟨by rfl, fun W' hW => by obtain ⟨s0, s1, s2⟩ := hW; go_simp⟩) hS ?_
          simp only [Act.put, List.setIfInBounds_toArray, List.set_cons_zero, List.set_cons_succ]
          refine take_D (i := 9) 58 (.pointer (some ⟨g, og + (k + 1) * 5, none⟩)) rfl rfl (by kernel_rfl) (by kernel_rfl) (by kernel_rfl) (by kernel_rfl) (fun _ _ _ h => h) (Or.inl ⟨by rfl, fun W' hW => by obtain ⟨s0, s1, s2⟩ := hW; go_simp⟩) hS ?_
          simp only [Act.put, List.setIfInBounds_toArray, List.set_cons_zero, List.set_cons_succ]
          refine take_D (i := 10) 59 (.pointer (some ⟨g, og + (k + 1) * 5 + 4, none⟩)) rfl rfl (by kernel_rfl) (by kernel_rfl) (by kernel_rfl) (by kernel_rfl) (fun _ _ _ h => h) (Or.inl ⟨by rfl, fun W' hW => by obtain ⟨s0, s1, s2⟩ := hW; go_simp⟩) hS ?_
          simp only [Act.put, List.setIfInBounds_toArray, List.set_cons_zero, List.set_cons_succ]
          refine take_D (i := 11) 60 (.int .i64 n.co) rfl rfl (by kernel_rfl) (by kernel_rfl) (by kernel_rfl) (by kernel_rfl) (fun _ _ _ h => h) (Or.inl ⟨by rfl, fun W' hW => by obtain ⟨s0, s1, s2⟩ := hW; go_simp⟩) hS ?_
          simp only [Act.put, List.setIfInBounds_toArray, List.set_cons_zero, List.set_cons_succ]
          refine take_D (i := 12) 61 (.agg #[.slice po o.length co, .slice pi st.length ci]) rfl rfl (by kernel_rfl) (by kernel_rfl) (by kernel_rfl) (by kernel_rfl) (fun _ _ _ h => h) (Or.inl ⟨by rfl, fun W' hW => by obtain ⟨s0, s1, s2⟩ := hW; go_simp⟩) hS ?_
          simp only [Act.put, List.setIfInBounds_toArray, List.set_cons_zero, List.set_cons_succ]
          refine ready_J (rs := [13]) (by kernel_rfl) (by simp) ?_
          intro i him
          obtain rfl := List.mem_singleton.1 him
          refine op_W rfl (by rfl) fun K hK => ?_
          go_simp
          refine (HCOL.out _ hb).mono ?_
          rintro e W3 ⟨rfl, hb⟩
          go_simp
          refine hK _ _ ⟨fun _ => HF3.out _ hb, ?_⟩
          clear hK K
          have hS := HF3.out _ hb
          refine take_D (i := 14) 63 (.bool true) rfl rfl (by kernel_rfl) (by kernel_rfl) (by kernel_rfl) (by kernel_rfl) (fun _ _ _ h => h) (Or.inl ⟨by rfl, fun W' hW => by obtain ⟨s0, s1, s2⟩ := hW; go_simp⟩) hS ?_
          simp only [Act.put, List.setIfInBounds_toArray, List.set_cons_zero, List.set_cons_succ]
          refine take_D (i := 15) 64 (.bool true) rfl rfl (by kernel_rfl) (by kernel_rfl) (by kernel_rfl) (by kernel_rfl) (fun _ _ _ h => h) (Or.inl ⟨by rfl, fun W' hW => by obtain ⟨s0, s1, s2⟩ := hW; go_simp⟩) hS ?_
          simp only [Act.put, List.setIfInBounds_toArray, List.set_cons_zero, List.set_cons_succ]
          refine done_J (by kernel_rfl) ?_ _
          refine NoPanic.normal ?_
          go_wp2_with fail
          have hb := hb.trans (below_drew _ _)
          refine wp_region_noPanic ?_
          refine region_J 16 (N := 14) (S := (fun W' => W'.cell? ⟨w.heap.size, 0, none⟩ = some (.slice po o.length co) ∧ W'.cell? ⟨w.heap.size, 1, none⟩ = some (.slice pi st.length ci) ∧ W'.cell? ⟨g, og + (k + 1) * 5, none⟩ = some (.int .i64 n.kd) ∧ W'.cell? ⟨g, og + (k + 1) * 5 + 1, none⟩ = some (.string (S n.tx)) ∧ W'.cell? ⟨g, og + (k + 1) * 5 + 2, none⟩ = some (.int .i64 n.nu) ∧ W'.cell? ⟨g, og + (k + 1) * 5 + 3, none⟩ = some (.int .i64 n.ln) ∧ W'.cell? ⟨g, og + (k + 1) * 5 + 4, none⟩ = some (.int .i64 n.co))) (by kernel_rfl) (by kernel_rfl) ?_
          have hS := HF7n.out _ hb
          refine take_D (i := 0) 65 (.agg #[.slice po o.length co, .slice pi st.length ci]) rfl rfl (by kernel_rfl) (by kernel_rfl) (by kernel_rfl) (by kernel_rfl) (fun _ _ _ h => h) (Or.inl ⟨by rfl, fun W' hW => by obtain ⟨s0, s1, s2, s3, s4, s5, s6⟩ := hW; go_simp⟩) hS ?_
          simp only [Act.put, List.setIfInBounds_toArray, List.set_cons_zero, List.set_cons_succ]
          refine take_D (i := 1) 66 (.slice (some ⟨g, og, none⟩) m c) rfl rfl (by kernel_rfl) (by kernel_rfl) (by kernel_rfl) (by kernel_rfl) (fun _ _ _ h => h) (Or.inl ⟨by rfl, fun W' hW => by obtain ⟨s0, s1, s2, s3, s4, s5, s6⟩ := hW; go_simp⟩) hS ?_
          simp only [Act.put, List.setIfInBounds_toArray, List.set_cons_zero, List.set_cons_succ]
          refine take_D (i := 2) 67 (.int .i64 k) rfl rfl (by kernel_rfl) (by kernel_rfl) (by kernel_rfl) (by kernel_rfl) (fun _ _ _ h => h) (Or.inl ⟨by rfl, fun W' hW => by obtain ⟨s0, s1, s2, s3, s4, s5, s6⟩ := hW; go_simp⟩) hS ?_
          simp only [Act.put, List.setIfInBounds_toArray, List.set_cons_zero, List.set_cons_succ]
          refine take_D (i := 3) 68 (.int .i64 ((k : Int) + 1)) rfl rfl (by kernel_rfl) (by kernel_rfl) (by kernel_rfl) (by kernel_rfl) (fun _ _ _ h => h) (Or.inl ⟨by rfl, fun W' hW => by obtain ⟨s0, s1, s2, s3, s4, s5, s6⟩ := hW; go_simp⟩) hS ?_
          simp only [Act.put, List.setIfInBounds_toArray, List.set_cons_zero, List.set_cons_succ]
          refine take_D (i := 4) 69 (.pointer (some ⟨g, og + (k + 1) * 5, none⟩)) rfl rfl (by kernel_rfl) (by kernel_rfl) (by kernel_rfl) (by kernel_rfl) (fun _ _ _ h => h) (Or.inl ⟨by rfl, fun W' hW => by obtain ⟨s0, s1, s2, s3, s4, s5, s6⟩ := hW; go_simp⟩) hS ?_
          simp only [Act.put, List.setIfInBounds_toArray, List.set_cons_zero, List.set_cons_succ]
          refine take_D (i := 5) 70 (.agg #[.int .i64 n.kd, .string (S n.tx), .int .i64 n.nu, .int .i64 n.ln, .int .i64 n.co]) rfl rfl (by kernel_rfl) (by kernel_rfl) (by kernel_rfl) (by kernel_rfl) (fun _ _ _ h => h) (Or.inl ⟨by rfl, fun W' hW => by obtain ⟨s0, s1, s2, s3, s4, s5, s6⟩ := hW; go_simp⟩) hS ?_
          simp only [Act.put, List.setIfInBounds_toArray, List.set_cons_zero, List.set_cons_succ]
          refine take_D (i := 7) 72 (.slice (some ⟨g, og, none⟩) m c) rfl rfl (by kernel_rfl) (by kernel_rfl) (by kernel_rfl) (by kernel_rfl) (fun _ _ _ h => h) (Or.inl ⟨by rfl, fun W' hW => by obtain ⟨s0, s1, s2, s3, s4, s5, s6⟩ := hW; go_simp⟩) hS ?_
          simp only [Act.put, List.setIfInBounds_toArray, List.set_cons_zero, List.set_cons_succ]
          refine take_D (i := 8) 73 (.int .i64 k) rfl rfl (by kernel_rfl) (by kernel_rfl) (by kernel_rfl) (by kernel_rfl) (fun _ _ _ h => h) (Or.inl ⟨by rfl, fun W' hW => by obtain ⟨s0, s1, s2, s3, s4, s5, s6⟩ := hW; go_simp⟩) hS ?_
          simp only [Act.put, List.setIfInBounds_toArray, List.set_cons_zero, List.set_cons_succ]
          refine take_D (i := 9) 74 (.int .i64 ((k : Int) + 1)) rfl rfl (by kernel_rfl) (by kernel_rfl) (by kernel_rfl) (by kernel_rfl) (fun _ _ _ h => h) (Or.inl ⟨by rfl, fun W' hW => by obtain ⟨s0, s1, s2, s3, s4, s5, s6⟩ := hW; go_simp⟩) hS ?_
          simp only [Act.put, List.setIfInBounds_toArray, List.set_cons_zero, List.set_cons_succ]
          refine take_D (i := 10) 75 (.pointer (some ⟨g, og + (k + 1) * 5, none⟩)) rfl rfl (by kernel_rfl) (by kernel_rfl) (by kernel_rfl) (by kernel_rfl) (fun _ _ _ h => h) (Or.inl ⟨by rfl, fun W' hW => by obtain ⟨s0, s1, s2, s3, s4, s5, s6⟩ := hW; go_simp⟩) hS ?_
          simp only [Act.put, List.setIfInBounds_toArray, List.set_cons_zero, List.set_cons_succ]
          refine take_D (i := 11) 76 (.pointer (some ⟨g, og + (k + 1) * 5 + 4, none⟩)) rfl rfl (by kernel_rfl) (by kernel_rfl) (by kernel_rfl) (by kernel_rfl) (fun _ _ _ h => h) (Or.inl ⟨by rfl, fun W' hW => by obtain ⟨s0, s1, s2, s3, s4, s5, s6⟩ := hW; go_simp⟩) hS ?_
          simp only [Act.put, List.setIfInBounds_toArray, List.set_cons_zero, List.set_cons_succ]
          refine take_D (i := 12) 77 (.int .i64 n.co) rfl rfl (by kernel_rfl) (by kernel_rfl) (by kernel_rfl) (by kernel_rfl) (fun _ _ _ h => h) (Or.inl ⟨by rfl, fun W' hW => by obtain ⟨s0, s1, s2, s3, s4, s5, s6⟩ := hW; go_simp⟩) hS ?_
          simp only [Act.put, List.setIfInBounds_toArray, List.set_cons_zero, List.set_cons_succ]
          have HP := hide (put_ra [123] n (HN1.out.below hb).ra (HN1.out.below hb).hi (by omega))
          unfold tv at HP
          refine ready_J (rs := [6]) (by kernel_rfl) (by simp) ?_
          intro i him
          obtain rfl := List.mem_singleton.1 him
          refine op_W rfl (by rfl) fun K hK => ?_
          go_simp
          refine HP.out.mono ?_
          rintro e W4 ⟨po2, co2, rfl, hR4, hB4⟩
          have hb4 := hb.trans (hB4.mono hb.size)
          go_simp
          refine hK _ _ ⟨fun _ => HF7n.out _ hb4, ?_⟩
          clear hK K HP
          have hP2 := open_ra ⟨[], n.co⟩ n.co rfl hR4 (HN1.out.below hb4).hi (by omega)
          rw [List.length_append, List.length_singleton] at hP2
          have HP := hide hP2
          clear hP2 hR4
          refine ready_J (rs := [13]) (by kernel_rfl) (by simp) ?_
          intro i him
          obtain rfl := List.mem_singleton.1 him
          refine op_W rfl (by rfl) fun K hK => ?_
          go_simp
          refine HP.out.mono ?_
          rintro e W5 ⟨pi3, ci3, rfl, hR5, hB5⟩
          have hb5 := hb4.trans (hB5.mono hb4.size)
          go_simp
          refine hK _ _ ⟨fun _ => HF7n.out _ hb5, ?_⟩
          clear hK K HP
          have N2 := HN1.out.below hb5
          have e0 := N2.re.cell 0
          have e1 := N2.re.cell 1
          have f0 := N2.re.frozen 0
          have f1 := N2.re.frozen 1
          have HFI := hide (NB.fin (w := w) hR5 rfl (B1.trans (Below.mono hb5 B1.size)) (o.length + 1) (st.length + 1) (by simp) (by simp))
          clear N2
          refine ready_J (rs := [14]) (by kernel_rfl) (by simp) ?_
          intro i him
          obtain rfl := List.mem_singleton.1 him
          refine op_W rfl (by rfl) fun K hK => ?_
          go_simp
          refine hK _ _ ⟨fun h => absurd h (by decide), ?_⟩
          clear hK K
          refine ready_J (rs := [15]) (by kernel_rfl) (by simp) ?_
          intro i him
          obtain rfl := List.mem_singleton.1 him
          refine op_W rfl (by rfl) fun K hK => ?_
          go_simp
          refine hK _ _ ⟨fun h => absurd h (by decide), ?_⟩
          clear hK K
          refine done_J (by kernel_rfl) ?_ _
          refine NoPanic.normal ?_
          go_wp2_with fail
          exact bodyPost_ret (v := .tuple #[.agg #[.slice po2 (o.length + 1) co2, .slice pi3 (st.length + 1) ci3], .bool true]) (by simp only [results, Tryd.results27]; go_simp) rfl ⟨po2, co2, pi3, ci3, by rw [HRE.out]; simp, by rw [HRE.out]; exact HFI.out.1, HFI.out.2⟩
        · have hd2 : decide (cl < n.co) = false := by simpa using hc
          have HRE : Hid (r = (st, (o ++ [pt1 123 t]) ++ [pt1 125 t], false)) := by show r = _; rw [HR.out]; unfold indM; simp only [hkn]; rw [if_neg (by simp), if_neg (by rw [hcl]; exact hc)]
          go_wp2_with fail
          refine wp_region_noPanic ?_
          refine region_J 16 (N := 16) (S := (fun W' => W'.cell? ⟨w.heap.size, 0, none⟩ = some (.slice po o.length co) ∧ W'.cell? ⟨w.heap.size, 1, none⟩ = some (.slice pi st.length ci) ∧ W'.cell? ⟨g, og + (k + 1) * 5 + 4, none⟩ = some (.int .i64 n.co))) (by kernel_rfl) (by kernel_rfl) ?_
          have hS := HF3.out _ hb
          refine take_D (i := 0) 49 (.int .i64 k) rfl rfl (by kernel_rfl) (by kernel_rfl) (by kernel_rfl) (by kernel_rfl) (fun _ _ _ h => h) (Or.inl ⟨by rfl, fun W' hW => by obtain ⟨s0, s1, s2⟩ := hW; go_simp⟩) hS ?_
          simp only [Act.put, List.setIfInBounds_toArray, List.set_cons_zero, List.set_cons_succ]
          refine take_D (i := 1) 50 (.int .i64 ((k : Int) + 1)) rfl rfl (by kernel_rfl) (by kernel_rfl) (by kernel_rfl) (by kernel_rfl) (fun _ _ _ h => h) (Or.inl ⟨by rfl, fun W' hW => by obtain ⟨s0, s1, s2⟩ := hW; go_simp⟩) hS ?_
          simp only [Act.put, List.setIfInBounds_toArray, List.set_cons_zero, List.set_cons_succ]
          refine take_D (i := 2) 51 (.slice (some ⟨g, og, none⟩) m c) rfl rfl (by kernel_rfl) (by kernel_rfl) (by kernel_rfl) (by kernel_rfl) (fun _ _ _ h => h) (Or.inl ⟨by rfl, fun W' hW => by obtain ⟨s0, s1, s2⟩ := hW; go_simp⟩) hS ?_
          simp only [Act.put, List.setIfInBounds_toArray, List.set_cons_zero, List.set_cons_succ]
          refine take_D (i := 3) 52 (.int .i64 m) rfl rfl (by kernel_rfl) (by kernel_rfl) (by kernel_rfl) (by kernel_rfl) (fun _ _ _ h => h) (Or.inl ⟨by rfl, fun W' hW => by obtain ⟨s0, s1, s2⟩ := hW; go_simp⟩) hS ?_
          simp only [Act.put, List.setIfInBounds_toArray, List.set_cons_zero, List.set_cons_succ]
          refine take_D (i := 4) 53 (.bool true) rfl rfl (by kernel_rfl) (by kernel_rfl) (by kernel_rfl) (by kernel_rfl) (fun _ _ _ h => h) (Or.inl ⟨by rfl, fun W' hW => by obtain ⟨s0, s1, s2⟩ := hW; go_simp⟩) hS ?_
          simp only [Act.put, List.setIfInBounds_toArray, List.set_cons_zero, List.set_cons_succ]
          refine take_D (i := 5) 54 (.bool true) rfl rfl (by kernel_rfl) (by kernel_rfl) (by kernel_rfl) (by kernel_rfl) (fun _ _ _ h => h) (Or.inl ⟨by rfl, fun W' hW => by obtain ⟨s0, s1, s2⟩ := hW; go_simp⟩) hS ?_
          simp only [Act.put, List.setIfInBounds_toArray, List.set_cons_zero, List.set_cons_succ]
          refine take_D (i := 6) 55 (.slice (some ⟨g, og, none⟩) m c) rfl rfl (by kernel_rfl) (by kernel_rfl) (by kernel_rfl) (by kernel_rfl) (fun _ _ _ h => h) (Or.inl ⟨by rfl, fun W' hW => by obtain ⟨s0, s1, s2⟩ := hW; go_simp⟩) hS ?_
          simp only [Act.put, List.setIfInBounds_toArray, List.set_cons_zero, List.set_cons_succ]
          refine take_D (i := 7) 56 (.int .i64 k) rfl rfl (by kernel_rfl) (by kernel_rfl) (by kernel_rfl) (by kernel_rfl) (fun _ _ _ h => h) (Or.inl ⟨by rfl, fun W' hW => by obtain ⟨s0, s1, s2⟩ := hW; go_simp⟩) hS ?_
          simp only [Act.put, List.setIfInBounds_toArray, List.set_cons_zero, List.set_cons_succ]
          refine take_D (i := 8) 57 (.int .i64 ((k : Int) + 1)) rfl rfl (by kernel_rfl) (by kernel_rfl) (by kernel_rfl) (by kernel_rfl) (fun _ _ _ h => h) (Or.inl ⟨by rfl, fun W' hW => by obtain ⟨s0, s1, s2⟩ := hW; go_simp⟩) hS ?_
          simp only [Act.put, List.setIfInBounds_toArray, List.set_cons_zero, List.set_cons_succ]
          refine take_D (i := 9) 58 (.pointer (some ⟨g, og + (k + 1) * 5, none⟩)) rfl rfl (by kernel_rfl) (by kernel_rfl) (by kernel_rfl) (by kernel_rfl) (fun _ _ _ h => h) (Or.inl ⟨by rfl, fun W' hW => by obtain ⟨s0, s1, s2⟩ := hW; go_simp⟩) hS ?_
          simp only [Act.put, List.setIfInBounds_toArray, List.set_cons_zero, List.set_cons_succ]
          refine take_D (i := 10) 59 (.pointer (some ⟨g, og + (k + 1) * 5 + 4, none⟩)) rfl rfl (by kernel_rfl) (by kernel_rfl) (by kernel_rfl) (by kernel_rfl) (fun _ _ _ h => h) (Or.inl ⟨by rfl, fun W' hW => by obtain ⟨s0, s1, s2⟩ := hW; go_simp⟩) hS ?_
          simp only [Act.put, List.setIfInBounds_toArray, List.set_cons_zero, List.set_cons_succ]
          refine take_D (i := 11) 60 (.int .i64 n.co) rfl rfl (by kernel_rfl) (by kernel_rfl) (by kernel_rfl) (by kernel_rfl) (fun _ _ _ h => h) (Or.inl ⟨by rfl, fun W' hW => by obtain ⟨s0, s1, s2⟩ := hW; go_simp⟩) hS ?_
          simp only [Act.put, List.setIfInBounds_toArray, List.set_cons_zero, List.set_cons_succ]
          refine take_D (i := 12) 61 (.agg #[.slice po o.length co, .slice pi st.length ci]) rfl rfl (by kernel_rfl) (by kernel_rfl) (by kernel_rfl) (by kernel_rfl) (fun _ _ _ h => h) (Or.inl ⟨by rfl, fun W' hW => by obtain ⟨s0, s1, s2⟩ := hW; go_simp⟩) hS ?_
          simp only [Act.put, List.setIfInBounds_toArray, List.set_cons_zero, List.set_cons_succ]
          refine ready_J (rs := [13]) (by kernel_rfl) (by simp) ?_
          intro i him
          obtain rfl := List.mem_singleton.1 him
          refine op_W rfl (by rfl) fun K hK => ?_
          go_simp
          refine (HCOL.out _ hb).mono ?_
          rintro e W3 ⟨rfl, hb⟩
          go_simp
          refine hK _ _ ⟨fun _ => HF3.out _ hb, ?_⟩
          clear hK K
          have hS := HF3.out _ hb
          refine take_D (i := 14) 63 (.bool false) rfl rfl (by kernel_rfl) (by kernel_rfl) (by kernel_rfl) (by kernel_rfl) (fun _ _ _ h => h) (Or.inl ⟨by rfl, fun W' hW => by obtain ⟨s0, s1, s2⟩ := hW; go_simp⟩) hS ?_
          simp only [Act.put, List.setIfInBounds_toArray, List.set_cons_zero, List.set_cons_succ]
          refine take_D (i := 15) 64 (.bool false) rfl rfl (by kernel_rfl) (by kernel_rfl) (by kernel_rfl) (by kernel_rfl) (fun _ _ _ h => h) (Or.inl ⟨by rfl, fun W' hW => by obtain ⟨s0, s1, s2⟩ := hW; go_simp⟩) hS ?_
          simp only [Act.put, List.setIfInBounds_toArray, List.set_cons_zero, List.set_cons_succ]
          refine done_J (by kernel_rfl) ?_ _
          refine NoPanic.normal ?_
          go_wp2_with fail
          have hb := hb.trans (below_drew _ _)
          refine wp_region_noPanic ?_
          refine region_J 7 (N := 5) (S := (fun W' => W'.cell? ⟨w.heap.size, 0, none⟩ = some (.slice po o.length co) ∧ W'.cell? ⟨w.heap.size, 1, none⟩ = some (.slice pi st.length ci) ∧ W'.cell? ⟨w.heap.size + 1 + 1, 0, none⟩ = some (.int .i64 t.kd) ∧ W'.cell? ⟨w.heap.size + 1 + 1, 1, none⟩ = some (.string (S t.tx)) ∧ W'.cell? ⟨w.heap.size + 1 + 1, 2, none⟩ = some (.int .i64 t.nu) ∧ W'.cell? ⟨w.heap.size + 1 + 1, 3, none⟩ = some (.int .i64 t.ln) ∧ W'.cell? ⟨w.heap.size + 1 + 1, 4, none⟩ = some (.int .i64 t.co))) (by kernel_rfl) (by kernel_rfl) ?_
          have hS := HF7.out _ hb
          refine take_D (i := 0) 79 (.agg #[.slice po o.length co, .slice pi st.length ci]) rfl rfl (by kernel_rfl) (by kernel_rfl) (by kernel_rfl) (by kernel_rfl) (fun _ _ _ h => h) (Or.inl ⟨by rfl, fun W' hW => by obtain ⟨s0, s1, s2, s3, s4, s5, s6⟩ := hW; go_simp⟩) hS ?_
          simp only [Act.put, List.setIfInBounds_toArray, List.set_cons_zero, List.set_cons_succ]
          refine take_D (i := 1) 80 (.agg #[.int .i64 t.kd, .string (S t.tx), .int .i64 t.nu, .int .i64 t.ln, .int .i64 t.co]) rfl rfl (by kernel_rfl) (by kernel_rfl) (by kernel_rfl) (by kernel_rfl) (fun _ _ _ h => h) (Or.inl ⟨by rfl, fun W' hW => by obtain ⟨s0, s1, s2, s3, s4, s5, s6⟩ := hW; go_simp⟩) hS ?_
          simp only [Act.put, List.setIfInBounds_toArray, List.set_cons_zero, List.set_cons_succ]
          refine take_D (i := 3) 82 (.agg #[.int .i64 t.kd, .string (S t.tx), .int .i64 t.nu, .int .i64 t.ln, .int .i64 t.co]) rfl rfl (by kernel_rfl) (by kernel_rfl) (by kernel_rfl) (by kernel_rfl) (fun _ _ _ h => h) (Or.inl ⟨by rfl, fun W' hW => by obtain ⟨s0, s1, s2, s3, s4, s5, s6⟩ := hW; go_simp⟩) hS ?_
          simp only [Act.put, List.setIfInBounds_toArray, List.set_cons_zero, List.set_cons_succ]
          have HP := hide (put_ra [123] t (HN1.out.below hb).ra (HN1.out.below hb).hi (by omega))
          unfold tv at HP
          refine ready_J (rs := [2]) (by kernel_rfl) (by simp) ?_
          intro i him
          obtain rfl := List.mem_singleton.1 him
          refine op_W rfl (by rfl) fun K hK => ?_
          go_simp
          refine HP.out.mono ?_
          rintro e W4 ⟨po2, co2, rfl, hR4, hB4⟩
          have hb4 := hb.trans (hB4.mono hb.size)
          go_simp
          refine hK _ _ ⟨fun _ => HF7.out _ hb4, ?_⟩
          clear hK K HP
          have hP2 := put_ra [125] t hR4 (HN1.out.below hb4).hi (by simp; omega)
          rw [List.length_append, List.length_singleton] at hP2
          unfold tv at hP2
          have HP := hide hP2
          clear hP2 hR4
          refine ready_J (rs := [4]) (by kernel_rfl) (by simp) ?_
          intro i him
          obtain rfl := List.mem_singleton.1 him
          refine op_W rfl (by rfl) fun K hK => ?_
          go_simp
          refine HP.out.mono ?_
          rintro e W5 ⟨po3, co3, rfl, hR5, hB5⟩
          have hb5 := hb4.trans (hB5.mono hb4.size)
          go_simp
          refine hK _ _ ⟨fun _ => HF7.out _ hb5, ?_⟩
          clear hK K HP
          have N2 := HN1.out.below hb5
          have e0 := N2.re.cell 0
          have e1 := N2.re.cell 1
          have f0 := N2.re.frozen 0
          have f1 := N2.re.frozen 1
          have HFI := hide (NB.fin (w := w) hR5 rfl (B1.trans (Below.mono hb5 B1.size)) (o.length + 1 + 1) (st.length) (by simp) (by simp))
          clear N2
          refine ready_J (rs := [5]) (by kernel_rfl) (by simp) ?_
          intro i him
          obtain rfl := List.mem_singleton.1 him
          refine op_W rfl (by rfl) fun K hK => ?_
          go_simp
          refine hK _ _ ⟨fun h => absurd h (by decide), ?_⟩
          clear hK K
          refine ready_J (rs := [6]) (by kernel_rfl) (by simp) ?_
          intro i him
          obtain rfl := List.mem_singleton.1 him
          refine op_W rfl (by rfl) fun K hK => ?_
          go_simp
          refine hK _ _ ⟨fun h => absurd h (by decide), ?_⟩
          clear hK K
          refine done_J (by kernel_rfl) ?_ _
          refine NoPanic.normal ?_
          go_wp2_with fail
          exact bodyPost_ret (v := .tuple #[.agg #[.slice po3 (o.length + 1 + 1) co3, .slice pi (st.length) ci], .bool false]) (by simp only [results, Tryd.results27]; go_simp) rfl ⟨po3, co3, pi, ci, by rw [HRE.out]; simp, by rw [HRE.out]; exact HFI.out.1, HFI.out.2⟩
      · rw [hkn] at KN
        have HRE : Hid (r = (st, o, false)) := by show r = _; rw [HR.out]; unfold indM; simp only [hkn]; rw [if_pos trivial]
        go_wp2_with fail
        refine (KN.out _).mono ?_
        rintro e W2 ⟨rfl, b2⟩
        have N2 := HN1.out.below b2
        clear d0 d1 m0 m1 m2 m3 m4
        have d0 : W2.cell? ⟨w.heap.size, 0, none⟩ = some (.slice po o.length co) := N2.s.cell 0
        have d1 : W2.cell? ⟨w.heap.size, 1, none⟩ = some (.slice pi st.length ci) := N2.s.cell 1
        have e0 := N2.re.cell 0
        have e1 := N2.re.cell 1
        have f0 := N2.re.frozen 0
        have f1 := N2.re.frozen 1
        have HFI := hide (NB.fin (w := w) N2.ra rfl (B1.trans (b2.mono B1.size)) o.length st.length rfl rfl)
        clear N2
        go_wp2_with fail
        exact bodyPost_ret (v := .tuple #[.agg #[.slice po o.length co, .slice pi st.length ci], .bool false]) (by simp only [results, Tryd.results27]; go_simp) rfl ⟨po, co, pi, ci, by rw [HRE.out], by rw [HRE.out]; exact HFI.out.1, HFI.out.2⟩
theorem behind_ref (t : Tok) (l : List Tok) (g og k m c : Nat) (o : List Tok) (st : List Blk) (po : Option Addr) (co : Nat) (pi : Option Addr) (ci : Nat) (w : World) (hR : RS w po co pi ci o st) (hwf : wf st) (hl : o.length + st.length ≤ 900000) (hg : g < w.heap.size) (hgm : ∀ i x, l[i]? = some x → Hold2 g (og + i * 5) x w) (hx : l[k]? = some t) (hlm : l.length = m) (hm : m ≤ 1000000) :
    Calls Tryd.prog 27 #[.agg #[.slice po o.length co, .slice pi st.length ci], .slice (some ⟨g, og, none⟩) m c, .int .i64 k] w (BPost w (behM t (l.drop (k + 1)) st o false)) := by
  have hkm : k < m := by rw [← hlm]; exact (List.getElem?_eq_some_iff.1 hx).1
  have hH := hgm k t hx
  cases h1 : isK t [40]
  · cases h2 : isK t [123]
    · cases h3 : beginsK t
      · have h4 := h3
        unfold beginsK at h4
        simp only [Bool.or_eq_false_iff] at h4
        exact behind_none t g og k m c o st po co pi ci w _ hR hl hg hH hkm hm h1 h2 h4.1.1 h4.1.2 h4.2
      · refine behind_begin t g og k m c o st po co pi ci w _ hR hwf hl hg hH hkm hm (by simp [hlm]) (fun n r hn => ?_) h1 h2 h3
        refine hgm (k + 1) n ?_
        have := congrArg (fun z : List Tok => z[0]?) hn
        simpa [List.getElem?_drop] using this
    · exact behind_curly t g og k m c o st po co pi ci w _ hR hl hg hH hkm hm h1 h2
  · exact behind_round t g og k m c o st po co pi ci w _ hR hl hg hH hkm hm h1
end Go.Proofs.YtnifnbndkbmdcaaDoor
