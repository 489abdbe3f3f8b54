/-
  THE WALK OF web.teller.
-/
import Derived.Test.YteoflpalmckikaaDoorWebM
import Derived.Deep.DeepCutAuto
namespace Go.Proofs.YteoflpalmckikaaDoor
open Go.RowKit
set_option linter.unusedVariables false
set_option linter.unusedSimpArgs false
theorem below_drew (w : World) : Below w.heap.size w w.drew := ⟨rfl, rfl, rfl, Nat.le_refl _, fun _ _ => rfl⟩
set_option maxHeartbeats 4000000 in
set_option maxRecDepth 100000 in
theorem teller_any {D B hB fB lB : Nat} {v : Value} {ties : List Nat} {hp : Int → Option Nat} {fc : Nat → Option Shp} {le : Nat → Option Int} {w : World} {ro d : Nat → Nat} (h : WM D B hB fB lB v ties hp fc le w) (hF : Fo ties ro d) {i : Nat} (hi : i < ties.length) :
    Calls Tryd.prog 60 #[.pointer (some ⟨B, 0, none⟩), .int .i64 i] w fun r w' => r = .returned (.int .i64 (ro i : Nat)) ∧ ∃ ties', WM D B hB fB lB v ties' hp fc le w' ∧ Fo ties' ro d ∧ ties'.length = ties.length ∧ KP (Wt v w) w w' := by
  obtain ⟨g, c, hv, hDg, hgl, cur, hcur⟩ := h.slice (by omega)
  have hn : ties.length ≤ 100000 := h.few
  generalize hnn : ties.length = n at *
  subst hv
  have hgB : g ≠ B := fun e => row_ne h.cell h.row (by decide) (by rw [e]; rfl)
  have H := hide h
  have HF := hide hF
  have HNN := hide hnn
  clear h hF hnn hcur
  go_enter Tryd.func60, Tryd.ntmps60
  go_wp2_with fail
  go_loopg [1] (d i) (fun k s1 wr => ∃ (a : Nat) (ts : List Nat), s1 = .int .i64 a ∧ k = d a ∧ a < n ∧ ro a = ro i ∧ WM D B hB fB lB (.slice (some ⟨g, 0, none⟩) n c) ts hp fc le wr ∧ Fo ts ro d ∧ ts.length = n ∧ KP (Wt (.slice (some ⟨g, 0, none⟩) n c) w) w wr)
  case atStart => exact ⟨i, ties, rfl, rfl, hi, rfl, H.out, HF.out, HNN.out, KP.refl _ _⟩
  case round =>
    obtain ⟨a, ts, rfl, rfl, han, hra, hw, hf, hl, hk⟩ := hrel
    have hap : ts[a]? = some ts[a] := List.getElem?_eq_getElem (by omega)
    generalize ts[a] = p at *
    obtain ⟨hpn, hst⟩ := hf.step a p hap
    have hc0 := hw.cell.cell 0
    have hca := hw.at (by rw [hl]) hap
    simp only [List.getElem?_toArray, List.getElem?_cons_succ, List.getElem?_cons_zero] at hc0
    have hai : (a : Int) < n := by omega
    have HW := hide hw; have HFO := hide hf; have HK := hide hk; have HL := hide hl; have HRA := hide hra
    clear hw hf hk hl hra
    by_cases hpa : p = a
    · subst hpa
      have hro := HFO.out.self hap
      go_wp2_with fail
      go_ret
      exact ⟨by rw [← HRA.out, hro.1]; rfl, ts, HW.out, HFO.out, HL.out, HK.out⟩
    · obtain ⟨hpa', hrp, hdp⟩ : p ≠ a ∧ ro a = ro p ∧ d p < d a := by
        rcases hst with h | h
        · exact absurd h.1 hpa
        · exact h
      have hpn' : p < n := by have := HL.out; omega
      have hpq : ts[p]? = some ts[p] := List.getElem?_eq_getElem hpn
      generalize ts[p] = q at *
      obtain ⟨hqn, hst2⟩ := HFO.out.step p q hpq
      have hcp := HW.out.at (by rw [HL.out]) hpq
      have hpi : (p : Int) < n := by omega
      have hne : ¬ ((p : Int) = (a : Int)) := by omega
      have hfz : wr.frozen? ⟨g, a, none⟩ = false := by
        obtain ⟨g', c', hv', _, _, cur', hcur'⟩ := HW.out.slice (by have := HL.out; omega)
        cases hv'
        exact hcur'.frozen a
      have htie := WM.tie (x := q) (i := a) (by have := HW.out; rw [← HL.out] at this; exact this) (by have := HL.out; omega)
      rw [HL.out] at htie
      have hset : (wr.setCell ⟨g, a, none⟩ (.int .i64 q)).cell? ⟨g, a, none⟩ = some (.int .i64 q) := htie.1.at (by rw [List.length_set, HL.out]) (by rw [List.getElem?_set_self (by have := HL.out; omega)])
      have hset0 := htie.1.cell.cell 0
      simp only [List.getElem?_toArray, List.getElem?_cons_succ, List.getElem?_cons_zero] at hset0
      have HT := hide htie
      clear htie
      go_upto_region 2 with fail
      refine region_J 20 (N := 18) (S := (fun W' : World => W'.cell? ⟨B, 0, none⟩ = some (.slice (some ⟨g, 0, none⟩) n c) ∧ W'.cell? ⟨g, a, none⟩ = some (.int .i64 p) ∧ W'.cell? ⟨g, p, none⟩ = some (.int .i64 q))) (by kernel_rfl) (by kernel_rfl) ?_
      have hS : (fun W' : World => W'.cell? ⟨B, 0, none⟩ = some (.slice (some ⟨g, 0, none⟩) n c) ∧ W'.cell? ⟨g, a, none⟩ = some (.int .i64 p) ∧ W'.cell? ⟨g, p, none⟩ = some (.int .i64 q)) wr.drew := ⟨hc0, hca, hcp⟩
      refine take_D (i := 0) 14 (.pointer (some ⟨B, 0, none⟩)) rfl rfl (by kernel_rfl) (by kernel_rfl) (by kernel_rfl) (by kernel_rfl) (fun _ _ _ h => h) (Or.inl ⟨by rfl, fun W' hW => by obtain ⟨s0, s1, s2⟩ := hW; go_simp⟩) hS ?_
      simp only [Act.put, List.setIfInBounds_toArray, List.set_cons_zero, List.set_cons_succ]
      refine take_D (i := 1) 15 (.pointer (some ⟨B, 0, none⟩)) rfl rfl (by kernel_rfl) (by kernel_rfl) (by kernel_rfl) (by kernel_rfl) (fun _ _ _ h => h) (Or.inl ⟨by rfl, fun W' hW => by obtain ⟨s0, s1, s2⟩ := hW; go_simp⟩) hS ?_
      simp only [Act.put, List.setIfInBounds_toArray, List.set_cons_zero, List.set_cons_succ]
      refine take_D (i := 2) 16 (.pointer (some ⟨B, 0, none⟩)) rfl rfl (by kernel_rfl) (by kernel_rfl) (by kernel_rfl) (by kernel_rfl) (fun _ _ _ h => h) (Or.inl ⟨by rfl, fun W' hW => by obtain ⟨s0, s1, s2⟩ := hW; go_simp⟩) hS ?_
      simp only [Act.put, List.setIfInBounds_toArray, List.set_cons_zero, List.set_cons_succ]
      refine take_D (i := 3) 17 (.slice (some ⟨g, 0, none⟩) n c) rfl rfl (by kernel_rfl) (by kernel_rfl) (by kernel_rfl) (by kernel_rfl) (fun _ _ _ h => h) (Or.inl ⟨by rfl, fun W' hW => by obtain ⟨s0, s1, s2⟩ := hW; go_simp⟩) hS ?_
      simp only [Act.put, List.setIfInBounds_toArray, List.set_cons_zero, List.set_cons_succ]
      refine take_D (i := 4) 18 (.int .i64 a) rfl rfl (by kernel_rfl) (by kernel_rfl) (by kernel_rfl) (by kernel_rfl) (fun _ _ _ h => h) (Or.inl ⟨by rfl, fun W' hW => by obtain ⟨s0, s1, s2⟩ := hW; go_simp⟩) hS ?_
      simp only [Act.put, List.setIfInBounds_toArray, List.set_cons_zero, List.set_cons_succ]
      refine take_D (i := 5) 19 (.pointer (some ⟨B, 0, none⟩)) rfl rfl (by kernel_rfl) (by kernel_rfl) (by kernel_rfl) (by kernel_rfl) (fun _ _ _ h => h) (Or.inl ⟨by rfl, fun W' hW => by obtain ⟨s0, s1, s2⟩ := hW; go_simp⟩) hS ?_
      simp only [Act.put, List.setIfInBounds_toArray, List.set_cons_zero, List.set_cons_succ]
      refine take_D (i := 6) 20 (.pointer (some ⟨B, 0, none⟩)) rfl rfl (by kernel_rfl) (by kernel_rfl) (by kernel_rfl) (by kernel_rfl) (fun _ _ _ h => h) (Or.inl ⟨by rfl, fun W' hW => by obtain ⟨s0, s1, s2⟩ := hW; go_simp⟩) hS ?_
      simp only [Act.put, List.setIfInBounds_toArray, List.set_cons_zero, List.set_cons_succ]
      refine take_D (i := 7) 21 (.pointer (some ⟨B, 0, none⟩)) rfl rfl (by kernel_rfl) (by kernel_rfl) (by kernel_rfl) (by kernel_rfl) (fun _ _ _ h => h) (Or.inl ⟨by rfl, fun W' hW => by obtain ⟨s0, s1, s2⟩ := hW; go_simp⟩) hS ?_
      simp only [Act.put, List.setIfInBounds_toArray, List.set_cons_zero, List.set_cons_succ]
      refine take_D (i := 8) 22 (.slice (some ⟨g, 0, none⟩) n c) rfl rfl (by kernel_rfl) (by kernel_rfl) (by kernel_rfl) (by kernel_rfl) (fun _ _ _ h => h) (Or.inl ⟨by rfl, fun W' hW => by obtain ⟨s0, s1, s2⟩ := hW; go_simp⟩) hS ?_
      simp only [Act.put, List.setIfInBounds_toArray, List.set_cons_zero, List.set_cons_succ]
      refine take_D (i := 9) 23 (.pointer (some ⟨B, 0, none⟩)) rfl rfl (by kernel_rfl) (by kernel_rfl) (by kernel_rfl) (by kernel_rfl) (fun _ _ _ h => h) (Or.inl ⟨by rfl, fun W' hW => by obtain ⟨s0, s1, s2⟩ := hW; go_simp⟩) hS ?_
      simp only [Act.put, List.setIfInBounds_toArray, List.set_cons_zero, List.set_cons_succ]
      refine take_D (i := 10) 24 (.pointer (some ⟨B, 0, none⟩)) rfl rfl (by kernel_rfl) (by kernel_rfl) (by kernel_rfl) (by kernel_rfl) (fun _ _ _ h => h) (Or.inl ⟨by rfl, fun W' hW => by obtain ⟨s0, s1, s2⟩ := hW; go_simp⟩) hS ?_
      simp only [Act.put, List.setIfInBounds_toArray, List.set_cons_zero, List.set_cons_succ]
      refine take_D (i := 11) 25 (.pointer (some ⟨B, 0, none⟩)) rfl rfl (by kernel_rfl) (by kernel_rfl) (by kernel_rfl) (by kernel_rfl) (fun _ _ _ h => h) (Or.inl ⟨by rfl, fun W' hW => by obtain ⟨s0, s1, s2⟩ := hW; go_simp⟩) hS ?_
      simp only [Act.put, List.setIfInBounds_toArray, List.set_cons_zero, List.set_cons_succ]
      refine take_D (i := 12) 26 (.slice (some ⟨g, 0, none⟩) n c) rfl rfl (by kernel_rfl) (by kernel_rfl) (by kernel_rfl) (by kernel_rfl) (fun _ _ _ h => h) (Or.inl ⟨by rfl, fun W' hW => by obtain ⟨s0, s1, s2⟩ := hW; go_simp⟩) hS ?_
      simp only [Act.put, List.setIfInBounds_toArray, List.set_cons_zero, List.set_cons_succ]
      refine take_D (i := 13) 27 (.int .i64 a) rfl rfl (by kernel_rfl) (by kernel_rfl) (by kernel_rfl) (by kernel_rfl) (fun _ _ _ h => h) (Or.inl ⟨by rfl, fun W' hW => by obtain ⟨s0, s1, s2⟩ := hW; go_simp⟩) hS ?_
      simp only [Act.put, List.setIfInBounds_toArray, List.set_cons_zero, List.set_cons_succ]
      refine take_D (i := 14) 28 (.pointer (some ⟨g, a, none⟩)) rfl rfl (by kernel_rfl) (by kernel_rfl) (by kernel_rfl) (by kernel_rfl) (fun _ _ _ h => h) (Or.inl ⟨by rfl, fun W' hW => by obtain ⟨s0, s1, s2⟩ := hW; go_simp⟩) hS ?_
      simp only [Act.put, List.setIfInBounds_toArray, List.set_cons_zero, List.set_cons_succ]
      refine take_D (i := 15) 29 (.int .i64 p) rfl rfl (by kernel_rfl) (by kernel_rfl) (by kernel_rfl) (by kernel_rfl) (fun _ _ _ h => h) (Or.inl ⟨by rfl, fun W' hW => by obtain ⟨s0, s1, s2⟩ := hW; go_simp⟩) hS ?_
      simp only [Act.put, List.setIfInBounds_toArray, List.set_cons_zero, List.set_cons_succ]
      refine take_D (i := 16) 30 (.pointer (some ⟨g, p, none⟩)) rfl rfl (by kernel_rfl) (by kernel_rfl) (by kernel_rfl) (by kernel_rfl) (fun _ _ _ h => h) (Or.inl ⟨by rfl, fun W' hW => by obtain ⟨s0, s1, s2⟩ := hW; go_simp⟩) hS ?_
      simp only [Act.put, List.setIfInBounds_toArray, List.set_cons_zero, List.set_cons_succ]
      refine take_D (i := 17) 31 (.int .i64 q) rfl rfl (by kernel_rfl) (by kernel_rfl) (by kernel_rfl) (by kernel_rfl) (fun _ _ _ h => h) (Or.inl ⟨by rfl, fun W' hW => by obtain ⟨s0, s1, s2⟩ := hW; go_simp⟩) hS ?_
      simp only [Act.put, List.setIfInBounds_toArray, List.set_cons_zero, List.set_cons_succ]
      refine ready_J (rs := [18]) (by kernel_rfl) (by simp) ?_
      intro jj hjj
      obtain rfl := List.mem_singleton.1 hjj
      clear hjj
      refine op_J rfl rfl fun K hK => ?_
      go_simp
      refine hK _ _ ⟨fun h => absurd h (by omega), ?_⟩
      clear hK K
      refine ready_J (rs := [19]) (by kernel_rfl) (by simp) ?_
      intro jj hjj
      obtain rfl := List.mem_singleton.1 hjj
      clear hjj
      refine op_J rfl rfl fun K hK => ?_
      go_simp
      refine hK _ _ ⟨fun h => absurd h (by omega), ?_⟩
      clear hK K
      refine done_J (by kernel_rfl) ?_ _
      have HT2 : Hid (WM D B hB fB lB (.slice (some ⟨g, 0, none⟩) n c) (ts.set a q) hp fc le (wr.setCell ⟨g, a, none⟩ (.int .i64 q)).drew) := HT.out.1.below (below_drew _)
      have HKK : Hid (KP (Wt (.slice (some ⟨g, 0, none⟩) n c) w) w (wr.setCell ⟨g, a, none⟩ (.int .i64 q)).drew) := (HK.out.trans (HT.out.2.mono fun b hb => hb.2)).drew
      have z0 : (wr.setCell ⟨g, a, none⟩ (.int .i64 q)).drew.cell? ⟨g, a, none⟩ = some (.int .i64 q) := hset
      have z1 : (wr.setCell ⟨g, a, none⟩ (.int .i64 q)).drew.cell? ⟨B, 0, none⟩ = some (.slice (some ⟨g, 0, none⟩) n c) := hset0
      generalize (wr.setCell ⟨g, a, none⟩ (.int .i64 q)).drew = W3 at *
      go_wp2_with fail
      have hlen : (ts.set a q).length = n := by rw [List.length_set]; exact HL.out
      have hfo2 := HFO.out.halve hap hpq hpa
      obtain ⟨hrq, hdq⟩ : ro p = ro q ∧ d q ≤ d p := by
        rcases hst2 with h | h
        · rw [h.1]; exact ⟨rfl, Nat.le_refl _⟩
        · exact ⟨h.2.1, by omega⟩
      go_roundg (d q)
      case measure => omega
      case rel => exact ⟨q, _, rfl, rfl, by have := HL.out; omega, by rw [← hrq, ← hrp]; exact HRA.out, HT2.out, hfo2, hlen, HKK.out⟩
end Go.Proofs.YteoflpalmckikaaDoor
