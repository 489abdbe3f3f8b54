/-
  THE WALKS OF dawdlerref04's ways AND block.
-/
import Derived.Test.YtebcdjlhmoffjaaDoorRefSound
namespace Go.Proofs.YtebcdjlhmoffjaaDoor
open Go.RowKit
set_option linter.unusedVariables false
set_option linter.unusedSimpArgs false
theorem firstK_eq {l : List Tr} (h : 0 < l.length) : firstK l = l[0].kd := by
  unfold firstK
  rw [List.head?_eq_getElem?, List.getElem?_eq_getElem h]
  rfl
theorem lastK_eq {l : List Tr} (h : l.length - 1 < l.length) : lastK l = l[l.length - 1].kd := by
  unfold lastK
  rw [List.getLast?_eq_getElem?, List.getElem?_eq_getElem h]
  rfl
theorem tail_all {l : List Tr} (h : ∀ j, 1 ≤ j → ∀ hj : j < l.length, l[j].kd = 8) : l.tail.all (fun k => decide (k.kd = 8)) = true := by
  rw [List.all_eq_true]
  intro k hk
  obtain ⟨j, hj, rfl⟩ := List.getElem_of_mem hk
  have := h (j + 1) (by omega) (by simp at hj; omega)
  simpa using this
theorem tail_bad {l : List Tr} {j : Nat} (h1 : 1 ≤ j) (hj : j < l.length) (h : ¬ l[j].kd = 8) : l.tail.all (fun k => decide (k.kd = 8)) = false := by
  rw [List.all_eq_false]
  refine ⟨l[j], ?_, by simpa using h⟩
  have : l.tail[j - 1]'(by simp; omega) = l[j] := by
    rw [List.getElem_tail]
    congr 1
    omega
  rw [← this]
  exact List.getElem_mem _
theorem em_of {P : Nat → Prop} {w : World} {e : Tr} {pn pk : Option Addr} {cn ck : Nat} (hE : TrIn P w e [.int .i64 e.kd, .string (S e.nm), .int .i64 e.nu, .slice pn e.ns.length cn, .slice pk e.ks.length ck]) : EM P w pk e.ks ∧ e.ks.length ≤ 9223372036854775807 ∧ SM P w pn e.ns ∧ e.ns.length ≤ 9223372036854775807 ∧ e.nm.length ≤ 281474976710656 := by
  obtain ⟨pn', cn', pk', ck', hcs, h2, _, h4, h5, h6, h7⟩ := (TrIn_iff _ _ _ _).1 hE
  simp at hcs
  obtain ⟨⟨rfl, rfl⟩, rfl, rfl⟩ := hcs
  exact ⟨h7, Nat.le_trans h5.1 h5.2.1, h6, Nat.le_trans h4.1 h4.2.1, h2⟩
set_option maxHeartbeats 4000000 in
set_option maxRecDepth 100000 in
theorem rways_any {e : Tr} (hih : ∀ k ∈ e.ks, RS k) {P : Nat → Prop} {w : World} {pn pk : Option Addr} {cn ck : Nat} (hP : ∀ b, P b → b < w.heap.size) (hE : TrIn P w e [.int .i64 e.kd, .string (S e.nm), .int .i64 e.nu, .slice pn e.ns.length cn, .slice pk e.ks.length ck]) :
    Calls Tryd.prog 39 #[.agg (cs5 e pn cn pk ck)] w fun r w' => r = .returned (.bool (rwaysM e)) ∧ Below w.heap.size w w' := by
  obtain ⟨hEM, hkl, _, _, _⟩ := em_of hE
  have hB0 : Below w.heap.size w (w.alloc (.cells (cs5 e pn cn pk ck) 25)) := (Below.refl _ w).alloc (Nat.le_refl _) _
  have hW : Hold w.heap.size (cs5 e pn cn pk ck) 25 (w.alloc (.cells (cs5 e pn cn pk ck) 25)) := Hold.new w _ 25
  have HK := hide fun W (hb : Below w.heap.size w W) => rkids_any hih (w := W) (P := P) (pk := pk) (ck := ck) (may := 8) (fun b hb' => Nat.lt_of_lt_of_le (hP b hb') hb.size) hkl (EM.keep (KP.of_below hb hP) (fun b hb => hb) hEM)
  have HT : Hid (rwaysM e = (!(decide (e.ks.length < 2) || decide (firstK e.ks = 8) || decide (firstK e.ks = 13)) && e.ks.tail.all (fun k => decide (k.kd = 8)) && rkidsM e.ks 8)) := rfl
  have HE := hide hEM
  have HW := hide hW
  have HB0 := hide hB0
  clear hih hE hEM hW hB0
  generalize rwaysM e = rv at *
  unfold cs5 at *
  generalize hnk : e.ks.length = nk at *
  have HNK := hide hnk
  clear hnk
  have hS : (w.alloc (.cells #[.int .i64 e.kd, .string (S e.nm), .int .i64 e.nu, .slice pn e.ns.length cn, .slice pk nk ck] 25)).heap.size = w.heap.size + 1 := by simp
  have HWS := hide hS
  clear hS
  by_cases h2 : nk < 2
  · have h2i : (nk : Int) < 2 := by omega
    go_enter Tryd.func39, Tryd.ntmps39
    go_wp2_with fail
    go_ret
    exact ⟨by rw [HT.out]; simp [h2], HB0.out⟩
  · have h2i : ¬ (nk : Int) < 2 := by omega
    have hil : 0 < e.ks.length := by rw [HNK.out]; omega
    obtain ⟨b, o, qn, dn, qk, dk, hpk, hPb, hIn, a0, _, _, _, _⟩ := em_at HE.out hil
    have hf := firstK_eq hil
    have hblt := hP b hPb
    have A0 := (HB0.out.cell (p := ⟨b, o + 0 * 5, none⟩) hblt).trans a0
    simp only [Nat.zero_mul, Nat.add_zero] at A0
    generalize e.ks[0].kd = k0 at *
    rw [hf] at HT
    subst hpk
    clear a0 hIn hf
    by_cases h8 : k0 = 8
    · subst h8
      go_enter Tryd.func39, Tryd.ntmps39
      go_wp2_with fail
      go_ret
      exact ⟨by rw [HT.out]; simp, HB0.out⟩
    · have h8b : (k0 == 8) = false := by simpa using h8
      by_cases h13 : k0 = 13
      · subst h13
        go_enter Tryd.func39, Tryd.ntmps39
        go_wp2_with fail
        go_ret
        exact ⟨by rw [HT.out]; simp, HB0.out⟩
      · have h13b : (k0 == 13) = false := by simpa using h13
        have HT' : Hid (rv = (e.ks.tail.all (fun k => decide (k.kd = 8)) && rkidsM e.ks 8)) := by
          show _ = _
          rw [HT.out]; simp [h2, h8, h13]
        clear HT
        go_enter Tryd.func39, Tryd.ntmps39
        go_wp2_with fail
        go_loopg [3] (nk - 1) (fun k s3 wr => ∃ i : Nat, 1 ≤ i ∧ i ≤ nk ∧ k = nk - i ∧ s3 = .int .i64 i ∧ wr = w.alloc (.cells #[.int .i64 e.kd, .string (S e.nm), .int .i64 e.nu, .slice pn e.ns.length cn, .slice (some ⟨b, o, none⟩) nk ck] 25) ∧ ∀ j, 1 ≤ j → j < i → ∀ hj : j < e.ks.length, e.ks[j].kd = 8)
        case atStart => exact ⟨1, Nat.le_refl _, by omega, by omega, rfl, rfl, fun j h1 h2 => by omega⟩
        case round =>
          obtain ⟨i, hi0, hi1, rfl, rfl, rfl, hall⟩ := hrel
          have HALL := hide hall
          clear hall
          by_cases hlt : i < nk
          · have hil : i < e.ks.length := by rw [HNK.out]; exact hlt
            obtain ⟨b', o', qn, dn, qk, dk, hpk, hPb', hIn, a0, _, _, _, _⟩ := em_at HE.out hil
            obtain ⟨rfl, rfl⟩ : b = b' ∧ o = o' := by simpa using hpk
            have A1 := (HB0.out.cell (p := ⟨b, o + i * 5, none⟩) hblt).trans a0
            have HK8 : Hid (e.ks[i].kd = e.ks[i].kd) := rfl
            have hbad := fun h => tail_bad hi0 hil h
            have hgood : e.ks[i].kd = 8 → ∀ j, 1 ≤ j → j < i + 1 → ∀ hj : j < e.ks.length, e.ks[j].kd = 8 := by
              intro h j h1 h2 hj
              by_cases hji : j < i
              · exact HALL.out j h1 hji hj
              · obtain rfl : j = i := by omega
                exact h
            have HBAD := hide hbad
            have HGOOD := hide hgood
            clear hbad hgood
            generalize e.ks[i].kd = ki at *
            have hii : (i : Int) < nk := by omega
            clear a0 hIn hpk
            by_cases hk8 : ki = 8
            · subst hk8
              go_wp2_with fail
              go_roundg (nk - (i + 1))
              case measure => omega
              case rel => exact ⟨i + 1, by omega, by omega, rfl, by go_num, rfl, HGOOD.out (by trivial)⟩
            · have hk8b : (ki == 8) = false := by simpa using hk8
              go_wp2_with fail
              go_ret
              exact ⟨by rw [HT'.out, HBAD.out hk8]; rfl, HB0.out⟩
          · have hii : ¬ (i : Int) < nk := by omega
            have HTA : Hid (rv = rkidsM e.ks 8) := by
              show _ = _
              rw [HT'.out, tail_all (fun j h1 hj => HALL.out j h1 (by have := HNK.out; omega) hj)]
              rfl
            go_wp2_with fail
            refine (HK.out _ HB0.out).mono ?_
            rintro r w1 ⟨rfl, hb1⟩
            have HB1 := hide (HB0.out.trans (hb1.mono HB0.out.size))
            clear hb1
            go_wp2_with fail
            go_ret
            exact ⟨by rw [HTA.out]; rfl, HB1.out⟩
set_option maxHeartbeats 4000000 in
set_option maxRecDepth 100000 in
theorem rblock_any {e : Tr} (hih : ∀ k ∈ e.ks, RS k) {P : Nat → Prop} {w : World} {pn pk : Option Addr} {cn ck : Nat} (hP : ∀ b, P b → b < w.heap.size) (hE : TrIn P w e [.int .i64 e.kd, .string (S e.nm), .int .i64 e.nu, .slice pn e.ns.length cn, .slice pk e.ks.length ck]) :
    Calls Tryd.prog 40 #[.agg (cs5 e pn cn pk ck)] w fun r w' => r = .returned (.bool (rblockM e)) ∧ Below w.heap.size w w' := by
  obtain ⟨hEM, hkl, _, _, _⟩ := em_of hE
  have hB0 : Below w.heap.size w (w.alloc (.cells (cs5 e pn cn pk ck) 25)) := (Below.refl _ w).alloc (Nat.le_refl _) _
  have HK := hide fun W (hb : Below w.heap.size w W) => rkids_any hih (w := W) (P := P) (pk := pk) (ck := ck) (may := 13) (fun b hb' => Nat.lt_of_lt_of_le (hP b hb') hb.size) hkl (EM.keep (KP.of_below hb hP) (fun b hb => hb) hEM)
  have HT : Hid (rblockM e = (!(decide (e.ks.length = 0) || decide (lastK e.ks = 13)) && rkidsM e.ks 13)) := rfl
  have HE := hide hEM
  have HB0 := hide hB0
  clear hih hE hEM hB0
  generalize rblockM e = rv at *
  unfold cs5 at *
  generalize hnk : e.ks.length = nk at *
  have HNK := hide hnk
  clear hnk
  by_cases h2 : nk = 0
  · subst h2
    go_enter Tryd.func40, Tryd.ntmps40
    go_wp2_with fail
    go_ret
    exact ⟨by rw [HT.out]; simp, HB0.out⟩
  · have h2i : ((nk : Int) == 0) = false := by simp; omega
    have h2j : ¬ (nk : Int) = 0 := by omega
    have hil : e.ks.length - 1 < e.ks.length := by rw [HNK.out]; omega
    obtain ⟨b, o, qn, dn, qk, dk, hpk, hPb, hIn, a0, _, _, _, _⟩ := em_at HE.out hil
    have hf := lastK_eq hil
    have hblt := hP b hPb
    have A0 := (HB0.out.cell (p := ⟨b, o + (e.ks.length - 1) * 5, none⟩) hblt).trans a0
    generalize e.ks[e.ks.length - 1].kd = k0 at *
    rw [hf] at HT
    rw [HNK.out] at A0
    subst hpk
    clear a0 hIn hf
    obtain ⟨m, rfl⟩ : ∃ m, nk = m + 1 := ⟨nk - 1, by omega⟩
    simp only [Nat.add_sub_cancel] at A0
    by_cases h13 : k0 = 13
    · subst h13
      go_enter Tryd.func40, Tryd.ntmps40
      go_wp2_with fail
      go_ret
      exact ⟨by rw [HT.out]; simp, HB0.out⟩
    · have h13b : (k0 == 13) = false := by simpa using h13
      go_enter Tryd.func40, Tryd.ntmps40
      go_wp2_with fail
      refine (HK.out _ HB0.out).mono ?_
      rintro r w1 ⟨rfl, hb1⟩
      have HB1 := hide (HB0.out.trans (hb1.mono HB0.out.size))
      clear hb1
      go_wp2_with fail
      go_ret
      exact ⟨by rw [HT.out]; simp [h13], HB1.out⟩
end Go.Proofs.YtebcdjlhmoffjaaDoor
