/-
  dawdlerref02's word and number.
-/
import Derived.Test.YtnajffpllhckkaaDoorRef
import Derived.Test.YtnajffpllhckkaaDoorMath7
namespace Go.Proofs.YtnajffpllhckkaaDoor
open Go.RowKit
set_option linter.unusedVariables false

set_option maxHeartbeats 1000000 in
theorem rword_any (l : List UInt8) (w : World) (hl : l.length ≤ 2147483647) :
    Calls Tryd.prog 50 #[.string (S l)] w fun e w' => e = .returned (.tuple #[tv l ((if kw l then 4 else if nm l then 2 else 3), 0), .bool (kw l || nm l || cn l)]) ∧ Below w.heap.size w w' := by
  have HI := hide (fun (b : Nat) w hM => in_words (b := b) l w hM)
  have HN := hide (fun w => rname_any l w (by omega))
  have HC := hide (fun w => rcon_any l w (by omega))
  unfold tv
  generalize hK : (if kw l then (4 : Int) else if nm l then 2 else 3) = K
  generalize hO : (kw l || nm l || cn l) = O
  have HK := hide hK
  have HO := hide hO
  clear hK hO
  generalize S l = s at *
  go_enter Tryd.func50, Tryd.ntmps50
  go_wp2_with fail
  refine (words_any _).mono ?_; rintro e w2 ⟨rfl, h1, b1⟩
  simp only [World.size_alloc] at b1 h1
  go_wp2_with fail
  refine (HI.out _ _ h1).mono ?_; rintro e w3 ⟨rfl, rfl⟩
  obtain ⟨hc, hf⟩ := bcell b1
  have hz2 : w.heap.size < w3.heap.size := by have := b1.size; simp at this; omega
  have HB : Hid (Below w.heap.size w w3) := ((Below.refl _ w).alloc (Nat.le_refl _) _).trans (b1.mono (by omega))
  have HB1 := hide b1
  clear b1
  cases hk : kw l with
  | true =>
    have eK : Hid (K = 4) := by show K = 4; rw [← HK.out, hk]; rfl
    have eO : Hid (O = true) := by show O = true; rw [← HO.out, hk]; rfl
    clear hk HK HO
    go_wp2_with fail
    refine bodyPost_ret (v := .tuple #[.agg #[.int .i64 4, .string s, .int .i64 0, .int .i64 0, .int .i64 0], .bool true]) (by
      have k0 : w3.cell? ⟨w.heap.size, 0, none⟩ = some (.int .i64 0) := by rw [hc _ _ (by omega)]; simp
      have k1 : w3.cell? ⟨w.heap.size, 1, none⟩ = some (.string ⟨#[]⟩) := by rw [hc _ _ (by omega)]; simp
      have k2 : w3.cell? ⟨w.heap.size, 2, none⟩ = some (.int .i64 0) := by rw [hc _ _ (by omega)]; simp
      have k3 : w3.cell? ⟨w.heap.size, 3, none⟩ = some (.int .i64 0) := by rw [hc _ _ (by omega)]; simp
      have k4 : w3.cell? ⟨w.heap.size, 4, none⟩ = some (.int .i64 0) := by rw [hc _ _ (by omega)]; simp
      clear hc hf
      simp only [results, Tryd.results50]; go_simp) rfl ⟨by rw [eK.out, eO.out], ?_⟩
    exact ((((HB.out.setCell (by simp) _).setCell (by simp) _).setCell (by simp) _).setCell (by simp) _).setCell (by simp) _
  | false =>
    go_wp2_with fail
    refine (HN.out _).mono ?_; rintro e w4 ⟨rfl, b4⟩
    have b5 := HB1.out.trans (b4.mono (by omega))
    obtain ⟨hc, hf⟩ := bcell b5
    have hz4 : w.heap.size < w4.heap.size := by have := b4.size; omega
    have HB5 : Hid (Below w.heap.size w w4) := HB.out.trans (b4.mono (by omega))
    clear b5 b4
    cases hn : nm l with
    | true =>
      have eK : Hid (K = 2) := by show K = 2; rw [← HK.out, hk, hn]; rfl
      have eO : Hid (O = true) := by show O = true; rw [← HO.out, hk, hn]; rfl
      clear hk hn HK HO
      go_wp2_with fail
      refine bodyPost_ret (v := .tuple #[.agg #[.int .i64 2, .string s, .int .i64 0, .int .i64 0, .int .i64 0], .bool true]) (by
        have k0 : w4.cell? ⟨w.heap.size, 0, none⟩ = some (.int .i64 0) := by rw [hc _ _ (by omega)]; simp
        have k1 : w4.cell? ⟨w.heap.size, 1, none⟩ = some (.string ⟨#[]⟩) := by rw [hc _ _ (by omega)]; simp
        have k2 : w4.cell? ⟨w.heap.size, 2, none⟩ = some (.int .i64 0) := by rw [hc _ _ (by omega)]; simp
        have k3 : w4.cell? ⟨w.heap.size, 3, none⟩ = some (.int .i64 0) := by rw [hc _ _ (by omega)]; simp
        have k4 : w4.cell? ⟨w.heap.size, 4, none⟩ = some (.int .i64 0) := by rw [hc _ _ (by omega)]; simp
        clear hc hf
        simp only [results, Tryd.results50]; go_simp) rfl ⟨by rw [eK.out, eO.out], ?_⟩
      exact ((((HB5.out.setCell (by simp) _).setCell (by simp) _).setCell (by simp) _).setCell (by simp) _).setCell (by simp) _
    | false =>
      go_wp2_with fail
      refine (HC.out _).mono ?_; rintro e w5 ⟨rfl, rfl⟩
      have eK : Hid (K = 3) := by show K = 3; rw [← HK.out, hk, hn]; rfl
      have eO : Hid (O = cn l) := by show O = cn l; rw [← HO.out, hk, hn]; rfl
      clear hk hn HK HO HC
      generalize cn l = b at *
      go_wp2_with fail
      refine bodyPost_ret (v := .tuple #[.agg #[.int .i64 3, .string s, .int .i64 0, .int .i64 0, .int .i64 0], .bool b]) (by
        have k0 : w5.cell? ⟨w.heap.size, 0, none⟩ = some (.int .i64 0) := by rw [hc _ _ (by omega)]; simp
        have k1 : w5.cell? ⟨w.heap.size, 1, none⟩ = some (.string ⟨#[]⟩) := by rw [hc _ _ (by omega)]; simp
        have k2 : w5.cell? ⟨w.heap.size, 2, none⟩ = some (.int .i64 0) := by rw [hc _ _ (by omega)]; simp
        have k3 : w5.cell? ⟨w.heap.size, 3, none⟩ = some (.int .i64 0) := by rw [hc _ _ (by omega)]; simp
        have k4 : w5.cell? ⟨w.heap.size, 4, none⟩ = some (.int .i64 0) := by rw [hc _ _ (by omega)]; simp
        clear hc hf
        simp only [results, Tryd.results50]; go_simp) rfl ⟨by rw [eK.out, eO.out], ?_⟩
      exact ((((HB5.out.setCell (by simp) _).setCell (by simp) _).setCell (by simp) _).setCell (by simp) _).setCell (by simp) _
theorem nv_take (l : List UInt8) (k : Nat) (h : k < l.length) : nv (l.take (k + 1)) = nv (l.take k) * 10 + (l[k].toNat - 48) := by
  rw [List.take_succ_eq_append_getElem h]; unfold nv; rw [List.foldl_append]; rfl
theorem nv_mono (l : List UInt8) (k : Nat) : nv (l.take k) ≤ nv l := by
  have h : nv l = nvA (nv (l.take k)) (l.drop k) := by
    conv => lhs; rw [← List.take_append_drop k l]
    unfold nv nvA; rw [List.foldl_append]
  rw [h]; exact nvA_ge _ _
set_option maxHeartbeats 1000000 in
theorem rnumber_any (l : List UInt8) (w : World) (hl : l.length ≤ 2147483647) (hd : l.all dg = true) :
    Calls Tryd.prog 48 #[.string (S l)] w fun e w' => e = .returned (if nv l ≤ big then .tuple #[.int .i64 (nv l), .bool true] else .tuple #[.int .i64 0, .bool false]) ∧ w' = w := by
  have hz := S_size l
  have hG : ∀ k (h : k < (S l).size) (h' : k < l.length), (S l)[k]'h = l[k] := fun k h h' => S_get l k h h'
  have HG := hide hG
  clear hG
  generalize S l = s at *
  go_enter Tryd.func48, Tryd.ntmps48
  go_wp2_with fail
  go_loop [4, 5] (fun v i => ∃ k : Nat, k ≤ l.length ∧ i = .int .i64 k ∧ v = .int .i64 (nv (l.take k)) ∧ nv (l.take k) ≤ big) (fun _ i => l.length - (intOf i).toNat)
  case atStart => exact ⟨0, Nat.zero_le _, rfl, rfl, by simp [nv]⟩
  case round =>
    obtain ⟨k, hk, rfl, rfl, hb⟩ := hrel
    by_cases hlt : k < l.length
    · have HT := hide (nv_take l k hlt)
      have HM := hide (nv_mono l (k + 1))
      have hdk := (dg_iff l[k]).1 (List.all_eq_true.1 hd l[k] (List.getElem_mem hlt))
      have hks : k < s.size := by omega
      have hgk := HG.out k hks hlt
      unfold big at hb
      generalize nv (l.take k) = n at *
      generalize l[k] = c at *
      have hcd : ((c.toNat : Int) - 48) = ((c.toNat - 48 : Nat) : Int) := by omega
      obtain ⟨d, hdd⟩ : ∃ d : Nat, c.toNat - 48 = d := ⟨_, rfl⟩
      rw [hdd] at hcd HT
      have hd9 : d ≤ 9 := by omega
      have hq5 : ((9223372036854775807 : Int) - d).tdiv 10 = (((9223372036854775807 - d) / 10 : Nat) : Int) := by
        rw [show (9223372036854775807 : Int) - d = ((9223372036854775807 - d : Nat) : Int) by omega, show (10 : Int) = ((10 : Nat) : Int) from rfl, Int.ofNat_tdiv]
      have hq4 : ((9223372036854775807 : Int) - d) / 10 = (((9223372036854775807 - d) / 10 : Nat) : Int) := by omega
      obtain ⟨z, hzz⟩ : ∃ z : Nat, (9223372036854775807 - d) / 10 = z := ⟨_, rfl⟩
      rw [hzz] at hq4 hq5
      by_cases hgt : n > z
      · have HX : Hid (¬ nv l ≤ big) := by
          intro h
          have h1 := HM.out
          rw [HT.out] at h1
          unfold big at h
          omega
        clear HT HM hd hdd hzz hdk
        go_wp2_with fail
        refine bodyPost_ret (v := .tuple #[.int .i64 0, .bool false]) (by simp [results, Tryd.results48, go_sem]) rfl ⟨by first | rfl | (rw [if_neg HX.out]), rfl⟩
      · have hmul : (10 : Int) * (n : Int) + d = ((n * 10 + d : Nat) : Int) := by omega
        have hbb : n * 10 + d ≤ 9223372036854775807 := by omega
        clear HM hd hdd hzz hdk
        go_wp2_with fail
        go_round
        case rel => exact ⟨k + 1, by omega, by go_num, by rw [HT.out]; go_num, by rw [HT.out]; exact hbb⟩
        case measure => simp [intOf]; omega
    · have HX : Hid (nv (l.take k) = nv l) := by show nv (l.take k) = nv l; rw [List.take_of_length_le (by omega)]
      rw [HX.out] at hb ⊢
      have HB := hide hb
      clear hb
      go_wp2_with fail
      refine bodyPost_ret (v := .tuple #[.int .i64 (nv l), .bool true]) (by simp [results, Tryd.results48, go_sem]) rfl ⟨by first | rfl | (rw [if_pos HB.out]), rfl⟩
end Go.Proofs.YtnajffpllhckkaaDoor
