/-
  LexNumbers's walk.
-/
import Derived.Test.YtnajffpllhckkaaDoorBackWalk
import Derived.Test.YtnajffpllhckkaaDoorMath7
namespace Go.Proofs.YtnajffpllhckkaaDoor
open Go.RowKit
set_option linter.unusedVariables false

theorem S_add (a b : List UInt8) : S a ++ S b = S (a ++ b) := by
  apply ByteArray.ext
  rw [ByteArray.data_append]
  simp [S]
theorem numbers_long (n x : Int) (s : ByteArray) (w : World) (hg : Glob w) (h : n < 0 ∨ 100 < (s.size : Int)) :
    Calls Tryd.prog 8 #[.int .i64 n, .int .u8 x, .string s] w fun e w' => e = .returned (.bool true) ∧ Below w.heap.size w w' := by
  by_cases h1 : n < 0
  · go_enter Tryd.func8, Tryd.ntmps8
    go_wp2_with fail
    refine (awake_any w hg).mono ?_
    rintro e w1 ⟨rfl, hb⟩
    go_wp2_with fail
    go_ret
    exact ⟨rfl, hb⟩
  · have h2 : 100 < (s.size : Int) := by omega
    clear h
    go_enter Tryd.func8, Tryd.ntmps8
    go_wp2_with fail
    refine (awake_any w hg).mono ?_
    rintro e w1 ⟨rfl, hb⟩
    go_wp2_with fail
    go_ret
    exact ⟨rfl, hb⟩
def strN : Value → Nat
  | .string s => if s.size = 0 then 1 else 0
  | _ => 0
set_option maxRecDepth 20000 in
set_option maxHeartbeats 4000000 in
theorem numbers_walk (n x : Nat) (ln : List UInt8) (w : World) (hg : Glob w) (hn : n ≤ 9223372036854775807) (hx : x < 256) (hl : ln.length ≤ 100) :
    Calls Tryd.prog 8 #[.int .i64 n, .int .u8 x, .string (S ln)] w fun e w' => e = .returned (.bool true) ∧ Below w.heap.size w w' := by
  have hsz : (S ln).size ≤ 100 := by rw [S_size]; exact hl
  have hq5 : (x : Int).tmod 100 = ((x % 100 : Nat) : Int) := by rw [show (100 : Int) = ((100 : Nat) : Int) from rfl, Int.ofNat_tmod]
  have hq4 : (x : Int) % 100 = ((x % 100 : Nat) : Int) := by omega
  have hq3 : x % 100 ≤ 99 := by omega
  generalize x % 100 = xx at *
  go_enter Tryd.func8, Tryd.ntmps8
  go_wp2_with fail
  refine (awake_any w hg).mono ?_
  rintro e w1 ⟨rfl, hb1⟩
  go_wp2_with fail
  go_loopw [8, 9] (fun v i wr => ∃ k : Nat, k ≤ xx ∧ v = .string (S (List.replicate k 48)) ∧ i = .int .i64 k ∧ w1 = wr) (fun _ i _ => xx - (intOf i).toNat)
  case atStart => exact ⟨0, Nat.zero_le _, rfl, rfl, rfl⟩
  case round =>
    obtain ⟨k, hk, rfl, rfl, rfl⟩ := hrel
    by_cases hlt : k < xx
    · have hadd : S (List.replicate k 48) ++ ⟨#[48]⟩ = S (List.replicate (k + 1) 48) := by rw [List.replicate_succ']; exact S_add _ [48]
      have hsz2 : (S (List.replicate k 48)).size ≤ 99 := by rw [S_size, List.length_replicate]; omega
      generalize S (List.replicate k 48) = sk at *
      go_wp2_with fail
      go_roundw
      case rel => exact ⟨k + 1, by omega, rfl, by go_num, trivial⟩
      case measure => simp [intOf]; omega
    · go_wp2_with fail
      have g1 := hg.below (Nat.le_refl _) hb1
      have N1 := hb1.size
      have hst : Hid (nv (List.replicate k 48 ++ []) = nv []) := nv_zeros [] k
      clear hst
      have hsz2 : (S (List.replicate k 48)).size ≤ 99 := by rw [S_size, List.length_replicate]; omega
      clear hlt
      go_loopw [10, 11] (fun v u wr2 => ∃ (lf : Nat) (e : List UInt8), v = .int .i64 lf ∧ u = .string (S e) ∧ Dgs n lf e ∧ Below w1.heap.size w1 wr2) (fun v u _ => 2 * (intOf v).toNat + strN u)
      case atStart => exact ⟨n, [], rfl, rfl, Dgs.start (by omega), Below.refl _ _⟩
      case round =>
        obtain ⟨lf, e, rfl, rfl, hD, hB⟩ := hrel
        have hlfn : lf ≤ n := by rw [← hD.say]; exact nvA_ge e lf
        by_cases h0 : 0 < lf
        · have HD := hide hD
          have hel : (S e).size ≤ 19 := by rw [S_size]; exact hD.len
          have hm5 : (lf : Int).tmod 10 = ((lf % 10 : Nat) : Int) := by rw [show (10 : Int) = ((10 : Nat) : Int) from rfl, Int.ofNat_tmod]
          have hm4 : (lf : Int) % 10 = ((lf % 10 : Nat) : Int) := by omega
          have hm3 : lf % 10 ≤ 9 := by omega
          have hd5 : (lf : Int).tdiv 10 = ((lf / 10 : Nat) : Int) := by rw [show (10 : Int) = ((10 : Nat) : Int) from rfl, Int.ofNat_tdiv]
          have hd4 : (lf : Int) / 10 = ((lf / 10 : Nat) : Int) := by omega
          have hd3 : lf / 10 < lf := by omega
          have hcv : (convert 22 9 (.slice (some ⟨wr.heap.size, 0, none⟩) 1 1)).run Tryd.prog (wr.alloc (.cells #[.int .u8 (48 + ((lf % 10 : Nat) : Int))] 5)) = .ok (.string (S [dgB lf])) (wr.alloc (.cells #[.int .u8 (48 + ((lf % 10 : Nat) : Int))] 5)) := (mem_const wr [dgB lf] #[.int .u8 (48 + ((lf % 10 : Nat) : Int))] (0, 0) (by simp [cl, dgB_nat])).str (by simp) 1
          have hadd := S_add [dgB lf] e
          have hsz3 : (S [dgB lf]).size = 1 := rfl
          clear hD
          generalize S [dgB lf] = sd at *
          generalize lf % 10 = dd at *
          generalize hlf' : lf / 10 = lf' at *
          go_wp2_with fail
          go_roundw
          case rel => exact ⟨lf', dgB lf :: e, rfl, rfl, by rw [← hlf']; exact HD.out.step (.inl h0), hB.alloc hB.size _⟩
          case measure => have : strN (.string (S (dgB lf :: e))) = 0 := by simp [strN, S_size]
                          rw [this]; simp [intOf]; omega
        · obtain rfl : lf = 0 := by omega
          by_cases he : e = []
          · subst he
            have HD := hide hD
            have hcv : (convert 22 9 (.slice (some ⟨wr.heap.size, 0, none⟩) 1 1)).run Tryd.prog (wr.alloc (.cells #[.int .u8 48] 5)) = .ok (.string (S [48])) (wr.alloc (.cells #[.int .u8 48] 5)) := (mem_const wr [48] #[.int .u8 48] (0, 0) rfl).str (by simp) 1
            have hS : S [] = ⟨#[]⟩ := rfl
            have hadd : S [48] ++ ⟨#[]⟩ = S [48] := S_add [48] []
            rw [hS]
            have hsz3 : (S [48]).size = 1 := rfl
            clear hD
            generalize hsd : S [48] = sd at *
            simp only [Int.natCast_zero]
            go_wp2_with fail
            go_roundw
            case rel => exact ⟨0, [48], rfl, by rw [hsd], HD.out.step (.inr rfl), hB.alloc hB.size _⟩
            case measure => simp [strN, hsz3, intOf]; decide
          · have hne : (S e).toList.isEmpty = false := by
              rw [S_list]; cases e with | nil => exact absurd rfl he | cons a r => rfl
            simp only [Int.natCast_zero]
            have hel : (S e).size ≤ 19 := by rw [S_size]; exact hD.len
            have hadd := S_add (List.replicate k 48) e
            have hsay : nv (List.replicate k 48 ++ e) = n := (nv_zeros e k).trans hD.done
            have hql : (List.replicate k 48 ++ e).length ≤ 200 := by rw [List.length_append, List.length_replicate]; have := hD.len; omega
            have hqd : (List.replicate k 48 ++ e).all dg = true := by
              rw [List.all_append, hD.all, Bool.and_true, List.all_replicate]; split
              · rfl
              · decide
            have hq0 : List.replicate k 48 ++ e ≠ [] := by intro h; exact he (List.append_eq_nil_iff.1 h).2
            have hlx := one_tok (dig_vt hq0 hqd (by rw [hsay]; exact hn))
            rw [hsay] at hlx
            simp only at hlx
            generalize List.replicate k 48 ++ e = q at *
            have cv := conv_sb wr q
            have hB1 := hb1.trans (hB.mono N1)
            have hB2 := hB1.trans ((bw_below wr q).mono hB1.size)
            have HL1 := hide (lex_told (some ⟨wr.heap.size, 0, none⟩) q.length (grownCap wr q.length 0 5) q _ rfl (by omega) (grownCap_ge _ _ _ _) (bw_mem wr q) (fun h => by cases h) (hg.below (Nat.le_refl _) hB2))
            have e3 : plc q = (0, 0) := by unfold plc; rw [hlx]; rfl
            have e4 : ern q = 0 := by unfold ern; rw [hlx]; rfl
            rw [e3, e4, hlx] at HL1
            clear hD e3 e4 hlx hsay hqd hq0
            generalize S (List.replicate k 48) = s1 at *
            generalize S e = s2 at *
            go_wp2_with fail
            refine HL1.out.mono ?_
            rintro e' w3 ⟨pa, cpa, rfl, hTa, hca, hb3⟩
            have B3 := hB2.trans (hb3.mono hB2.size)
            have B4 := B3.alloc B3.size (.cells #[.int .i64 0, .int .i64 0] 26)
            have T4 := hTa.below (Nat.le_refl _) ((Below.refl _ w3).alloc (Nat.le_refl _) (.cells #[.int .i64 0, .int .i64 0] 26))
            clear HL1 hB1 hB2 hTa hb3 cv B3
            have cv2 := conv_sb (w3.alloc (.cells #[.int .i64 0, .int .i64 0] 26)) ln
            have T5 := T4.below (Nat.le_refl _) (bw_below _ ln)
            have B5 := B4.trans ((bw_below _ ln).mono B4.size)
            have HL2 := hide (lex_told (some ⟨(w3.alloc (.cells #[.int .i64 0, .int .i64 0] 26)).heap.size, 0, none⟩) ln.length (grownCap (w3.alloc (.cells #[.int .i64 0, .int .i64 0] 26)) ln.length 0 5) ln _ rfl (by omega) (grownCap_ge _ _ _ _) (bw_mem _ ln) (fun h => by cases h) (hg.below (Nat.le_refl _) B5))
            clear T4 B4
            go_wp2_with fail
            rw [World.size_alloc] at HL2
            refine HL2.out.mono ?_
            rintro e' w6 ⟨pm, cpm, rfl, hTm, hcm, hb6⟩
            have T6 := T5.below (Nat.le_refl _) hb6
            have BW := B5.trans (hb6.mono B5.size)
            have BA : Below w6.heap.size w6 (w6.alloc (.cells #[.int .i64 (plc ln).1, .int .i64 (plc ln).2] 26)) := (Below.refl _ w6).alloc (Nat.le_refl _) _
            have T7 := T6.below (Nat.le_refl _) BA
            have M7 := hTm.below (Nat.le_refl _) BA
            have BW7 := BW.trans (BA.mono BW.size)
            clear HL2 T5 B5 cv2 T6 hTm BA hb6 BW
            rcases T7 with he' | ⟨ba, oa, rfl, hba, hma⟩
            · cases he'
            obtain ⟨a0, a1, a2, _, _⟩ := hma 0 _ rfl
            simp only [Nat.zero_mul, Nat.add_zero] at a0 a1 a2
            have hcpa : 1 ≤ cpa := hca
            have HN' := hide (fun w => name_any ln w (by omega))
            have HC' := hide (fun w => con_any ln w (by omega))
            clear hma hca
            cases hnm : nm ln with
            | true =>
              have hcn := nm_cn ln hnm
              have hlx := one_tok (name_vt hnm)
              simp only at hlx
              have e3 : plc ln = (0, 0) := by unfold plc; rw [hlx]; rfl
              have e4 : ern ln = 0 := by unfold ern; rw [hlx]; rfl
              rw [e3] at a0 a1 a2 M7 BW7 hba ⊢
              rw [e4, hlx]
              rw [hlx] at M7 hcm
              clear e3 e4 hlx
              rcases M7 with he' | ⟨bm, om, rfl, hbm, hmm⟩
              · cases he'
              obtain ⟨q0, q1, q2, _, _⟩ := hmm 0 _ rfl
              simp only [Nat.zero_mul, Nat.add_zero] at q0 q1 q2
              have hcpm : 1 ≤ cpm := hcm
              clear hmm hcm
              generalize S q = sq at *
              rw [hnm] at HN'
              rw [hcn] at HC'
              generalize S ln = sn at *
              go_wp2_with fail
              generalize w6.alloc (.cells #[.int .i64 0, .int .i64 0] 26) = W7 at *
              refine (HN'.out _).mono ?_
              rintro e' w8 ⟨rfl, rfl⟩
              go_wp2_with fail
              go_quiet ((first | (go_at_call 15; exact Calls.quiet_of_same (HN'.out _)) | (go_at_call 16; exact Calls.quiet_of_same (HC'.out _))))
              go_wp2_with fail
              go_ret
              exact ⟨rfl, BW7.trans ⟨rfl, rfl, rfl, Nat.le_refl _, fun _ _ => rfl⟩⟩
            | false =>
              cases hcn : cn ln with
              | true =>
                have hlx := one_tok (con_vt hcn)
                simp only at hlx
                have e3 : plc ln = (0, 0) := by unfold plc; rw [hlx]; rfl
                have e4 : ern ln = 0 := by unfold ern; rw [hlx]; rfl
                rw [e3] at a0 a1 a2 M7 BW7 hba ⊢
                rw [e4, hlx]
                rw [hlx] at M7 hcm
                clear e3 e4 hlx
                rcases M7 with he' | ⟨bm, om, rfl, hbm, hmm⟩
                · cases he'
                obtain ⟨q0, q1, q2, _, _⟩ := hmm 0 _ rfl
                simp only [Nat.zero_mul, Nat.add_zero] at q0 q1 q2
                have hcpm : 1 ≤ cpm := hcm
                clear hmm hcm
                generalize S q = sq at *
                rw [hnm] at HN'
                rw [hcn] at HC'
                generalize S ln = sn at *
                go_wp2_with fail
                generalize w6.alloc (.cells #[.int .i64 0, .int .i64 0] 26) = W7 at *
                refine (HN'.out _).mono ?_
                rintro e' w8 ⟨rfl, rfl⟩
                go_wp2_with fail
                refine (HC'.out _).mono ?_
                rintro e' w9 ⟨rfl, rfl⟩
                go_wp2_with fail
                go_quiet ((first | (go_at_call 15; exact Calls.quiet_of_same (HN'.out _)) | (go_at_call 16; exact Calls.quiet_of_same (HC'.out _))))
                go_wp2_with fail
                go_ret
                exact ⟨rfl, BW7.trans ⟨rfl, rfl, rfl, Nat.le_refl _, fun _ _ => rfl⟩⟩
              | false =>
                generalize S q = sq at *
                go_wp2_with fail
                generalize w6.alloc (.cells #[.int .i64 (plc ln).1, .int .i64 (plc ln).2] 26) = W7 at *
                refine (HN'.out _).mono ?_
                rintro e' w8 ⟨rfl, rfl⟩
                rw [hnm]
                go_wp2_with fail
                refine (HC'.out _).mono ?_
                rintro e' w9 ⟨rfl, rfl⟩
                rw [hcn]
                go_wp2_with fail
                go_ret
                exact ⟨rfl, BW7⟩
end Go.Proofs.YtnajffpllhckkaaDoor
