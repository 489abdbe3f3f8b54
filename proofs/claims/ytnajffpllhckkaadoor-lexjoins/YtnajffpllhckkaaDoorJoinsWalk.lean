/-
  LexJoins's walk.
-/
import Derived.Test.YtnajffpllhckkaaDoorSame
namespace Go.Proofs.YtnajffpllhckkaaDoor
open Go.RowKit
set_option linter.unusedVariables false

theorem joins_long (p p2 : Option Addr) (m c m2 c2 : Nat) (w : World) (hg : Glob w) (h : 2000 < (m : Int) ∨ 2000 < (m2 : Int)) :
    Calls Tryd.prog 7 #[.slice p m c, .slice p2 m2 c2] w fun e w' => e = .returned (.bool true) ∧ Below w.heap.size w w' := by
  by_cases h1 : 2000 < (m : Int)
  · go_enter Tryd.func7, Tryd.ntmps7
    go_wp2_with fail
    refine (awake_any w hg).mono ?_
    rintro e w1 ⟨rfl, hb⟩
    go_wp2_with fail
    go_ret
    exact ⟨rfl, hb⟩
  · have h2 : 2000 < (m2 : Int) := by omega
    clear h
    go_enter Tryd.func7, Tryd.ntmps7
    go_wp2_with fail
    refine (awake_any w hg).mono ?_
    rintro e w1 ⟨rfl, hb⟩
    go_wp2_with fail
    go_ret
    exact ⟨rfl, hb⟩
theorem row_fresh (w : World) (base : Nat) (h : base ≤ w.heap.size) : (w.alloc (.cells #[] 5)).ownsRow base 5 1 (.slice (some ⟨w.heap.size, 0, none⟩) 0 0) 0 (([] : List UInt8).map cl) :=
  ⟨rfl, .inr ⟨w.heap.size, 0, #[], rfl, h, World.alloc_heap_new w _, Nat.le_refl _, Nat.zero_le _, rfl, rfl⟩⟩
theorem cnt_take (l : List UInt8) (k : Nat) (h : k < l.length) : (l.take (k + 1)).count 10 = (l.take k).count 10 + if l[k] = 10 then 1 else 0 := by
  rw [List.take_succ_eq_append_getElem h, List.count_append, List.count_singleton]
  simp
theorem byte_ten (x : UInt8) (h : ((x.toNat : Int) == 10) = true) : x = 10 := by
  have h' : (x.toNat : Int) = 10 := by simpa using h
  exact UInt8.toNat_inj.1 (by show x.toNat = 10; omega)
theorem byte_not (x : UInt8) (h : ((x.toNat : Int) == 10) = false) : ¬ x = 10 := by
  intro e; rw [e] at h; simp at h
set_option maxRecDepth 20000 in
set_option maxHeartbeats 4000000 in
theorem joins_walk (p p2 : Option Addr) (m c m2 c2 : Nat) (la lb : List UInt8) (w : World) (hg : Glob w) (hl : la.length = m) (h : m ≤ 2000) (hmc : m ≤ c) (hM : Mem w p la) (hp : p = none → c = 0)
    (hl2 : lb.length = m2) (h2 : m2 ≤ 2000) (hmc2 : m2 ≤ c2) (hM2 : Mem w p2 lb) (hp2 : p2 = none → c2 = 0) :
    Calls Tryd.prog 7 #[.slice p m c, .slice p2 m2 c2] w fun e w' => e = .returned (.bool true) ∧ Below w.heap.size w w' := by
  have HL := hide (fun w1 hM hg => lex_told p m c la w1 hl (by omega) hmc hM hp hg)
  have HL2 := hide (fun w1 hM hg => lex_told p2 m2 c2 lb w1 hl2 (by omega) hmc2 hM hp2 hg)
  go_enter Tryd.func7, Tryd.ntmps7
  go_wp2_with fail
  refine (awake_any w hg).mono ?_
  rintro e w1 ⟨rfl, hb1⟩
  have g1 := hg.below (Nat.le_refl _) hb1
  go_wp2_with fail
  refine (HL.out w1 (hM.below (Nat.le_refl _) hb1) g1).mono ?_
  rintro e w2 ⟨pa, cpa, rfl, hTa, hca, hb2⟩
  have B2 : Below w.heap.size w w2 := hb1.trans (hb2.mono hb1.size)
  have P7 := Hold.new w2 #[.int .i64 (plc la).1, .int .i64 (plc la).2] 26
  have B3 : Below w2.heap.size w2 (w2.alloc (.cells #[.int .i64 (plc la).1, .int .i64 (plc la).2] 26)) := (Below.refl _ w2).alloc (Nat.le_refl _) _
  have T3 := hTa.below (Nat.le_refl _) B3
  have B4 : Below w.heap.size w (w2.alloc (.cells #[.int .i64 (plc la).1, .int .i64 (plc la).2] 26)) := B2.trans (B3.mono B2.size)
  clear hb1 hb2 HL g1 B2 B3 hTa
  go_wp2_with fail
  generalize w2.alloc (.cells #[.int .i64 (plc la).1, .int .i64 (plc la).2] 26) = w3 at *
  generalize w2.heap.size = b7 at *
  refine (HL2.out w3 (hM2.below (Nat.le_refl _) B4) (hg.below (Nat.le_refl _) B4)).mono ?_
  rintro e w5 ⟨pb, cpb, rfl, hTb, hcb, hb5⟩
  have Ta5 := T3.below (Nat.le_refl _) hb5
  have P75 : Hold b7 #[.int .i64 (plc la).1, .int .i64 (plc la).2] 26 w5 := (hb5.block _ P7.lt).trans P7
  have B5 : Below w.heap.size w w5 := B4.trans (hb5.mono B4.size)
  have B6 : Below w5.heap.size w5 (w5.alloc (.cells #[.int .i64 (plc lb).1, .int .i64 (plc lb).2] 26)) := (Below.refl _ w5).alloc (Nat.le_refl _) _
  have BW6 := B5.trans (B6.mono B5.size)
  have B5z := B5.size
  clear HL2 T3 P7 B4 hb5 B5
  have R0 : ((w5.alloc (.cells #[.int .i64 (plc lb).1, .int .i64 (plc lb).2] 26)).alloc (.cells #[] 5)).ownsRow w5.heap.size 5 1 (.slice (some ⟨w5.heap.size + 1, 0, none⟩) 0 0) 0 (([] : List UInt8).map cl) := by
    have := row_fresh (w5.alloc (.cells #[.int .i64 (plc lb).1, .int .i64 (plc lb).2] 26)) w5.heap.size (by simp)
    rwa [World.size_alloc] at this
  have B7 : Below w5.heap.size (w5.alloc (.cells #[.int .i64 (plc lb).1, .int .i64 (plc lb).2] 26)) ((w5.alloc (.cells #[.int .i64 (plc lb).1, .int .i64 (plc lb).2] 26)).alloc (.cells #[] 5)) := (Below.refl _ _).alloc (by simp) _
  have BW7 := BW6.trans (B7.mono B5z)
  have MA := hM.below (Nat.le_refl _) BW7
  have k5 : w5.heap.size ≤ ((w5.alloc (.cells #[.int .i64 (plc lb).1, .int .i64 (plc lb).2] 26)).alloc (.cells #[] 5)).heap.size := by simp; omega
  go_wp2_with (first
    | (at_builtin; refine wpList_app rfl _ _ rfl w5.heap.size (some ⟨w5.heap.size + 1, 0, none⟩) 0 0 [] rfl R0 p m c la rfl hl MA hp (by omega) k5 ?_; intro q1 d1 wA hA gA; rw [Nat.zero_add, List.nil_append] at hA; have bA := B7.trans (grown_below R0 k5 gA); have zA := Nat.le_trans k5 gA.size; clear R0 gA)
    | (at_builtin; refine wpList_app rfl _ _ rfl w5.heap.size q1 m d1 la rfl (hA.alloc _) (some ⟨wA.heap.size, 0, none⟩) 1 1 [10] rfl rfl (mem_const wA [10] #[.int .u8 10] (0, 0) rfl) (fun h => by cases h) (by omega) (by simp; omega) ?_; intro q2 d2 wB hB gB; have bB := bA.trans (((Below.refl w5.heap.size wA).alloc zA (.cells #[.int .u8 10] 5)).trans (grown_below (hA.alloc _) (by simp; omega) gB)); have zB := Nat.le_trans (Nat.le_succ_of_le zA) (by have := gB.size; simp at this; exact this); have MB := hM2.below (Nat.le_refl _) (BW6.trans (bB.mono B5z)); clear hA gB)
    | (at_builtin; refine wpList_app rfl _ _ rfl w5.heap.size q2 (m + 1) d2 (la ++ [10]) rfl hB p2 m2 c2 lb rfl hl2 MB hp2 (by omega) zB ?_; intro q3 d3 wC hC gC; have bC := bB.trans (grown_below hB zB gC); clear hB gC))
  obtain ⟨hl3, hc3, hM3, hp3⟩ := row_args hC
  have BC : Below w5.heap.size w5 wC := B6.trans bC
  have BWC := BW6.trans (bC.mono B5z)
  have HL3 := hide (lex_told q3 (m + 1 + m2) d3 _ wC hl3 (by omega) hc3 hM3 hp3 (hg.below (Nat.le_refl _) BWC))
  rw [List.append_assoc] at HL3
  rw [show [10] ++ lb = 10 :: lb from rfl] at HL3
  refine HL3.out.mono ?_
  rintro e w6 ⟨pc, cpc, rfl, hTc, hcc, hb6⟩
  have B66 : Below w5.heap.size w5 w6 := BC.trans (hb6.mono BC.size)
  have Ta := Ta5.below (Nat.le_refl _) B66
  have Tb := hTb.below (Nat.le_refl _) B66
  have P6 : Hold b7 #[.int .i64 (plc la).1, .int .i64 (plc la).2] 26 w6 := (B66.block _ P75.lt).trans P75
  have BW : Below w.heap.size w w6 := BWC.trans (hb6.mono BWC.size)
  have MA6 := hM.below (Nat.le_refl _) BW
  have l7 := P6.lt
  have c70 := P6.cell 0
  have c71 := P6.cell 1
  have hba := (lexM_bd la).1
  have hbb := (lexM_bd lb).1
  rw [hl2] at hbb
  have N6 := BW.size
  clear HL3 hM3 hp3 hc3 hl3 hb6 B66 BC BWC bC hC B5z B6 BW6 Ta5 hTb P75 B7 BW7 MA k5 bA zA bB zB MB hM hM2
  cases hqa : (lexM la).2 with
  | some ab =>
    have e1 : plc la = ab := by unfold plc; rw [hqa]; rfl
    have e2 : ern la = 20 := by unfold ern; rw [hqa]; rfl
    have e3 : plc (la ++ 10 :: lb) = ab := by unfold plc; rw [join_err hqa]; rfl
    have e4 : ern (la ++ 10 :: lb) = 20 := by unfold ern; rw [join_err hqa]; rfl
    rw [e3, e4, e2, e1]
    rw [e1] at c70 c71
    clear hTc Ta Tb e1 e2 e3 e4 hqa hba hbb P6 MA6
    generalize ab.1 = x at *
    generalize ab.2 = y at *
    go_wp2_with fail
    go_ret
    exact ⟨by simp, BW.alloc N6 _⟩
  | none =>
    have e2 : ern la = 0 := by unfold ern; rw [hqa]; rfl
    obtain ⟨_, htla⟩ := lexM_ok hqa
    by_cases hbad : (lexM lb).2.isSome = true ∨ 2000 < (lexM la).1.length + (lexM lb).1.length
    · have e4 : ern (la ++ 10 :: lb) = 20 := by unfold ern; rw [if_pos (join_bad hqa hbad)]
      rw [e4, e2]
      clear hTc Ta Tb c70 c71 hba hbb P6 MA6 hcc
      cases hqb : (lexM lb).2 with
      | some cd =>
        have e5 : ern lb = 20 := by unfold ern; rw [hqb]; rfl
        rw [e5]
        clear hbad e4 e2 e5
        generalize (lexM la).1.length = x at *
        generalize (lexM lb).1.length = y at *
        go_wp2_with fail
        go_ret
        exact ⟨rfl, BW.alloc N6 _⟩
      | none =>
        have e5 : ern lb = 0 := by unfold ern; rw [hqb]; rfl
        obtain ⟨_, htlb⟩ := lexM_ok hqb
        have hsum : 2000 < ((lexM la).1.length : Int) + ((lexM lb).1.length : Int) := by
          rcases hbad with hb | hb
          · rw [hqb] at hb; simp at hb
          · omega
        rw [e5]
        clear hbad e4 e2 e5
        generalize (lexM la).1.length = x at *
        generalize (lexM lb).1.length = y at *
        go_wp2_with fail
        go_ret
        exact ⟨rfl, BW.alloc N6 _⟩
    · have hqb : (lexM lb).2 = none := by
        cases hx : (lexM lb).2 with
        | none => rfl
        | some cd => exact absurd (.inl (by rw [hx]; rfl)) hbad
      have hsum : (lexM la).1.length + (lexM lb).1.length ≤ 2000 := by
        apply Classical.byContradiction; intro hn; exact hbad (.inr (by omega))
      have hj := join_ok hqa hqb hsum
      have e3 : plc (la ++ 10 :: lb) = (0, 0) := by unfold plc; rw [hj]; rfl
      have e4 : ern (la ++ 10 :: lb) = 0 := by unfold ern; rw [hj]; rfl
      have e5 : ern lb = 0 := by unfold ern; rw [hqb]; rfl
      have HSP := hide (spl_len la)
      rw [e3, e4, e2, e5]
      rw [hj] at hTc hcc ⊢
      clear hj e2 e3 e4 e5 hqa hqb hbad c70 c71 P6 l7
      simp only [List.length_append, List.length_map] at hcc ⊢
      generalize (lexM la).1 = ta at *
      generalize (lexM lb).1 = tb at *
      have B7 : Below w6.heap.size w6 (w6.alloc (.cells #[.int .i64 0, .int .i64 0] 26)) := (Below.refl _ w6).alloc (Nat.le_refl _) _
      have Ta7 := Ta.below (Nat.le_refl _) B7
      have Tb7 := Tb.below (Nat.le_refl _) B7
      have Tc7 := hTc.below (Nat.le_refl _) B7
      have BW7 := BW.trans (B7.mono N6)
      have MA7 := MA6.below (Nat.le_refl _) B7
      clear Ta Tb hTc BW MA6
      go_wp2_with fail
      generalize w6.alloc (.cells #[.int .i64 0, .int .i64 0] 26) = W7 at *
      go_loop [15, 16] (fun li i => ∃ k : Nat, k ≤ m ∧ i = .int .i64 k ∧ li = .int .i64 (1 + (la.take k).count 10 : Nat)) (fun _ i => m - (intOf i).toNat)
      case atStart => exact ⟨0, Nat.zero_le _, rfl, rfl⟩
      case round =>
        obtain ⟨k, hk, rfl, rfl⟩ := hrel
        have hcl : (la.take k).count 10 ≤ k := by have := @List.count_le_length UInt8 _ 10 (la.take k); rw [List.length_take] at this; omega
        by_cases hlt : k < m
        · have hkt : k < la.length := by omega
          have HCT := hide (cnt_take la k hkt)
          rcases MA7 with he | ⟨ba, oa, rfl, hba', hma⟩
          · rw [he] at hkt; simp at hkt
          have hcell := hma k la[k] (by simp)
          clear hma
          cases h10 : ((la[k].toNat : Int) == 10)
          · have HN := hide (byte_not _ h10)
            generalize (la.take k).count 10 = cn at *
            go_wp2_with fail
            go_round
            case rel => exact ⟨k + 1, by omega, by go_num, by rw [HCT.out, if_neg HN.out]; rfl⟩
            case measure => simp [intOf]; omega
          · have HN := hide (byte_ten _ h10)
            generalize (la.take k).count 10 = cn at *
            go_wp2_with fail
            go_round
            case rel => exact ⟨k + 1, by omega, by go_num, by rw [HCT.out, if_pos HN.out]; go_num⟩
            case measure => simp [intOf]; omega
        · have hcnt : 1 + (la.take k).count 10 = (spl la).length := by rw [HSP.out, List.take_of_length_le (by omega)]
          rw [hcnt]
          have hsl : (spl la).length ≤ 2001 := by omega
          have TS : TMem W7 pc ta := by
            have := Tc7.take ta.length
            rwa [List.take_left' rfl] at this
          have HS := hide (same_eq pc pa cpc cpa ta.length ta W7 rfl (by omega) TS Ta7)
          clear hcl hcnt HSP
          generalize (spl la).length = sl at *
          go_wp2_with fail
          refine HS.out.mono ?_
          rintro e W8 ⟨rfl, hb8⟩
          have Tb8 := Tb7.below (Nat.le_refl _) hb8
          have Tc8 := Tc7.below (Nat.le_refl _) hb8
          have BW8 := BW7.trans (hb8.mono BW7.size)
          clear HS TS Ta7 Tb7 Tc7 BW7 hb8
          go_wp2_with fail
          go_loopw [17] (fun i wr => ∃ j : Nat, j ≤ tb.length ∧ i = .int .i64 j ∧ Below W8.heap.size W8 wr) (fun i _ => tb.length - (intOf i).toNat)
          case atStart => exact ⟨0, Nat.zero_le _, rfl, Below.refl _ _⟩
          case round =>
            obtain ⟨j, hj, rfl, hBr⟩ := hrel
            by_cases hlt : j < tb.length
            · have A1 := Tb8.below (Nat.le_refl _) hBr
              have A2 := Tc8.below (Nat.le_refl _) hBr
              rcases A1 with he | ⟨bx, ox, rfl, hbx, hmx⟩
              · rw [he] at hlt; simp at hlt
              rcases A2 with he | ⟨by', oy, rfl, hby, hmy⟩
              · rw [List.append_eq_nil_iff, List.map_eq_nil_iff] at he; rw [he.2] at hlt; simp at hlt
              obtain ⟨a0, a1, a2, a3, a4⟩ := hmx j tb[j] (by simp)
              obtain ⟨q0, q1, q2, q3, q4⟩ := hmy (ta.length + j) (sh sl tb[j]) (by rw [List.getElem?_append_right (by omega), Nat.add_sub_cancel_left, List.getElem?_map, List.getElem?_eq_getElem hlt]; rfl)
              obtain ⟨y1, y2, _, _⟩ := hbb tb[j] (List.getElem_mem hlt)
              have y1' : 1 ≤ tb[j].ln := y1
              have y2' : tb[j].ln ≤ (m2 : Int) + 2 := y2
              clear hmx hmy y1 y2
              unfold sh at q0 q1 q2 q3 q4
              dsimp only at q0 q1 q2 q3 q4
              generalize tb[j] = t at *
              go_wp2_with fail
              go_quiet (fail)
              go_wp2_with fail
              go_roundw
              case rel => exact ⟨j + 1, by omega, by go_num, hBr.trans (((Below.refl _ wr).alloc hBr.size _).trans ⟨rfl, rfl, rfl, Nat.le_refl _, fun _ _ => rfl⟩)⟩
              case measure => simp [intOf]; omega
            · go_wp2_with fail
              go_ret
              exact ⟨rfl, BW8.trans (hBr.mono BW8.size)⟩
end Go.Proofs.YtnajffpllhckkaaDoor
