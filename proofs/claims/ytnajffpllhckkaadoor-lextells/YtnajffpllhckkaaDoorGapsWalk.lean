/-
  LexGaps's walk.
-/
import Derived.Test.YtnajffpllhckkaaDoorKit
import Derived.Test.YtnajffpllhckkaaDoorMath4
import Derived.BigQuiet
namespace Go.Proofs.YtnajffpllhckkaaDoor
open Go.RowKit
set_option linter.unusedVariables false

theorem gaps_long (p : Option Addr) (m c : Nat) (x : Int) (w : World) (hg : Glob w) (h : 4000 < (m : Int)) :
    Calls Tryd.prog 6 #[.slice p m c, .int .u8 x] w fun e w' => e = .returned (.bool true) ∧ Below w.heap.size w w' := by
  go_enter Tryd.func6, Tryd.ntmps6
  go_wp2_with fail
  refine (awake_any w hg).mono ?_
  rintro e w1 ⟨rfl, hb⟩
  go_wp2_with fail
  go_ret
  exact ⟨rfl, hb⟩
theorem row_args {W : World} {n₀ n c : Nat} {p : Option Addr} {l : List UInt8} (h : W.ownsRow n₀ 5 1 (.slice p n c) n (l.map cl)) : l.length = n ∧ n ≤ c ∧ Mem W p l ∧ (p = none → c = 0) := by
  have h1 := h.1
  rw [List.length_map, Nat.mul_one] at h1
  refine ⟨h1, ?_, row_mem h, ?_⟩
  · rcases h.2 with ⟨hv, h0⟩ | ⟨g, cap, cur, hv, _, _, hc, _⟩
    · cases hv; omega
    · cases hv; exact hc
  · rcases h.2 with ⟨hv, h0⟩ | ⟨g, cap, cur, hv, _, _, hc, _⟩
    · cases hv; exact fun _ => rfl
    · cases hv; intro h; cases h
theorem gap_ern (n : Nat) (l : List UInt8) : ern (List.replicate n 10 ++ l ++ gapT) = ern l := by
  unfold ern; rw [gaps]; unfold shq; simp
theorem rep_snoc (k : Nat) : ((List.replicate k (10 : UInt8)) ++ [10]) = List.replicate (k + 1) 10 := by rw [List.replicate_succ']
set_option maxRecDepth 20000 in
set_option maxHeartbeats 2000000 in
theorem gaps_walk (p : Option Addr) (m c n : Nat) (l : List UInt8) (w : World) (hg : Glob w) (hl : l.length = m) (h : m ≤ 4000) (hmc : m ≤ c) (hM : Mem w p l) (hp : p = none → c = 0) (hn : n ≤ 255) :
    Calls Tryd.prog 6 #[.slice p m c, .int .u8 n] w fun e w' => e = .returned (.bool true) ∧ Below w.heap.size w w' := by
  have kc := fun (w : World) (C : Array Value) (n c : Nat) => Lib.run_convert_bytes_const (P := Tryd.prog) w 22 5 C n c Tryd.underlying22 Tryd.underlying5
  have HL := hide (fun w1 hM hg => lex_told p m c l w1 hl (by omega) hmc hM hp hg)
  have wn : wrap64 (n : Int) = n := by simp only [wrap64]; omega
  go_enter Tryd.func6, Tryd.ntmps6
  go_wp2_with fail
  refine (awake_any w hg).mono ?_
  rintro e w1 ⟨rfl, hb1⟩
  have g1 := hg.below (Nat.le_refl _) hb1
  have M1 := hM.below (Nat.le_refl _) hb1
  go_wp2_with fail
  refine (HL.out w1 M1 g1).mono ?_
  rintro e w2 ⟨pa1, cp1, rfl, hT1, hcp1, hb2⟩
  have B2 : Below w.heap.size w w2 := hb1.trans (hb2.mono hb1.size)
  clear hb1 hb2 M1 HL g1
  have P7 := Hold.new w2 #[.int .i64 (plc l).1, .int .i64 (plc l).2] 26
  have B3 : Below w2.heap.size w2 (w2.alloc (.cells #[.int .i64 (plc l).1, .int .i64 (plc l).2] 26)) := (Below.refl _ w2).alloc (Nat.le_refl _) _
  have T3 := hT1.below (Nat.le_refl _) B3
  have B4 : Below w.heap.size w (w2.alloc (.cells #[.int .i64 (plc l).1, .int .i64 (plc l).2] 26)) := B2.trans (B3.mono B2.size)
  go_wp2_with fail
  generalize w2.alloc (.cells #[.int .i64 (plc l).1, .int .i64 (plc l).2] 26) = W0 at *
  generalize w2.heap.size = b7 at *
  clear B2 B3 hT1
  have N0 := B4.size
  go_loopw [9, 10] (fun v i wr => ∃ (k : Nat) (pa : Option Addr) (cp : Nat), v = .slice pa k cp ∧ i = .int .i64 k ∧ k ≤ n ∧ wr.ownsRow W0.heap.size 5 1 (.slice pa k cp) k ((List.replicate k (10 : UInt8)).map cl) ∧ Below W0.heap.size W0 wr) (fun _ i _ => n - (intOf i).toNat)
  case atStart => exact ⟨0, none, 0, rfl, rfl, Nat.zero_le _, World.ownsRow_nil _ _ _ _, Below.refl _ _⟩
  case round =>
    obtain ⟨k, pa, cp, rfl, rfl, hk, hown, hB⟩ := hrel
    have hBz := hB.size
    by_cases hlt : k < n
    · have HC : Mem (wr.alloc (.cells #[.int .u8 10] 5)) (some ⟨wr.heap.size, 0, none⟩) [10] := mem_const wr [10] #[.int .u8 10] (0, 0) rfl
      go_wp2_with (at_builtin; refine wpList_app rfl _ _ rfl W0.heap.size pa k cp _ rfl (hown.alloc _) (some ⟨wr.heap.size, 0, none⟩) 1 1 [10] rfl rfl HC (fun h => by cases h) (by omega) (by simp; omega) ?_; intro pa' cp' w4 hown' hgrow)
      have HB := hB.trans (((Below.refl W0.heap.size wr).alloc hBz (.cells #[.int .u8 10] 5)).trans (grown_below (hown.alloc _) (by simp; omega) hgrow))
      rw [rep_snoc] at hown'
      go_roundw
      case rel => exact ⟨k + 1, pa', cp', rfl, by go_num, by omega, hown', HB⟩
      case measure => simp [intOf]; omega
    · obtain rfl : k = n := by omega
      have MS : Mem wr p l := (hM.below (Nat.le_refl _) B4).below (Nat.le_refl _) hB
      go_wp2_with (first
        | (at_builtin; refine wpList_app rfl _ _ rfl W0.heap.size pa k cp _ rfl hown p m c l rfl hl MS hp (by omega) hBz ?_; intro pa' cp' w4 hown' hgrow; have HB4 := hB.trans (grown_below hown hBz hgrow); clear hown hgrow)
        | (at_builtin; refine wpList_app rfl _ _ rfl W0.heap.size pa' (k + m) cp' _ rfl (hown'.alloc _) (some ⟨w4.heap.size, 0, none⟩) 9 9 gapT rfl rfl (mem_const w4 gapT #[.int .u8 10, .int .u8 32, .int .u8 32, .int .u8 45, .int .u8 45, .int .u8 63, .int .u8 10, .int .u8 32, .int .u8 32] (9, 10) rfl) (fun h => by cases h) (by omega) (by have := HB4.size; simp; omega) ?_; intro pa2 cp2 w5 hown2 hgrow2; have HB5 := HB4.trans (((Below.refl W0.heap.size w4).alloc HB4.size (.cells #[.int .u8 10, .int .u8 32, .int .u8 32, .int .u8 45, .int .u8 45, .int .u8 63, .int .u8 10, .int .u8 32, .int .u8 32] 5 (9, 10))).trans (grown_below (hown'.alloc _) (by have := HB4.size; simp; omega) hgrow2)); clear hown' hgrow2))
      obtain ⟨hl2, hc2, hM2, hp2⟩ := row_args hown2
      have HL2 := hide (lex_told pa2 (k + m + 9) cp2 _ w5 hl2 (by omega) hc2 hM2 hp2 ((hg.below (Nat.le_refl _) B4).below (Nat.le_refl _) HB5))
      have HGP := hide (gaps k l)
      rw [gap_ern, gaps] at HL2
      have HPL : Hid (plc (List.replicate k 10 ++ l ++ gapT) = (match (lexM l).2 with | none => (0, 0) | some e => (e.1 + k, e.2))) := by
        show plc _ = _; unfold plc; rw [gaps]; unfold shq; cases (lexM l).2 <;> rfl
      refine HL2.out.mono ?_
      rintro e w6 ⟨pa3, cp3, rfl, hT3, hcp3, hb6⟩
      rw [HPL.out]
      have B6 : Below W0.heap.size W0 w6 := HB5.trans (hb6.mono HB5.size)
      have T6 := T3.below (Nat.le_refl _) B6
      have P6 : Hold b7 #[.int .i64 (plc l).1, .int .i64 (plc l).2] 26 w6 := (B6.block _ P7.lt).trans P7
      have BW : Below w.heap.size w w6 := B4.trans (B6.mono N0)
      clear hb6 HB5 HB4 hown2 hM2 HL2 HGP HPL MS T3 hB B4 B6 hl2 P7 hc2 hp2 kc N0 hBz hM
      unfold shq at hT3 hcp3 ⊢
      simp only [List.length_map] at hcp3 ⊢
      have hbd := lexM_bd l
      rw [hl] at hbd
      have l7 := P6.lt
      have c70 := P6.cell 0
      have c71 := P6.cell 1
      cases hq : (lexM l).2 with
      | some ab =>
        have h0 := lexM_err hq
        have e1 : plc l = ab := by unfold plc; rw [hq]; rfl
        have e2 : ern l = 20 := by unfold ern; rw [hq]; rfl
        obtain ⟨x1, x2, _, _⟩ := hbd.2 ab hq
        rw [e1] at c70 c71 P6
        rw [e1, e2, h0]
        simp only [List.length_nil]
        have wa : wrap64 (ab.1 + (k : Int)) = ab.1 + k := by simp only [wrap64]; omega
        clear hbd hq h0 e1 e2 hT3 T6 P6
        generalize ab.1 = a at *
        generalize ab.2 = b at *
        go_wp2_with fail
        go_loop [14] (fun i => i = .int .i64 0) (fun _ => 0)
        case atStart => rfl
        case round =>
          subst hrel
          go_wp2_with fail
          go_ret
          exact ⟨rfl, BW.alloc BW.size _⟩
      | none =>
        have e1 : plc l = (0, 0) := by unfold plc; rw [hq]; rfl
        have e2 : ern l = 0 := by unfold ern; rw [hq]; rfl
        have hb1 := hbd.1
        have htl := (lexM_ok hq).2
        rw [e1, e2]
        rw [e1] at c70 c71 P6
        generalize (lexM l).1 = ts at *
        have tl1 : ts.length = ts.length := rfl
        clear hbd hq e1 e2 tl1
        have B7 : Below w6.heap.size w6 (w6.alloc (.cells #[.int .i64 0, .int .i64 0] 26)) := (Below.refl _ w6).alloc (Nat.le_refl _) _
        have T7 := T6.below (Nat.le_refl _) B7
        have T8 := hT3.below (Nat.le_refl _) B7
        have BW7 := BW.trans (B7.mono BW.size)
        go_wp2_with fail
        generalize w6.alloc (.cells #[.int .i64 0, .int .i64 0] 26) = W7 at *
        go_loopw [14] (fun i wr => ∃ j : Nat, j ≤ ts.length ∧ i = .int .i64 j ∧ Below W7.heap.size W7 wr) (fun i _ => ts.length - (intOf i).toNat)
        case atStart => exact ⟨0, Nat.zero_le _, rfl, Below.refl _ _⟩
        case round =>
          obtain ⟨j, hj, rfl, hBr⟩ := hrel
          by_cases hlt : j < ts.length
          · have A1 := T7.below (Nat.le_refl _) hBr
            have A2 := T8.below (Nat.le_refl _) hBr
            rcases A1 with he | ⟨ba, oa, rfl, hba, hma⟩
            · rw [he] at hlt; simp at hlt
            rcases A2 with he | ⟨bb, ob, rfl, hbb, hmb⟩
            · rw [List.map_eq_nil_iff] at he; rw [he] at hlt; simp at hlt
            obtain ⟨a0, a1, a2, a3, a4⟩ := hma j ts[j] (by simp)
            obtain ⟨q0, q1, q2, q3, q4⟩ := hmb j (sh k ts[j]) (by rw [List.getElem?_map, List.getElem?_eq_getElem hlt]; rfl)
            obtain ⟨y1, y2, _, _⟩ := hb1 ts[j] (List.getElem_mem hlt)
            have y1' : 1 ≤ ts[j].ln := y1
            have y2' : ts[j].ln ≤ (m : Int) + 2 := y2
            clear hma hmb y1 y2
            unfold sh at q0 q1 q2 q3 q4
            dsimp only at q0 q1 q2 q3 q4
            generalize ts[j] = t at *
            have wl : wrap64 (t.ln + (k : Int)) = t.ln + k := by simp only [wrap64]; omega
            go_wp2_with fail
            go_quiet (fail)
            go_wp2_with fail
            go_roundw
            case rel => exact ⟨j + 1, by omega, by go_num, hBr.trans (((Below.refl _ wr).alloc hBr.size _).trans ⟨rfl, rfl, rfl, Nat.le_refl _, fun _ _ => rfl⟩)⟩
            case measure => simp [intOf]; omega
          · go_wp2_with fail
            go_ret
            exact ⟨rfl, BW7.trans (hBr.mono BW7.size)⟩
end Go.Proofs.YtnajffpllhckkaaDoor
