/-
  LexBack's walk.
-/
import Derived.Test.YtnajffpllhckkaaDoorSame
import Derived.Test.YtnajffpllhckkaaDoorMath6
namespace Go.Proofs.YtnajffpllhckkaaDoor
open Go.RowKit
set_option linter.unusedVariables false

theorem len_rawL (n : Int) : ∀ (f a : Nat) (l : List UInt8), ∀ t ∈ (rawL n f a l).1, t.tx.length ≤ l.length
  | 0, a, l, t, h => by simp [rawL] at h
  | f + 1, a, l, t, h => by
    unfold rawL at h
    have hk := sk_le l
    cases hs : sk l with
    | nil => rw [hs] at h; simp at h
    | cons c r =>
      rw [hs] at h hk
      simp only at h
      cases hq : tk ((c :: r).take (tl (c :: r))) with
      | none => rw [hq] at h; simp at h
      | some x =>
        rw [hq] at h
        simp only [List.mem_cons] at h
        rcases h with rfl | h
        · show ((c :: r).take (tl (c :: r))).length ≤ l.length
          rw [List.length_take]; omega
        · have := len_rawL n f _ _ t h
          rw [List.length_drop] at this; omega
theorem len_rawLs (M : Nat) : ∀ (n : Int) (L : List (List UInt8)), (∀ x ∈ L, x.length ≤ M) → ∀ t ∈ (rawLs (num n L)).1, t.tx.length ≤ M
  | n, [], _, t, h => by simp [rawLs, num] at h
  | n, x :: L, hM, t, h => by
    have hx := hM x (List.mem_cons_self ..)
    simp only [num, rawLs] at h
    cases hr : (raw n 0 x).2 with
    | some e => rw [hr] at h; have := len_rawL n _ 0 x t h; omega
    | none =>
      rw [hr] at h
      simp only [List.mem_append] at h
      rcases h with h | h
      · have := len_rawL n _ 0 x t h; omega
      · exact len_rawLs M (n + 1) L (fun y hy => hM y (List.mem_cons_of_mem _ hy)) t h
theorem len_lexM (l : List UInt8) : ∀ t ∈ (lexM l).1, t.tx.length ≤ l.length := by
  intro t h
  cases hq : (lexM l).2 with
  | some e => rw [lexM_err hq] at h; simp at h
  | none => exact len_rawLs l.length 1 (spl l) (spl_mem l) t (by rw [(lexM_ok hq).1]; exact h)
theorem tx1_len (M : Nat) : ∀ r : List Tok, (∀ t ∈ r, t.tx.length ≤ M) → (tx1 r).length ≤ r.length * (M + 1)
  | [], _ => by simp [tx1]
  | t :: r, h => by
    have h1 := h t (List.mem_cons_self ..)
    have h2 := tx1_len M r (fun u hu => h u (List.mem_cons_of_mem _ hu))
    have e : tx1 (t :: r) = 32 :: (t.tx ++ tx1 r) := rfl
    rw [e, List.length_cons, List.length_append, List.length_cons, Nat.add_mul]; omega
theorem txt_eq (ts : List Tok) : txt ts = txtM ts := by cases ts <;> rfl
theorem txt_bound (M : Nat) (ts : List Tok) (h : ∀ t ∈ ts, t.tx.length ≤ M) : (txt ts).length ≤ ts.length * (M + 1) := by
  cases ts with
  | nil => simp [txt]
  | cons t r =>
    have := tx1_len M (t :: r) h
    have e : tx1 (t :: r) = 32 :: txt (t :: r) := rfl
    rw [e, List.length_cons] at this
    omega
theorem conv_sb (w : World) (l : List UInt8) : (convert 9 22 (.string (S l))).run Tryd.prog w = .ok (.slice (some ⟨w.heap.size, 0, none⟩) l.length (grownCap w l.length 0 5)) (Lib.bytesWorld w 5 (S l)) := by
  have := Lib.run_convert_string_bytes (P := Tryd.prog) w 9 22 5 (S l) Tryd.underlying9 Tryd.underlying22 Tryd.underlying5
  rw [S_size] at this
  exact this
theorem bw_below (w : World) (l : List UInt8) : Below w.heap.size w (Lib.bytesWorld w 5 (S l)) := ⟨rfl, rfl, rfl, by rw [Lib.bytesWorld_size]; omega, fun k hk => Lib.bytesWorld_at_old _ _ _ k hk⟩
theorem bw_mem (w : World) (l : List UInt8) : Mem (Lib.bytesWorld w 5 (S l)) (some ⟨w.heap.size, 0, none⟩) l := by
  refine .inr ⟨w.heap.size, 0, rfl, by rw [Lib.bytesWorld_size]; omega, fun i x hx => ?_⟩
  have hi : i < l.length := (List.getElem?_eq_some_iff.1 hx).1
  rw [Nat.zero_add, Lib.bytesWorld_cell w 5 (S l) i (by rw [S_size]; exact hi), S_data]
  simp [List.getD, hx]
theorem back_long (p : Option Addr) (m c : Nat) (w : World) (hg : Glob w) (h : 5000 < (m : Int)) :
    Calls Tryd.prog 5 #[.slice p m c] w fun e w' => e = .returned (.bool true) ∧ Below w.heap.size w w' := by
  go_enter Tryd.func5, Tryd.ntmps5
  go_wp2_with fail
  refine (awake_any w hg).mono ?_
  rintro e w1 ⟨rfl, hb⟩
  go_wp2_with fail
  go_ret
  exact ⟨rfl, hb⟩
set_option maxRecDepth 20000 in
set_option maxHeartbeats 4000000 in
theorem back_walk (p : Option Addr) (m c : Nat) (l : List UInt8) (w : World) (hg : Glob w) (hl : l.length = m) (h : m ≤ 5000) (hmc : m ≤ c) (hM : Mem w p l) (hp : p = none → c = 0) :
    Calls Tryd.prog 5 #[.slice p m c] w fun e w' => e = .returned (.bool true) ∧ Below w.heap.size w w' := by
  have HL := hide (fun w1 hM hg => lex_told p m c l w1 hl (by omega) hmc hM hp hg)
  have hlen := len_lexM l
  rw [hl] at hlen
  have htl : (lexM l).1.length ≤ 2000 := by
    cases hq : (lexM l).2 with
    | some e => rw [lexM_err hq]; simp
    | none => exact (lexM_ok hq).2
  have htb := txt_bound m (lexM l).1 hlen
  have htb2 : (txt (lexM l).1).length ≤ 10002000 := by
    have : (lexM l).1.length * (m + 1) ≤ 2000 * 5001 := Nat.mul_le_mul htl (by omega)
    omega
  have hTX := lexM_txt (lexM l).1 (vt_lexM l) htl
  rw [← txt_eq] at hTX
  have haf := aft_lexM l
  have hbd := (lexM_bd l).1
  rw [hl] at hbd
  have hvt := vt_lexM l
  have HTX := hide hTX
  have HAF := hide haf
  have HBD := hide hbd
  have HVT := hide hvt
  have HLN := hide hlen
  clear hTX haf hbd hvt hlen htb
  go_enter Tryd.func5, Tryd.ntmps5
  go_wp2_with fail
  refine (awake_any w hg).mono ?_
  rintro e w1 ⟨rfl, hb1⟩
  have g1 := hg.below (Nat.le_refl _) hb1
  go_wp2_with fail
  refine (HL.out w1 (hM.below (Nat.le_refl _) hb1) g1).mono ?_
  rintro e w2 ⟨pa, cpa, rfl, hTa, hca, hb2⟩
  have B2 : Below w.heap.size w w2 := hb1.trans (hb2.mono hb1.size)
  have B3 : Below w2.heap.size w2 (w2.alloc (.cells #[.int .i64 (plc l).1, .int .i64 (plc l).2] 26)) := (Below.refl _ w2).alloc (Nat.le_refl _) _
  have T3 := hTa.below (Nat.le_refl _) B3
  have B4 : Below w.heap.size w (w2.alloc (.cells #[.int .i64 (plc l).1, .int .i64 (plc l).2] 26)) := B2.trans (B3.mono B2.size)
  clear hb1 hb2 HL g1 B2 B3 hTa hM
  have HQ : Hid ((lexM l).2 = (lexM l).2) := rfl
  go_wp2_with fail
  generalize w2.alloc (.cells #[.int .i64 (plc l).1, .int .i64 (plc l).2] 26) = w3 at *
  refine (text_any pa (lexM l).1.length cpa (lexM l).1 w3 rfl (by omega) T3 (by omega)).mono ?_
  rintro e w4 ⟨rfl, hb4⟩
  have T4 := T3.below (Nat.le_refl _) hb4
  have B5 := B4.trans (hb4.mono B4.size)
  have cv := conv_sb w4 (txt (lexM l).1)
  have T5 := T4.below (Nat.le_refl _) (bw_below w4 (txt (lexM l).1))
  have B6 := B5.trans ((bw_below w4 (txt (lexM l).1)).mono B5.size)
  have HL2 := hide (lex_told (some ⟨w4.heap.size, 0, none⟩) (txt (lexM l).1).length (grownCap w4 (txt (lexM l).1).length 0 5) (txt (lexM l).1) _ rfl (by omega) (grownCap_ge _ _ _ _) (bw_mem w4 (txt (lexM l).1)) (fun h => by cases h) (hg.below (Nat.le_refl _) B6))
  clear T3 T4 hb4 B4 B5
  go_wp2_with fail
  refine HL2.out.mono ?_
  rintro e w6 ⟨pm, cpm, rfl, hTm, hcm, hb6⟩
  have T6 := T5.below (Nat.le_refl _) hb6
  have BW := B6.trans (hb6.mono B6.size)
  have N6 := BW.size
  clear HL2 T5 B6 hb6 cv
  obtain ⟨x1, x2, x3⟩ := HTX.out
  have e3 : plc (txt (lexM l).1) = (0, 0) := by unfold plc; rw [x1]; rfl
  have e4 : ern (txt (lexM l).1) = 0 := by unfold ern; rw [x1]; rfl
  have hml : (lexM (txt (lexM l).1)).1.length = (lexM l).1.length := by have := congrArg List.length x2; simpa using this
  rw [e3, e4, hml]
  rw [hml] at hcm
  have X2 := hide x2
  have X3 := hide x3
  clear x1 x2 x3 e3 e4 HTX hml
  generalize (lexM (txt (lexM l).1)).1 = ms at *
  cases hq : (lexM l).2 with
  | some ab =>
    have h0 := lexM_err hq
    have e2 : ern l = 20 := by unfold ern; rw [hq]; rfl
    rw [e2, h0]
    simp only [List.length_nil]
    clear hq h0 e2 X2 X3 hTm T6 HAF HBD HVT HLN htl htb2
    go_wp2_with fail
    go_ret
    exact ⟨rfl, BW.alloc N6 _⟩
  | none =>
    have e2 : ern l = 0 := by unfold ern; rw [hq]; rfl
    rw [e2]
    clear hq e2
    generalize (lexM l).1 = ts at *
    have B7 : Below w6.heap.size w6 (w6.alloc (.cells #[.int .i64 0, .int .i64 0] 26)) := (Below.refl _ w6).alloc (Nat.le_refl _) _
    have T7 := T6.below (Nat.le_refl _) B7
    have M7 := hTm.below (Nat.le_refl _) B7
    have BW7 := BW.trans (B7.mono N6)
    clear T6 hTm BW
    go_wp2_with fail
    generalize w6.alloc (.cells #[.int .i64 0, .int .i64 0] 26) = W7 at *
    go_loopw [10] (fun i wr => ∃ j : Nat, j ≤ ts.length ∧ i = .int .i64 j ∧ Below W7.heap.size W7 wr) (fun i _ => ts.length - (intOf i).toNat)
    case atStart => exact ⟨0, Nat.zero_le _, rfl, Below.refl _ _⟩
    case round =>
      obtain ⟨j, hj, rfl, hBr⟩ := hrel
      by_cases hlt : j < ts.length
      · have A1 := T7.below (Nat.le_refl _) hBr
        have A2 := M7.below (Nat.le_refl _) hBr
        have hml : ms.length = ts.length := by have := congrArg List.length X2.out; simpa using this
        rcases A1 with he | ⟨ba, oa, rfl, hba, hma⟩
        · rw [he] at hlt; simp at hlt
        rcases A2 with he | ⟨bb, ob, rfl, hbb, hmb⟩
        · rw [he] at hml; simp at hml; omega
        have hmj : j < ms.length := by omega
        have hkey : key3 ms[j] = key3 ts[j] := by
          have := congrArg (fun (z : List (Int × List UInt8 × Int)) => z[j]?) X2.out
          simp only [List.getElem?_map, List.getElem?_eq_getElem hlt, List.getElem?_eq_getElem hmj, Option.map_some, Option.some.injEq] at this
          exact this
        unfold key3 at hkey
        simp only [Prod.mk.injEq] at hkey
        have hln := X3.out ms[j] (List.getElem_mem hmj)
        obtain ⟨a0, a1, a2, a3, a4⟩ := hma j ts[j] (by simp)
        obtain ⟨q0, q1, q2, q3, q4⟩ := hmb j ms[j] (by simp)
        rw [hkey.1] at q0
        rw [hkey.2.1] at q1
        rw [hkey.2.2] at q2
        rw [hln] at q3
        obtain ⟨cc, rr, hcc, _⟩ := vt_shape (HVT.out ts[j] (List.getElem_mem hlt))
        have hs1 : 1 ≤ (S ts[j].tx).size := by rw [S_size, hcc]; simp
        have hs2 : (S ts[j].tx).size ≤ 5000 := by rw [S_size]; have := HLN.out ts[j] (List.getElem_mem hlt); omega
        have hs0 : (((S ts[j].tx).size : Int) == 0) = false := by rw [beq_eq_false_iff_ne]; omega
        obtain ⟨y1, y2, y3, y4⟩ := HBD.out ts[j] (List.getElem_mem hlt)
        have y3' : (0 : Int) < ts[j].co := y3
        have y4' : ts[j].co ≤ (m : Int) := y4
        clear y1 y2 y3 y4 hkey hln hcc
        cases j with
        | zero =>
          simp only [Nat.zero_mul, Nat.add_zero] at a0 a1 a2 a3 a4 q0 q1 q2 q3 q4
          clear hma hmb
          generalize ts[0] = t at *
          generalize S t.tx = s at *
          go_wp2_with fail
          go_quiet (fail)
          go_wp2_with fail
          go_quiet (fail)
          go_wp2_with fail
          go_roundw
          case rel => exact ⟨1, by omega, rfl, hBr.trans ⟨rfl, rfl, rfl, Nat.le_refl _, fun _ _ => rfl⟩⟩
          case measure => simp [intOf]; omega
        | succ i =>
          have hi : i < ts.length := by omega
          have hpw := List.pairwise_iff_getElem.1 HAF.out i (i + 1) hi hlt (by omega)
          obtain ⟨p1, p2⟩ := hpw
          obtain ⟨r0, r1, r2, r3, r4⟩ := hma i ts[i] (by simp)
          have hs3 : (S ts[i].tx).size ≤ 5000 := by rw [S_size]; have := HLN.out ts[i] (List.getElem_mem hi); omega
          obtain ⟨z1, z2, z3, z4⟩ := HBD.out ts[i] (List.getElem_mem hi)
          have z3' : (0 : Int) < ts[i].co := z3
          have z4' : ts[i].co ≤ (m : Int) := z4
          have p2' : ts[i].ln = ts[i + 1].ln → ts[i].co + ((S ts[i].tx).size : Int) ≤ ts[i + 1].co := by rw [S_size]; exact p2
          clear hma hmb z1 z2 z3 z4 p2
          generalize ts[i + 1] = t at *
          generalize ts[i] = v at *
          generalize S t.tx = s at *
          generalize S v.tx = s' at *
          have hji : ((i + 1 : Nat) : Int) - 1 = (i : Int) := by omega
          by_cases heq : v.ln = t.ln
          · have p3 := p2' heq
            have heq' : (v.ln == t.ln) = true := by rw [beq_iff_eq]; exact heq
            rw [heq] at r3
            have heq2 : (t.ln == t.ln) = true := by rw [beq_iff_eq]
            clear p2' heq heq' p1
            go_wp2_with fail
            go_quiet (fail)
            go_wp2_with fail
            go_quiet (fail)
            go_wp2_with fail
            go_roundw
            case rel => exact ⟨i + 1 + 1, by omega, by go_num, hBr.trans ⟨rfl, rfl, rfl, Nat.le_refl _, fun _ _ => rfl⟩⟩
            case measure => simp [intOf]; omega
          · have heq' : (v.ln == t.ln) = false := by rw [beq_eq_false_iff_ne]; exact heq
            have hgt : decide (t.ln < v.ln) = false := by simp; exact p1
            clear p2' heq
            go_wp2_with fail
            go_quiet (fail)
            go_wp2_with fail
            go_quiet (fail)
            go_wp2_with fail
            go_roundw
            case rel => exact ⟨i + 1 + 1, by omega, by go_num, hBr.trans ⟨rfl, rfl, rfl, Nat.le_refl _, fun _ _ => rfl⟩⟩
            case measure => simp [intOf]; omega
      · go_wp2_with fail
        go_ret
        exact ⟨rfl, BW7.trans (hBr.mono BW7.size)⟩
end Go.Proofs.YtnajffpllhckkaaDoor
