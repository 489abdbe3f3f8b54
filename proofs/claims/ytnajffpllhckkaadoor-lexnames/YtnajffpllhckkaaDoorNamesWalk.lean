/-
  LexNames's walk; an argument of tokens, opened.
-/
import Derived.Test.YtnajffpllhckkaaDoorRef
import Derived.Test.YtnajffpllhckkaaDoorNumbersWalk
import Derived.Test.YtnajffpllhckkaaDoorFrame
import Derived.Deep.Slices
namespace Go.Proofs.YtnajffpllhckkaaDoor
open Go.ChangeShapes Go.WideShapes Go.ChangeAt Go.RowKit
set_option linter.unusedVariables false

theorem cells33 : Tryd.prog.cellsOf 33 = 5 := by kernel_rfl
theorem cells3 : Tryd.prog.cellsOf 3 = 1 := by kernel_rfl
set_option maxRecDepth 20000 in
theorem tok_of {H : Type} {enc : TypeId × Value → H} {W : World} {n : Nat} {cs : List Value} {x : DataW H × List MemPlace} (h : DataW.trod enc Tryd.prog W 0 (fun _ => true) true n 33 cs = some x) :
    ∃ t : Tok, cs = [.int .i64 t.kd, .string (S t.tx), .int .i64 t.nu, .int .i64 t.ln, .int .i64 t.co] := by
  obtain ⟨xs, k, _, _, hcl, hxl, hf⟩ := DataW.trod_struct Tryd.underlying33 h
  rw [cells33] at hcl
  match xs, hxl, cs, hcl with
  | [y0, y1, y2, y3, y4], _, [v0, v1, v2, v3, v4], _ =>
    have g0 := hf 0 _ rfl
    have g1 := hf 1 _ rfl
    have g2 := hf 2 _ rfl
    have g3 := hf 3 _ rfl
    have g4 := hf 4 _ rfl
    simp [cells3, cells9] at g0 g1 g2 g3 g4
    obtain ⟨z0, e0, _, _⟩ := DataW.trod_int Tryd.underlying3 g0
    obtain ⟨z1, e1, _, _⟩ := DataW.trod_string Tryd.underlying9 g1
    obtain ⟨z2, e2, _, _⟩ := DataW.trod_int Tryd.underlying3 g2
    obtain ⟨z3, e3, _, _⟩ := DataW.trod_int Tryd.underlying3 g3
    obtain ⟨z4, e4, _, _⟩ := DataW.trod_int Tryd.underlying3 g4
    simp only [List.cons.injEq, and_true] at e0 e1 e2 e3 e4
    subst e0 e1 e2 e3 e4
    exact ⟨⟨z0, z1.data.toList, z2, z3, z4⟩, by rw [S_of]⟩
/-- An argument of type []api.Token, opened. -/
theorem toks_of {H : Type} {enc : TypeId × Value → H} {W : World} {a0 : Option Addr} {len cp : Nat} {d0 : DataW H} {p : List MemPlace} (h0 : DataW.Trod enc Tryd.prog W 0 (fun _ => true) true 24 (.slice a0 len cp) d0 p) :
    ∃ ts : List Tok, ts.length = len ∧ TMem W a0 ts := by
  obtain ⟨fuel, hf⟩ := h0
  rcases Go.Deep.open_slice Tryd.underlying24 hf with ⟨hcs, hx⟩ | ⟨a, len', cap', m, n, D, Pl, hcs, _, hl, hm, hmm, hx, hel⟩
  · simp [Value.cells] at hcs
    obtain ⟨rfl, rfl, rfl⟩ := hcs
    exact ⟨[], rfl, .inl rfl⟩
  · simp [Value.cells] at hcs
    obtain ⟨rfl, rfl, rfl⟩ := hcs
    simp only [if_true] at hmm
    have each : ∀ i, i < m → ∃ t : Tok, W.cells? 0 (a.add (i * 5)) 5 = some [.int .i64 t.kd, .string (S t.tx), .int .i64 t.nu, .int .i64 t.ln, .int .i64 t.co] := by
      intro i hi
      obtain ⟨cs', h1, h2⟩ := hel i hi
      rw [cells33] at h1
      obtain ⟨t, rfl⟩ := tok_of h2
      exact ⟨t, h1⟩
    have inh : Inhabited Tok := ⟨⟨0, [], 0, 0, 0⟩⟩
    obtain ⟨q, hq⟩ := Go.Deep.choose_lt (α := Tok) each
    refine ⟨(List.range len).map q, by simp, ?_⟩
    by_cases hn : len = 0
    · left; rw [hn]; rfl
    · right
      obtain ⟨b, o, sp⟩ := a
      have hsp : sp = none := by
        cases sp with
        | none => rfl
        | some z =>
          have h00 := (World.cells?_some (hq 0 (by omega))).2.2 0 (by omega)
          unfold World.cell? at h00
          simp [Addr.add] at h00
          split at h00 <;> simp at h00
      subst hsp
      have hcl : ∀ i, i < m → ∀ j, j < 5 → W.cell? ⟨b, o + i * 5 + j, none⟩ = ([.int .i64 (q i).kd, .string (S (q i).tx), .int .i64 (q i).nu, .int .i64 (q i).ln, .int .i64 (q i).co] : List Value)[j]? := by
        intro i hi j hj
        have := (World.cells?_some (hq i hi)).2.2 j hj
        rw [add_plain, add_plain] at this
        exact this
      have h00 := hcl 0 (by omega) 0 (by omega)
      have hb : b < W.heap.size := by
        apply Classical.byContradiction
        intro hnb
        have hh : W.heap[b]? = none := Array.getElem?_eq_none (by omega)
        simp [World.cell?, hh] at h00
      refine ⟨b, o, rfl, hb, fun i t ht => ?_⟩
      have hi : i < len := by have := (List.getElem?_eq_some_iff.1 ht).1; simpa using this
      have ht2 : t = q i := by
        rw [List.getElem?_map, List.getElem?_range hi] at ht
        simpa using ht.symm
      subst ht2
      have k := hcl i (by omega)
      refine ⟨k 0 (by omega), k 1 (by omega), k 2 (by omega), k 3 (by omega), k 4 (by omega)⟩
theorem rtext_any (p : Option Addr) (m c : Nat) (ts : List Tok) (w : World) (hl : ts.length = m) (hm : m ≤ 2147483647) (hM : TMem w p ts) (hT : (txt ts).length ≤ 1099511627776) :
    Calls Tryd.prog 21 #[.slice p m c] w fun e w' => e = .returned (.string (S (txt ts))) ∧ w' = w := by
  go_enter Tryd.func21, Tryd.ntmps21
  go_wp2_with fail
  go_loop [3, 4] (fun v i => ∃ k : Nat, k ≤ m ∧ v = .string (S (txt (ts.take k))) ∧ i = .int .i64 k) (fun _ i => m - (intOf i).toNat)
  case atStart => exact ⟨0, Nat.zero_le _, rfl, rfl⟩
  case round =>
    obtain ⟨k, hk, rfl, rfl⟩ := hrel
    by_cases hlt : k < m
    · have hkt : k < ts.length := by omega
      have htk := txt_take ts k hkt
      have hln := txt_len ts k
      have hln2 := txt_len ts (k + 1)
      rcases hM with he | ⟨ba, oa, rfl, hba, hma⟩
      · rw [he] at hkt; simp at hkt
      have a1 := (hma k ts[k] (by simp)).2.1
      clear hma
      generalize ts[k] = t at *
      by_cases hk0 : k = 0
      · subst hk0
        rw [if_pos rfl] at htk
        have HTK : Hid (S (txt (ts.take (0 + 1))) = S t.tx) := by show S (txt (ts.take (0 + 1))) = S t.tx; rw [htk]
        have e0 : S (txt (ts.take 0)) = ⟨#[]⟩ := rfl
        rw [htk] at hln2
        have hsz : (S t.tx).size ≤ 1099511627776 := by rw [S_size]; omega
        have hadd : ⟨#[]⟩ ++ S t.tx = S t.tx := S_add [] t.tx
        rw [e0]
        clear htk hln hln2
        simp only [Nat.zero_mul, Nat.add_zero] at a1
        simp only [Int.natCast_zero]
        generalize S t.tx = s at *
        go_wp2_with fail
        go_round
        case rel => exact ⟨1, by omega, by rw [HTK.out], by go_num⟩
        case measure => simp [intOf]; omega
      · rw [if_neg hk0] at htk
        have h1 : S (txt (ts.take k)) ++ ⟨#[32]⟩ = S (txt (ts.take k) ++ [32]) := S_add _ [32]
        have h2 : S (txt (ts.take k) ++ [32]) ++ S t.tx = S (txt (ts.take (k + 1))) := by rw [S_add, htk]
        rw [htk] at hln2
        simp only [List.length_append, List.length_singleton] at hln2
        have hz1 : (S (txt (ts.take k))).size + 1 + (S t.tx).size ≤ 1099511627776 := by rw [S_size, S_size]; omega
        have hz2 : (S (txt (ts.take k) ++ [32])).size = (S (txt (ts.take k))).size + 1 := by rw [S_size, S_size]; simp
        have hk1 : (0 : Int) < k := by omega
        clear htk hln hln2
        generalize S (txt (ts.take k)) = s0 at *
        generalize S (txt (ts.take k) ++ [32]) = s1 at *
        generalize S t.tx = s at *
        go_wp2_with fail
        go_round
        case rel => exact ⟨k + 1, by omega, rfl, by go_num⟩
        case measure => simp [intOf]; omega
    · have HX : Hid (txt (ts.take k) = txt ts) := by show txt (ts.take k) = txt ts; rw [List.take_of_length_le (by omega)]
      rw [HX.out]
      go_wp2_with fail
      go_ret
      exact ⟨rfl, rfl⟩
theorem names_long (l : List UInt8) (p : Option Addr) (m c : Nat) (w : World) (hg : Glob w) (h : 300 < (m : Int) ∨ 100 < (l.length : Int)) :
    Calls Tryd.prog 4 #[.string (S l), .slice p m c] w fun e w' => e = .returned (.bool true) ∧ Below w.heap.size w w' := by
  rw [← S_size] at h
  generalize S l = s at *
  by_cases h1 : 300 < (m : Int)
  · go_enter Tryd.func4, Tryd.ntmps4
    go_wp2_with fail
    refine (awake_any w hg).mono ?_
    rintro e w1 ⟨rfl, hb⟩
    go_wp2_with fail
    go_ret
    exact ⟨rfl, hb⟩
  · have h2 : 100 < (s.size : Int) := by omega
    clear h
    go_enter Tryd.func4, Tryd.ntmps4
    go_wp2_with fail
    refine (awake_any w hg).mono ?_
    rintro e w1 ⟨rfl, hb⟩
    go_wp2_with fail
    go_ret
    exact ⟨rfl, hb⟩
theorem one_of (l : List UInt8) : (ky l = true ∧ nm l = false ∧ cn l = false) ∨ (ky l = false ∧ nm l = true ∧ cn l = false) ∨ (ky l = false ∧ nm l = false ∧ cn l = true) ∨ (ky l = false ∧ nm l = false ∧ cn l = false) := by
  cases hn : nm l with
  | true =>
    have hc := nm_cn l hn
    have hk : ky l = false := by
      unfold nm at hn
      simp only [Bool.and_eq_true, Bool.not_eq_true'] at hn
      unfold ky; rw [hn.2]
      cases l with
      | nil => simp [wd] at hn
      | cons c r => rw [sg_off (.inl ((sm_iff c).1 hn.1.2))]; rfl
    exact .inr (.inl ⟨hk, rfl, hc⟩)
  | false =>
    cases hc : cn l with
    | true =>
      have hk : ky l = false := by
        unfold cn at hc
        simp only [Bool.and_eq_true] at hc
        cases l with
        | nil => simp [wd] at hc
        | cons c r => have h := (gr_iff c).1 hc.2; unfold ky; rw [kw_off h, sg_off (.inr h)]; rfl
      exact .inr (.inr (.inl ⟨hk, rfl, rfl⟩))
    | false =>
      cases hk : ky l with
      | true => exact .inl ⟨rfl, rfl, rfl⟩
      | false => exact .inr (.inr (.inr ⟨rfl, rfl, rfl⟩))
set_option maxRecDepth 20000 in
set_option maxHeartbeats 4000000 in
theorem names_walk (l : List UInt8) (p : Option Addr) (m c : Nat) (ts : List Tok) (w : World) (hg : Glob w) (hl : l.length ≤ 100) (hm : m ≤ 300) (hts : ts.length = m) (hM : TMem w p ts) :
    Calls Tryd.prog 4 #[.string (S l), .slice p m c] w fun e w' => e = .returned (.bool true) ∧ Below w.heap.size w w' := by
  have hsz : (S l).size ≤ 100 := by rw [S_size]; exact hl
  have HK := hide (fun w => key_any l w)
  have HN := hide (fun w => name_any l w (by omega))
  have HC := hide (fun w => con_any l w (by omega))
  have RK := hide (fun w => rkey_any l w)
  have RN := hide (fun w => rname_any l w (by omega))
  have RC := hide (fun w => rcon_any l w (by omega))
  have H1 := hide (one_of l)
  generalize S l = s at *
  go_enter Tryd.func4, Tryd.ntmps4
  go_wp2_with fail
  refine (awake_any w hg).mono ?_
  rintro e w1 ⟨rfl, hb⟩
  have M1 := hM.below (Nat.le_refl _) hb
  have N1 := hb.size
  clear hM
  go_wp2_with fail
  go_loopw [6] (fun i wr => ∃ j : Nat, j ≤ m ∧ i = .int .i64 j ∧ w1 = wr ∧ ∀ t ∈ ts.take j, t.tx.length ≤ 50) (fun i _ => m - (intOf i).toNat)
  case atStart => exact ⟨0, Nat.zero_le _, rfl, rfl, fun t h => by simp at h⟩
  case round =>
    obtain ⟨j, hj, rfl, rfl, hall⟩ := hrel
    have HA := hide hall
    clear hall
    by_cases hlt : j < m
    · have hjt : j < ts.length := by omega
      rcases M1 with he | ⟨ba, oa, rfl, hba, hma⟩
      · rw [he] at hjt; simp at hjt
      have a1 := (hma j ts[j] (by simp)).2.1
      have htk := List.take_succ_eq_append_getElem hjt
      have HT : Hid (ts[j].tx.length ≤ 50 → ∀ t ∈ ts.take (j + 1), t.tx.length ≤ 50) := by
        intro h t ht
        rw [htk] at ht
        rcases List.mem_append.1 ht with h1 | h1
        · exact HA.out t h1
        · rw [List.mem_singleton.1 h1]; exact h
      clear hma htk
      generalize ts[j] = t at *
      have hs := S_size t.tx
      generalize S t.tx = s' at *
      by_cases h50 : 50 < (s'.size : Int)
      · go_wp2_with fail
        go_ret
        exact ⟨rfl, hb⟩
      · have HT2 := hide (HT.out (by omega))
        clear HT
        go_wp2_with fail
        go_roundw
        case rel => exact ⟨j + 1, by omega, by go_num, trivial, HT2.out⟩
        case measure => simp [intOf]; omega
    · have hall := HA.out
      rw [List.take_of_length_le (by omega)] at hall
      have htb := txt_bound 50 ts hall
      have htb2 : (txt ts).length ≤ 15300 := by
        have : ts.length * (50 + 1) ≤ 300 * 51 := Nat.mul_le_mul (by omega) (by omega)
        omega
      have TX := hide (fun w hM => text_any p m c ts w hts (by omega) hM (by omega))
      have RX := hide (fun w hM => rtext_any p m c ts w hts (by omega) hM (by omega))
      clear hall htb HA
      generalize S (txt ts) = st at *
      obtain ⟨hk, hn, hc⟩ | ⟨hk, hn, hc⟩ | ⟨hk, hn, hc⟩ | ⟨hk, hn, hc⟩ := H1.out
      all_goals
        rw [hk] at HK RK
        rw [hn] at HN RN
        rw [hc] at HC RC
        clear hk hn hc H1
        go_wp2_with fail
        refine (HK.out _).mono ?_; rintro e w2 ⟨rfl, rfl⟩
        go_wp2_with fail
        refine (HN.out _).mono ?_; rintro e w2 ⟨rfl, rfl⟩
        go_wp2_with fail
        refine (HC.out _).mono ?_; rintro e w2 ⟨rfl, rfl⟩
        go_wp2_with fail
        refine (RK.out _).mono ?_; rintro e w3 ⟨rfl, b3⟩
        go_wp2_with fail
        refine (RN.out _).mono ?_; rintro e w4 ⟨rfl, b4⟩
        go_wp2_with fail
        refine (RC.out _).mono ?_; rintro e w5 ⟨rfl, rfl⟩
        have M5 := (M1.below (Nat.le_refl _) b3).below (Nat.le_refl _) b4
        go_wp2_with fail
        refine (TX.out _ M5).mono ?_; rintro e w6 ⟨rfl, b6⟩
        have M6 := M5.below (Nat.le_refl _) b6
        go_wp2_with fail
        refine (RX.out _ M6).mono ?_; rintro e w7 ⟨rfl, rfl⟩
        have B3 := hb.trans (b3.mono N1)
        have B4 := B3.trans (b4.mono B3.size)
        have B6 := B4.trans (b6.mono B4.size)
        go_wp2_with fail
        go_ret
        exact ⟨rfl, B6⟩
end Go.Proofs.YtnajffpllhckkaaDoor
