/-
  dawdlerref02's Lex.
-/
import Derived.Test.YtnajffpllhckkaaDoorRefSign
namespace Go.Proofs.YtnajffpllhckkaaDoor
open Go.RowKit
set_option linter.unusedVariables false

def nl (x : UInt8) : Bool := !(x == 10)
theorem dw_drop (p : UInt8 → Bool) : ∀ l : List UInt8, l.drop (l.takeWhile p).length = l.dropWhile p
  | [] => rfl
  | a :: r => by
    rw [List.takeWhile_cons, List.dropWhile_cons]
    split
    · rw [List.length_cons, List.drop_succ_cons]; exact dw_drop p r
    · rfl
theorem dw_none : ∀ h : List UInt8, (10 : UInt8) ∉ h → h.dropWhile nl = []
  | [], _ => rfl
  | a :: r, h => by
    have ha : nl a = true := by unfold nl; simp; intro e; exact h (by rw [e]; simp)
    rw [List.dropWhile_cons, if_pos ha]
    exact dw_none r (fun hx => h (List.mem_cons_of_mem _ hx))
theorem dw_some (x : List UInt8) : ∀ h : List UInt8, (10 : UInt8) ∉ h → (h ++ 10 :: x).dropWhile nl = 10 :: x
  | [], _ => rfl
  | a :: r, h => by
    have ha : nl a = true := by unfold nl; simp; intro e; exact h (by rw [e]; simp)
    rw [List.cons_append, List.dropWhile_cons, if_pos ha]
    exact dw_some x r (fun hx => h (List.mem_cons_of_mem _ hx))
theorem rawO_com (n : Int) (a a' : Nat) (r : List UInt8) : rawO n a (45 :: 45 :: r) = rawO n a' ((45 :: 45 :: r).dropWhile nl) := by
  obtain ⟨h, t, e1, e2, e3⟩ := spl_split (45 :: 45 :: r)
  obtain ⟨x1, t1, f1, f2⟩ := spl_cons 45 (45 :: r) (by decide)
  obtain ⟨x2, t2, g1, g2⟩ := spl_cons 45 r (by decide)
  have hh : h = 45 :: 45 :: x2 := by
    rw [f2] at e1
    rw [g2] at f1
    simp only [List.cons.injEq] at e1 f1
    rw [← e1.1, ← f1.1]
  have hsk : sk h = [] := by rw [hh]; rfl
  have hraw : raw n a h = ([], none) := by rw [raw_step, hsk]
  have hL : rawO n a (45 :: 45 :: r) = rawLs (num (n + 1) t) := by
    unfold rawO; rw [e1]; simp only [hraw, List.nil_append]
  rw [hL]
  rcases e3 with ⟨rfl, he⟩ | ⟨x, he, hx⟩
  · rw [he, dw_none h e2, rawO_nil]; rfl
  · rw [he, dw_some x h e2, rawO_nl, ← hx, rawO_all]
/-- Where ref's Lex stands. -/
structure RSt (w : World) (ts : List Tok) (nn cc : Int) (v : Value) (W : World) : Prop where
  h0 : Hold w.heap.size #[.int .i64 0, .int .i64 0] 26 W
  h1 : Hold (w.heap.size + 1) #[.int .i64 nn, .int .i64 cc] 26 W
  row : W.ownsRow w.heap.size 33 5 v ts.length (tcs ts)
  below : Below w.heap.size w W
theorem RSt.keep {w : World} {ts : List Tok} {nn cc : Int} {v : Value} {W W' : World} (h : RSt w ts nn cc v W) (hb : Below W.heap.size W W') : RSt w ts nn cc v W' :=
  have K := Keep.of_below hb h.below.size
  ⟨K.all _ _ _ _ h.h0, K.all _ _ _ _ h.h1, ownsRow_keep K h.row, h.below.trans (hb.mono h.below.size)⟩
theorem RSt.col {w : World} {ts : List Tok} {nn cc : Int} {v : Value} {W : World} (h : RSt w ts nn cc v W) (c' : Int) : RSt w ts nn c' v (W.setCell ⟨w.heap.size + 1, 1, none⟩ (.int .i64 c')) :=
  ⟨h.h0.other (by omega) _ _, h.h1.set _ _, row_other h.row h.h1 (by decide) _ _, h.below.setCell (by simp) _⟩
theorem RSt.line {w : World} {ts : List Tok} {nn cc : Int} {v : Value} {W : World} (h : RSt w ts nn cc v W) (n' c' : Int) : RSt w ts n' c' v ((W.setCell ⟨w.heap.size + 1, 0, none⟩ (.int .i64 n')).setCell ⟨w.heap.size + 1, 1, none⟩ (.int .i64 c')) :=
  have g : RSt w ts n' cc v (W.setCell ⟨w.heap.size + 1, 0, none⟩ (.int .i64 n')) := ⟨h.h0.other (by omega) _ _, h.h1.set _ _, row_other h.row h.h1 (by decide) _ _, h.below.setCell (by simp) _⟩
  g.col c'
theorem RSt.res {w : World} {ts : List Tok} {nn cc : Int} {v : Value} {W : World} (h : RSt w ts nn cc v W) (x y : Value) : ((W.setCell ⟨w.heap.size, 0, none⟩ x).setCell ⟨w.heap.size, 1, none⟩ y).ownsRow w.heap.size 33 5 v ts.length (tcs ts) ∧ Below w.heap.size w ((W.setCell ⟨w.heap.size, 0, none⟩ x).setCell ⟨w.heap.size, 1, none⟩ y) :=
  ⟨row_other (row_other h.row h.h0 (by decide) _ _) (h.h0.set 0 x) (by decide) _ _, (h.below.setCell (by simp) _).setCell (by simp) _⟩
theorem conv_any (p : Option Addr) (m c : Nat) (l : List UInt8) (w : World) (hl : l.length = m) (hM : Mem w p l) : (convert 22 9 (.slice p m c)).run Tryd.prog w = .ok (.string (S l)) w := by
  by_cases h : l = []
  · subst h
    subst hl
    cases p with
    | none => exact run_convert_bytes_nil (P := Tryd.prog) w 22 5 Tryd.underlying22 Tryd.underlying5 0 c 9 Tryd.underlying9
    | some a =>
      have hl : (loadCells a 0).run Tryd.prog w = .ok #[] w := by
        have := run_loadCells_list (P := Tryd.prog) w a [] (fun j v hj => by simp at hj)
        simpa using this
      rw [List.length_nil, run_convert_bytes_string w 22 9 5 _ 0 c Tryd.underlying22 Tryd.underlying5 Tryd.underlying9, run_bytesToString w _ 0 c [] hl]
      rfl
  · rw [← hl]; exact hM.str h c
theorem drop_at (l : List UInt8) (k : Nat) (h : k < l.length) : l.drop k = l[k] :: l.drop (k + 1) := List.drop_eq_getElem_cons h
theorem S_from (l : List UInt8) (k : Nat) : (S l).extract k l.length = S (l.drop k) := by
  apply ByteArray.ext
  simp [S]
  rw [List.take_of_length_le (by simp)]
/-- What is left of a text says what is left of its tokens. -/
def Left (l : List UInt8) (ts : List Tok) (nn : Int) (a k : Nat) : Prop := rawO 1 0 l = (ts ++ (rawO nn a (l.drop k)).1, (rawO nn a (l.drop k)).2)
theorem Left.next {l : List UInt8} {ts : List Tok} {nn nn' : Int} {a a' k k' : Nat} (h : Left l ts nn a k) (e : rawO nn a (l.drop k) = rawO nn' a' (l.drop k')) : Left l ts nn' a' k' := by unfold Left at *; rw [h, e]
set_option maxRecDepth 20000 in
set_option maxHeartbeats 4000000 in
theorem rlex_told (p : Option Addr) (m c : Nat) (l : List UInt8) (w : World) (hl : l.length = m) (hm : m ≤ 5000) (hM : Mem w p l) :
    Calls Tryd.prog 12 #[.slice p m c] w fun e W' => ∃ pa cp, e = .returned (.tuple #[.slice pa (lexM l).1.length cp, .agg #[.int .i64 (plc l).1, .int .i64 (plc l).2], .int .i64 (ern l)]) ∧ TMem W' pa (lexM l).1 ∧ Below w.heap.size w W' := by
  have cv := conv_any p m c l (w.alloc (.cells #[.int .i64 0, .int .i64 0] 26)) hl (hM.alloc _)
  have hz := S_size l
  have hG : ∀ k (h : k < (S l).size) (h' : k < l.length), (S l)[k]'h = l[k] := fun k h h' => S_get l k h h'
  have HG := hide hG
  have HFR := hide (S_from l)
  have HPO : Hid (∀ (W' : World) (pa : Option Addr) (n cp : Nat) (x y z : Int), (lexM l).1.length = n → plc l = (x, y) → ern l = z → TMem W' pa (lexM l).1 → Below w.heap.size w W' → ∃ pa' cp', Ending.returned (.tuple #[.slice pa n cp, .agg #[.int .i64 x, .int .i64 y], .int .i64 z]) = .returned (.tuple #[.slice pa' (lexM l).1.length cp', .agg #[.int .i64 (plc l).1, .int .i64 (plc l).2], .int .i64 (ern l)]) ∧ TMem W' pa' (lexM l).1 ∧ Below w.heap.size w W') := by
    intro W' pa n cp x y z h1 h2 h3 h4 h5
    exact ⟨pa, cp, by rw [h1, h2, h3], h4, h5⟩
  clear hG
  have hR0 : RSt w [] 1 1 (.slice none 0 0) ((w.alloc (.cells #[.int .i64 0, .int .i64 0] 26)).alloc (.cells #[.int .i64 1, .int .i64 1] 26)) :=
    ⟨(Hold.new w _ _).alloc _, by have := Hold.new (w.alloc (.cells #[.int .i64 0, .int .i64 0] 26)) #[.int .i64 1, .int .i64 1] 26; rw [World.size_alloc] at this; exact this, World.ownsRow_nil _ _ _ _, ((Below.refl _ w).alloc (Nat.le_refl _) _).alloc (by simp) _⟩
  have HR0 := hide hR0
  clear hR0 hM
  generalize S l = s at *
  go_enter Tryd.func12, Tryd.ntmps12
  go_wp2_with fail
  go_loopw [6, 7] (fun v i wr => ∃ (k a : Nat) (nn : Int) (ts : List Tok) (pa : Option Addr) (cp : Nat), i = .int .i64 k ∧ k ≤ m ∧ a ≤ k ∧ 1 ≤ nn ∧ nn ≤ k + 1 ∧ v = .slice pa ts.length cp ∧ ts.length ≤ 2000 ∧ RSt w ts nn ((a : Int) + 1) (.slice pa ts.length cp) wr ∧ Left l ts nn a k) (fun _ i _ => m - (intOf i).toNat)
  case atStart => exact ⟨0, 0, 1, [], none, 0, rfl, Nat.zero_le _, Nat.le_refl _, by omega, by omega, rfl, by simp, HR0.out, by unfold Left; rfl⟩
  case round =>
    obtain ⟨k, a, nn, ts, pa, cp, rfl, hk, hak, hn1, hn2, rfl, hts, hR, hLe⟩ := hrel
    have HLE := hide hLe
    have HR := hide hR
    have c30 : wr.cell? ⟨w.heap.size, 0, none⟩ = some (.int .i64 0) := hR.h0.cell 0
    have c31 : wr.cell? ⟨w.heap.size, 1, none⟩ = some (.int .i64 0) := hR.h0.cell 1
    have c80 : wr.cell? ⟨w.heap.size + 1, 0, none⟩ = some (.int .i64 nn) := hR.h1.cell 0
    have c81 : wr.cell? ⟨w.heap.size + 1, 1, none⟩ = some (.int .i64 ((a : Int) + 1)) := hR.h1.cell 1
    have f30 := hR.h0.frozen 0
    have f31 := hR.h0.frozen 1
    have f80 := hR.h1.frozen 0
    have f81 := hR.h1.frozen 1
    clear hLe hR HR0
    by_cases hlt : k < l.length
    · have hks : k < s.size := by omega
      have hgk := HG.out k hks hlt
      have HD := hide (drop_at l k hlt)
      generalize l[k] = x at *
      by_cases h10 : x = 10
      · subst h10
        have HLE2 := hide (HLE.out.next (nn' := nn + 1) (a' := 0) (k' := k + 1) (by rw [HD.out, rawO_nl]))
        clear HLE HD
        go_wp2_with fail
        go_roundw
        case rel => exact ⟨k + 1, 0, nn + 1, ts, pa, cp, by go_num, by omega, by omega, by omega, by omega, rfl, hts, HR.out.line _ _, HLE2.out⟩
        case measure => simp [intOf]; omega
      · by_cases h32 : x = 32
        · subst h32
          have HLE2 := hide (HLE.out.next (nn' := nn) (a' := a + 1) (k' := k + 1) (by rw [HD.out, rawO_gap]))
          clear HLE HD
          go_wp2_with fail
          go_roundw
          case rel => exact ⟨k + 1, a + 1, nn, ts, pa, cp, by go_num, by omega, by omega, by omega, by omega, rfl, hts, HR.out.col _, HLE2.out⟩
          case measure => simp [intOf]; omega
        · have hb10 : ((x.toNat : Int) == 10) = false := by
            rw [beq_eq_false_iff_ne]; intro h; exact h10 (by have := UInt8.toNat_inj (a := x) (b := 10); exact this.1 (by show x.toNat = 10; omega))
          have hb32 : ((x.toNat : Int) == 32) = false := by
            rw [beq_eq_false_iff_ne]; intro h; exact h32 (by have := UInt8.toNat_inj (a := x) (b := 32); exact this.1 (by show x.toNat = 32; omega))
          by_cases hcom : x = 45 ∧ ∃ r', l.drop (k + 1) = 45 :: r'
          · obtain ⟨rfl, r', hr'⟩ := hcom
            have hk1 : k + 1 < l.length := by
              apply Classical.byContradiction; intro h
              rw [List.drop_eq_nil_of_le (by omega)] at hr'; cases hr'
            have hks1 : k + 1 < s.size := by omega
            have hgk1 := HG.out (k + 1) hks1 hk1
            have hy : l[k + 1] = 45 := by have := drop_at l (k + 1) hk1; rw [hr'] at this; exact (List.cons.inj this).1.symm
            rw [hy] at hgk1
            have hdk : l.drop k = 45 :: 45 :: r' := by rw [HD.out, hr']
            have hK := tw_le (p := nl) (l.drop k)
            have HLT := hide (tw_lt nl (l.drop k))
            have HEND := hide (tw_end nl (l.drop k))
            have hK2 : 1 ≤ ((l.drop k).takeWhile nl).length := by rw [hdk]; rw [List.takeWhile_cons, if_pos (by decide)]; simp
            have HLE2 := hide (HLE.out.next (nn' := nn) (a' := a + ((l.drop k).takeWhile nl).length) (k' := k + ((l.drop k).takeWhile nl).length) (by rw [← List.drop_drop, dw_drop, hdk]; exact rawO_com _ _ _ _))
            rw [List.length_drop] at hK
            clear HLE HD hdk hr' hy
            generalize ((l.drop k).takeWhile nl).length = K at *
            go_wp2_with fail
            go_loopw [7] (fun i wr2 => ∃ j : Nat, j ≤ K ∧ i = .int .i64 ((k + j : Nat) : Int) ∧ RSt w ts nn (((a + j : Nat) : Int) + 1) (.slice pa ts.length cp) wr2) (fun i _ => k + K - (intOf i).toNat)
            case atStart => exact ⟨0, Nat.zero_le _, rfl, HR.out⟩
            case round =>
              obtain ⟨j, hj, rfl, hR2⟩ := hrel
              have HR2 := hide hR2
              clear c30 c31 c80 c81 f30 f31 f80 f81 HR
              have c81 : wr.cell? ⟨w.heap.size + 1, 1, none⟩ = some (.int .i64 (((a + j : Nat) : Int) + 1)) := hR2.h1.cell 1
              have f81 := hR2.h1.frozen 1
              clear hR2
              by_cases hjK : j < K
              · obtain ⟨q1, q2⟩ := HLT.out j hjK
                have hkj : k + j < l.length := by rw [List.length_drop] at q1; omega
                have hkj2 : k + j < s.size := by omega
                rw [List.getElem_drop] at q2
                have hgj := HG.out (k + j) hkj2 hkj
                have hbz : ((l[k + j].toNat : Int) == 10) = false := by
                  rw [beq_eq_false_iff_ne]; intro h
                  have he : l[k + j] = 10 := by have := UInt8.toNat_inj (a := l[k + j]) (b := 10); exact this.1 (by show l[k + j].toNat = 10; omega)
                  rw [he] at q2; cases q2
                clear q1 q2 HLT HEND
                generalize l[k + j] = y at *
                generalize hkjn : k + j = kj at *
                generalize hajn : a + j = aj at *
                go_wp2_with fail
                go_roundw
                case rel => exact ⟨j + 1, by omega, by rw [show k + (j + 1) = kj + 1 by omega]; go_num, by rw [show ((a + (j + 1) : Nat) : Int) + 1 = (aj : Int) + 1 + 1 by omega]; exact HR2.out.col _⟩
                case measure => simp [intOf]; omega
              · obtain rfl : j = K := by omega
                by_cases hend : k + j < l.length
                · have hd1 : j < (l.drop k).length := by rw [List.length_drop]; omega
                  have q2 := HEND.out hd1
                  rw [List.getElem_drop] at q2
                  have hkj2 : k + j < s.size := by omega
                  have hgj := HG.out (k + j) hkj2 hend
                  have hbz : ((l[k + j].toNat : Int) == 10) = true := by
                    unfold nl at q2
                    simp at q2
                    rw [q2]; rfl
                  clear q2 HLT HEND
                  generalize l[k + j] = y at *
                  generalize hkjn : k + j = kj at *
                  generalize hajn : a + j = aj at *
                  go_wp2_with fail
                  go_roundw
                  case rel => exact ⟨kj, aj, nn, ts, pa, cp, rfl, by omega, by omega, by omega, by omega, rfl, hts, HR2.out, HLE2.out⟩
                  case measure => simp [intOf]; omega
                · clear HLT HEND
                  generalize hkjn : k + j = kj at *
                  generalize hajn : a + j = aj at *
                  go_wp2_with fail
                  go_roundw
                  case rel => exact ⟨kj, aj, nn, ts, pa, cp, rfl, by omega, by omega, by omega, by omega, rfl, hts, HR2.out, HLE2.out⟩
                  case measure => simp [intOf]; omega
          · have HTOK := hide (rawO_tok nn a x (l.drop (k + 1)) h32 h10 hcom)
            rw [← HD.out] at HTOK
            have hll : (x :: l.drop (k + 1)).length ≤ 2147483647 := by rw [← HD.out, List.length_drop]; omega
            have HT := hide (rtoken_any x (l.drop (k + 1)) wr hll)
            rw [← HD.out] at HT
            have hfr := HFR.out k
            rw [hl] at hfr
            have hcase : (¬ k + 1 < m) ∨ (k + 1 < m ∧ x ≠ 45) ∨ (∃ (h : k + 1 < l.length), x = 45 ∧ l[k + 1] ≠ 45) := by
              by_cases h1 : k + 1 < m
              · by_cases h2 : x = 45
                · right; right
                  have h3 : k + 1 < l.length := by omega
                  refine ⟨h3, h2, fun h4 => hcom ⟨h2, l.drop (k + 1 + 1), ?_⟩⟩
                  rw [drop_at l (k + 1) h3, h4]
                · exact .inr (.inl ⟨h1, h2⟩)
              · exact .inl h1
            have htl := tl_le (l.drop k)
            have htlp : 1 ≤ tl (l.drop k) := by rw [HD.out]; exact tl_pos _ _
            rw [List.length_drop] at htl
            have htkl := tok_len (l.drop k)
            clear hcom hll
            rcases hcase with h1 | ⟨h1, h2⟩ | ⟨h1, h2, h3⟩
            · go_wp2_with fail
              refine HT.out.mono ?_
              rintro e w3 ⟨hres, b3⟩
              have R3 := HR.out.keep b3
              clear c30 c31 c80 c81 f30 f31 f80 f81 HR HT b3 hgk hb10 hb32 hfr HFR HG cv hks
              have c30 : w3.cell? ⟨w.heap.size, 0, none⟩ = some (.int .i64 0) := R3.h0.cell 0
              have c31 : w3.cell? ⟨w.heap.size, 1, none⟩ = some (.int .i64 0) := R3.h0.cell 1
              have c80 : w3.cell? ⟨w.heap.size + 1, 0, none⟩ = some (.int .i64 nn) := R3.h1.cell 0
              have c81 : w3.cell? ⟨w.heap.size + 1, 1, none⟩ = some (.int .i64 ((a : Int) + 1)) := R3.h1.cell 1
              have f30 := R3.h0.frozen 0
              have f31 := R3.h0.frozen 1
              have f80 := R3.h1.frozen 0
              have f81 := R3.h1.frozen 1
              have l0 := R3.h0.lt
              have l1 := R3.h1.lt
              have z0 : ¬ w.heap.size = w3.heap.size := by omega
              have z1 : ¬ w.heap.size + 1 = w3.heap.size := by omega
              have HR3 := hide R3
              have hLe := HLE.out
              unfold Left at hLe
              rw [HTOK.out] at hLe
              clear R3 HTOK HLE HD
              generalize hdk : l.drop k = dk at *
              generalize dk.take (tl dk) = tok at *
              generalize tl dk = n at *
              rcases hres with ⟨x', htk, rfl⟩ | ⟨htk, u, x', rfl⟩
              · rw [htk] at hLe
                simp only at hLe
                by_cases h20 : ts.length = 2000
                · have hlx : (lexM l).2 = some (nn, (a : Int) + 1) := by
                    rw [lexM_O, hLe]
                    exact cap_of_over (t := ⟨x'.1, tok, x'.2, nn, (a : Int) + 1⟩) (by simp only; rw [List.getElem?_append_right (by omega), h20]; rfl)
                  have e3 : plc l = (nn, (a : Int) + 1) := by unfold plc; rw [hlx]; rfl
                  have e4 : ern l = 20 := by unfold ern; rw [hlx]; rfl
                  have e5 := lexM_err hlx
                  have HE := hide (fun W' hB => HPO.out W' none 0 0 nn ((a : Int) + 1) 20 (by rw [e5]; rfl) e3 e4 (by rw [e5]; exact .inl rfl) hB)
                  have h20' : ((ts.length : Int) == 2000) = true := by rw [h20]; rfl
                  clear hLe hlx e3 e4 e5 HPO htk h20
                  unfold tv
                  generalize S tok = su at *
                  go_wp2_with fail
                  go_region
                  all_goals go_wp2_with fail
                  all_goals exact bodyPost_ret (v := .tuple #[.slice none 0 0, .agg #[.int .i64 nn, .int .i64 ((a : Int) + 1)], .int .i64 20]) (by simp only [results, Tryd.results12]; go_simp) rfl (HE.out _ ((((HR3.out.below.setCell (by simp) _).setCell (by simp) _).alloc (by simp; omega) _).trans ⟨rfl, rfl, rfl, Nat.le_refl _, fun _ _ => rfl⟩))
                · have h20' : ((ts.length : Int) == 2000) = false := by rw [beq_eq_false_iff_ne]; omega
                  have h21 : ts.length + 1 ≤ 2000 := by omega
                  have HL2 : Hid (Left l (ts ++ [⟨x'.1, tok, x'.2, nn, (a : Int) + 1⟩]) nn (a + n) (k + n)) := by
                    show Left _ _ _ _ _
                    unfold Left
                    rw [hLe, ← List.drop_drop, hdk, List.append_assoc]; rfl
                  obtain ⟨i0, hi, hz0, hz1, hz2⟩ := info_parts info33
                  have R4 := HR3.out.keep ((Below.refl _ w3).alloc (Nat.le_refl _) (.cells #[.int .i64 x'.1, .string (S tok), .int .i64 x'.2, .int .i64 nn, .int .i64 ((a : Int) + 1)] 33))
                  have htr := row_lt HR3.out.row
                  have htA := Hold.new w3 #[.int .i64 x'.1, .string (S tok), .int .i64 x'.2, .int .i64 nn, .int .i64 ((a : Int) + 1)] 33
                  have hsz : (S tok).size = n := by rw [S_size, htkl]
                  have HR4 := hide R4
                  have n0 : Hid (some w.heap.size ≠ (Value.slice pa ts.length cp).ownBlock) := row_ne R4.h0 R4.row (by decide)
                  have n1 : Hid (some (w.heap.size + 1) ≠ (Value.slice pa ts.length cp).ownBlock) := row_ne R4.h1 R4.row (by decide)
                  have HTR := hide htr
                  have HTA := hide htA
                  have hb0 : w.heap.size ≤ w3.heap.size := by omega
                  clear hLe HPO htk h20 R4 htr htA
                  unfold tv
                  go_wp2_with (at_builtin; refine wpList_append_own _ rfl _ _ 24 rfl w.heap.size 33 i0 t0 5 48 Tryd.underlying24 hi hz0 hz1 hz2 rfl (by decide) _ _ _ rfl (HR4.out.row.alloc _) ⟨w3.heap.size + 1, 0, none⟩ 1 1 (tc ⟨x'.1, tok, x'.2, nn, (a : Int) + 1⟩) rfl rfl (by have := cell_five_new (w3.alloc (.cells #[.int .i64 x'.1, .string (S tok), .int .i64 x'.2, .int .i64 nn, .int .i64 ((a : Int) + 1)] 33)) (.int .i64 x'.1) (.string (S tok)) (.int .i64 x'.2) (.int .i64 nn) (.int .i64 ((a : Int) + 1)) 33; rw [World.size_alloc] at this; exact this) (by simp [Value.oneCell', tc]) (by unfold maxLen; omega) (by omega) (by simp; omega) ?_; intro v' w4 hown' hgrow _; obtain ⟨g', cap', rfl⟩ := ownsRow_succ hown'; have H0 : Hold w.heap.size #[.int .i64 0, .int .i64 0] 26 w4 := (hgrow.block _ (HR4.out.h0.alloc _).lt n0.out).trans (HR4.out.h0.alloc _); have H1 : Hold (w.heap.size + 1) #[.int .i64 nn, .int .i64 ((a : Int) + 1)] 26 w4 := (hgrow.block _ (HR4.out.h1.alloc _).lt n1.out).trans (HR4.out.h1.alloc _); have HT4 : Hold w3.heap.size #[.int .i64 x'.1, .string (S tok), .int .i64 x'.2, .int .i64 nn, .int .i64 ((a : Int) + 1)] 33 w4 := (hgrow.block _ (HTA.out.alloc _).lt HTR.out).trans (HTA.out.alloc _); have hBB := below_row (HR4.out.row.alloc _) (by simp; omega) hgrow; have R5 : Hid (RSt w (ts ++ [⟨x'.1, tok, x'.2, nn, (a : Int) + 1⟩]) nn ((a : Int) + 1) (.slice (some ⟨g', 0, none⟩) (ts.length + 1) cap') w4) := ⟨H0, H1, by rw [List.length_append, List.length_singleton, tcs_snoc]; exact hown', (HR4.out.below.alloc (by simp; omega) _).trans hBB⟩; have ct : w4.cell? ⟨w3.heap.size, 1, none⟩ = some (.string (S tok)) := HT4.cell 1; have d81 : w4.cell? ⟨w.heap.size + 1, 1, none⟩ = some (.int .i64 ((a : Int) + 1)) := H1.cell 1; have g81 := H1.frozen 1; clear H0 H1 HT4 hBB hown' hgrow)
                  go_roundw
                  case rel => exact ⟨k + n, a + n, nn, ts ++ [⟨x'.1, tok, x'.2, nn, (a : Int) + 1⟩], some ⟨g', 0, none⟩, cap', by go_num, by omega, by omega, by omega, by omega, by rw [List.length_append]; rfl, by rw [List.length_append]; simp; omega, by rw [List.length_append, List.length_singleton, show ((a + n : Nat) : Int) + 1 = (a : Int) + 1 + n by omega]; exact R5.out.col _, HL2.out⟩
                  case measure => simp [intOf]; omega
              · rw [htk] at hLe
                simp only [List.append_nil] at hLe
                have hlx : (lexM l).2 = some (nn, (a : Int) + 1) := by rw [lexM_O, hLe]; exact cap_of_bad hts rfl
                have e3 : plc l = (nn, (a : Int) + 1) := by unfold plc; rw [hlx]; rfl
                have e4 : ern l = 20 := by unfold ern; rw [hlx]; rfl
                have e5 := lexM_err hlx
                have HE := hide (fun W' hB => HPO.out W' none 0 0 nn ((a : Int) + 1) 20 (by rw [e5]; rfl) e3 e4 (by rw [e5]; exact .inl rfl) hB)
                clear hLe hlx e3 e4 e5 HPO htk
                unfold tv
                generalize S u = su at *
                go_wp2_with fail
                go_region
                all_goals go_wp2_with fail
                all_goals exact bodyPost_ret (v := .tuple #[.slice none 0 0, .agg #[.int .i64 nn, .int .i64 ((a : Int) + 1)], .int .i64 20]) (by simp only [results, Tryd.results12]; go_simp) rfl (HE.out _ ((((HR3.out.below.setCell (by simp) _).setCell (by simp) _).alloc (by simp; omega) _).trans ⟨rfl, rfl, rfl, Nat.le_refl _, fun _ _ => rfl⟩))
            · have hb45 : ((x.toNat : Int) == 45) = false := by
                rw [beq_eq_false_iff_ne]; intro h; exact h2 (by have := UInt8.toNat_inj (a := x) (b := 45); exact this.1 (by show x.toNat = 45; omega))
              go_wp2_with fail
              refine HT.out.mono ?_
              rintro e w3 ⟨hres, b3⟩
              have R3 := HR.out.keep b3
              clear c30 c31 c80 c81 f30 f31 f80 f81 HR HT b3 hgk hb10 hb32 hfr HFR HG cv hks
              have c30 : w3.cell? ⟨w.heap.size, 0, none⟩ = some (.int .i64 0) := R3.h0.cell 0
              have c31 : w3.cell? ⟨w.heap.size, 1, none⟩ = some (.int .i64 0) := R3.h0.cell 1
              have c80 : w3.cell? ⟨w.heap.size + 1, 0, none⟩ = some (.int .i64 nn) := R3.h1.cell 0
              have c81 : w3.cell? ⟨w.heap.size + 1, 1, none⟩ = some (.int .i64 ((a : Int) + 1)) := R3.h1.cell 1
              have f30 := R3.h0.frozen 0
              have f31 := R3.h0.frozen 1
              have f80 := R3.h1.frozen 0
              have f81 := R3.h1.frozen 1
              have l0 := R3.h0.lt
              have l1 := R3.h1.lt
              have z0 : ¬ w.heap.size = w3.heap.size := by omega
              have z1 : ¬ w.heap.size + 1 = w3.heap.size := by omega
              have HR3 := hide R3
              have hLe := HLE.out
              unfold Left at hLe
              rw [HTOK.out] at hLe
              clear R3 HTOK HLE HD
              generalize hdk : l.drop k = dk at *
              generalize dk.take (tl dk) = tok at *
              generalize tl dk = n at *
              rcases hres with ⟨x', htk, rfl⟩ | ⟨htk, u, x', rfl⟩
              · rw [htk] at hLe
                simp only at hLe
                by_cases h20 : ts.length = 2000
                · have hlx : (lexM l).2 = some (nn, (a : Int) + 1) := by
                    rw [lexM_O, hLe]
                    exact cap_of_over (t := ⟨x'.1, tok, x'.2, nn, (a : Int) + 1⟩) (by simp only; rw [List.getElem?_append_right (by omega), h20]; rfl)
                  have e3 : plc l = (nn, (a : Int) + 1) := by unfold plc; rw [hlx]; rfl
                  have e4 : ern l = 20 := by unfold ern; rw [hlx]; rfl
                  have e5 := lexM_err hlx
                  have HE := hide (fun W' hB => HPO.out W' none 0 0 nn ((a : Int) + 1) 20 (by rw [e5]; rfl) e3 e4 (by rw [e5]; exact .inl rfl) hB)
                  have h20' : ((ts.length : Int) == 2000) = true := by rw [h20]; rfl
                  clear hLe hlx e3 e4 e5 HPO htk h20
                  unfold tv
                  generalize S tok = su at *
                  go_wp2_with fail
                  go_region
                  all_goals go_wp2_with fail
                  all_goals exact bodyPost_ret (v := .tuple #[.slice none 0 0, .agg #[.int .i64 nn, .int .i64 ((a : Int) + 1)], .int .i64 20]) (by simp only [results, Tryd.results12]; go_simp) rfl (HE.out _ ((((HR3.out.below.setCell (by simp) _).setCell (by simp) _).alloc (by simp; omega) _).trans ⟨rfl, rfl, rfl, Nat.le_refl _, fun _ _ => rfl⟩))
                · have h20' : ((ts.length : Int) == 2000) = false := by rw [beq_eq_false_iff_ne]; omega
                  have h21 : ts.length + 1 ≤ 2000 := by omega
                  have HL2 : Hid (Left l (ts ++ [⟨x'.1, tok, x'.2, nn, (a : Int) + 1⟩]) nn (a + n) (k + n)) := by
                    show Left _ _ _ _ _
                    unfold Left
                    rw [hLe, ← List.drop_drop, hdk, List.append_assoc]; rfl
                  obtain ⟨i0, hi, hz0, hz1, hz2⟩ := info_parts info33
                  have R4 := HR3.out.keep ((Below.refl _ w3).alloc (Nat.le_refl _) (.cells #[.int .i64 x'.1, .string (S tok), .int .i64 x'.2, .int .i64 nn, .int .i64 ((a : Int) + 1)] 33))
                  have htr := row_lt HR3.out.row
                  have htA := Hold.new w3 #[.int .i64 x'.1, .string (S tok), .int .i64 x'.2, .int .i64 nn, .int .i64 ((a : Int) + 1)] 33
                  have hsz : (S tok).size = n := by rw [S_size, htkl]
                  have HR4 := hide R4
                  have n0 : Hid (some w.heap.size ≠ (Value.slice pa ts.length cp).ownBlock) := row_ne R4.h0 R4.row (by decide)
                  have n1 : Hid (some (w.heap.size + 1) ≠ (Value.slice pa ts.length cp).ownBlock) := row_ne R4.h1 R4.row (by decide)
                  have HTR := hide htr
                  have HTA := hide htA
                  have hb0 : w.heap.size ≤ w3.heap.size := by omega
                  clear hLe HPO htk h20 R4 htr htA
                  unfold tv
                  go_wp2_with (at_builtin; refine wpList_append_own _ rfl _ _ 24 rfl w.heap.size 33 i0 t0 5 48 Tryd.underlying24 hi hz0 hz1 hz2 rfl (by decide) _ _ _ rfl (HR4.out.row.alloc _) ⟨w3.heap.size + 1, 0, none⟩ 1 1 (tc ⟨x'.1, tok, x'.2, nn, (a : Int) + 1⟩) rfl rfl (by have := cell_five_new (w3.alloc (.cells #[.int .i64 x'.1, .string (S tok), .int .i64 x'.2, .int .i64 nn, .int .i64 ((a : Int) + 1)] 33)) (.int .i64 x'.1) (.string (S tok)) (.int .i64 x'.2) (.int .i64 nn) (.int .i64 ((a : Int) + 1)) 33; rw [World.size_alloc] at this; exact this) (by simp [Value.oneCell', tc]) (by unfold maxLen; omega) (by omega) (by simp; omega) ?_; intro v' w4 hown' hgrow _; obtain ⟨g', cap', rfl⟩ := ownsRow_succ hown'; have H0 : Hold w.heap.size #[.int .i64 0, .int .i64 0] 26 w4 := (hgrow.block _ (HR4.out.h0.alloc _).lt n0.out).trans (HR4.out.h0.alloc _); have H1 : Hold (w.heap.size + 1) #[.int .i64 nn, .int .i64 ((a : Int) + 1)] 26 w4 := (hgrow.block _ (HR4.out.h1.alloc _).lt n1.out).trans (HR4.out.h1.alloc _); have HT4 : Hold w3.heap.size #[.int .i64 x'.1, .string (S tok), .int .i64 x'.2, .int .i64 nn, .int .i64 ((a : Int) + 1)] 33 w4 := (hgrow.block _ (HTA.out.alloc _).lt HTR.out).trans (HTA.out.alloc _); have hBB := below_row (HR4.out.row.alloc _) (by simp; omega) hgrow; have R5 : Hid (RSt w (ts ++ [⟨x'.1, tok, x'.2, nn, (a : Int) + 1⟩]) nn ((a : Int) + 1) (.slice (some ⟨g', 0, none⟩) (ts.length + 1) cap') w4) := ⟨H0, H1, by rw [List.length_append, List.length_singleton, tcs_snoc]; exact hown', (HR4.out.below.alloc (by simp; omega) _).trans hBB⟩; have ct : w4.cell? ⟨w3.heap.size, 1, none⟩ = some (.string (S tok)) := HT4.cell 1; have d81 : w4.cell? ⟨w.heap.size + 1, 1, none⟩ = some (.int .i64 ((a : Int) + 1)) := H1.cell 1; have g81 := H1.frozen 1; clear H0 H1 HT4 hBB hown' hgrow)
                  go_roundw
                  case rel => exact ⟨k + n, a + n, nn, ts ++ [⟨x'.1, tok, x'.2, nn, (a : Int) + 1⟩], some ⟨g', 0, none⟩, cap', by go_num, by omega, by omega, by omega, by omega, by rw [List.length_append]; rfl, by rw [List.length_append]; simp; omega, by rw [List.length_append, List.length_singleton, show ((a + n : Nat) : Int) + 1 = (a : Int) + 1 + n by omega]; exact R5.out.col _, HL2.out⟩
                  case measure => simp [intOf]; omega
              · rw [htk] at hLe
                simp only [List.append_nil] at hLe
                have hlx : (lexM l).2 = some (nn, (a : Int) + 1) := by rw [lexM_O, hLe]; exact cap_of_bad hts rfl
                have e3 : plc l = (nn, (a : Int) + 1) := by unfold plc; rw [hlx]; rfl
                have e4 : ern l = 20 := by unfold ern; rw [hlx]; rfl
                have e5 := lexM_err hlx
                have HE := hide (fun W' hB => HPO.out W' none 0 0 nn ((a : Int) + 1) 20 (by rw [e5]; rfl) e3 e4 (by rw [e5]; exact .inl rfl) hB)
                clear hLe hlx e3 e4 e5 HPO htk
                unfold tv
                generalize S u = su at *
                go_wp2_with fail
                go_region
                all_goals go_wp2_with fail
                all_goals exact bodyPost_ret (v := .tuple #[.slice none 0 0, .agg #[.int .i64 nn, .int .i64 ((a : Int) + 1)], .int .i64 20]) (by simp only [results, Tryd.results12]; go_simp) rfl (HE.out _ ((((HR3.out.below.setCell (by simp) _).setCell (by simp) _).alloc (by simp; omega) _).trans ⟨rfl, rfl, rfl, Nat.le_refl _, fun _ _ => rfl⟩))
            · subst h2
              have hks1 : k + 1 < s.size := by omega
              have hgk1 := HG.out (k + 1) hks1 h1
              generalize l[k + 1] = y at *
              have hb45 : ((y.toNat : Int) == 45) = false := by
                rw [beq_eq_false_iff_ne]; intro h; exact h3 (by have := UInt8.toNat_inj (a := y) (b := 45); exact this.1 (by show y.toNat = 45; omega))
              go_wp2_with fail
              refine HT.out.mono ?_
              rintro e w3 ⟨hres, b3⟩
              have R3 := HR.out.keep b3
              clear c30 c31 c80 c81 f30 f31 f80 f81 HR HT b3 hgk hb10 hb32 hfr HFR HG cv hks
              have c30 : w3.cell? ⟨w.heap.size, 0, none⟩ = some (.int .i64 0) := R3.h0.cell 0
              have c31 : w3.cell? ⟨w.heap.size, 1, none⟩ = some (.int .i64 0) := R3.h0.cell 1
              have c80 : w3.cell? ⟨w.heap.size + 1, 0, none⟩ = some (.int .i64 nn) := R3.h1.cell 0
              have c81 : w3.cell? ⟨w.heap.size + 1, 1, none⟩ = some (.int .i64 ((a : Int) + 1)) := R3.h1.cell 1
              have f30 := R3.h0.frozen 0
              have f31 := R3.h0.frozen 1
              have f80 := R3.h1.frozen 0
              have f81 := R3.h1.frozen 1
              have l0 := R3.h0.lt
              have l1 := R3.h1.lt
              have z0 : ¬ w.heap.size = w3.heap.size := by omega
              have z1 : ¬ w.heap.size + 1 = w3.heap.size := by omega
              have HR3 := hide R3
              have hLe := HLE.out
              unfold Left at hLe
              rw [HTOK.out] at hLe
              clear R3 HTOK HLE HD
              generalize hdk : l.drop k = dk at *
              generalize dk.take (tl dk) = tok at *
              generalize tl dk = n at *
              rcases hres with ⟨x', htk, rfl⟩ | ⟨htk, u, x', rfl⟩
              · rw [htk] at hLe
                simp only at hLe
                by_cases h20 : ts.length = 2000
                · have hlx : (lexM l).2 = some (nn, (a : Int) + 1) := by
                    rw [lexM_O, hLe]
                    exact cap_of_over (t := ⟨x'.1, tok, x'.2, nn, (a : Int) + 1⟩) (by simp only; rw [List.getElem?_append_right (by omega), h20]; rfl)
                  have e3 : plc l = (nn, (a : Int) + 1) := by unfold plc; rw [hlx]; rfl
                  have e4 : ern l = 20 := by unfold ern; rw [hlx]; rfl
                  have e5 := lexM_err hlx
                  have HE := hide (fun W' hB => HPO.out W' none 0 0 nn ((a : Int) + 1) 20 (by rw [e5]; rfl) e3 e4 (by rw [e5]; exact .inl rfl) hB)
                  have h20' : ((ts.length : Int) == 2000) = true := by rw [h20]; rfl
                  clear hLe hlx e3 e4 e5 HPO htk h20
                  unfold tv
                  generalize S tok = su at *
                  go_wp2_with fail
                  go_region
                  all_goals go_wp2_with fail
                  all_goals exact bodyPost_ret (v := .tuple #[.slice none 0 0, .agg #[.int .i64 nn, .int .i64 ((a : Int) + 1)], .int .i64 20]) (by simp only [results, Tryd.results12]; go_simp) rfl (HE.out _ ((((HR3.out.below.setCell (by simp) _).setCell (by simp) _).alloc (by simp; omega) _).trans ⟨rfl, rfl, rfl, Nat.le_refl _, fun _ _ => rfl⟩))
                · have h20' : ((ts.length : Int) == 2000) = false := by rw [beq_eq_false_iff_ne]; omega
                  have h21 : ts.length + 1 ≤ 2000 := by omega
                  have HL2 : Hid (Left l (ts ++ [⟨x'.1, tok, x'.2, nn, (a : Int) + 1⟩]) nn (a + n) (k + n)) := by
                    show Left _ _ _ _ _
                    unfold Left
                    rw [hLe, ← List.drop_drop, hdk, List.append_assoc]; rfl
                  obtain ⟨i0, hi, hz0, hz1, hz2⟩ := info_parts info33
                  have R4 := HR3.out.keep ((Below.refl _ w3).alloc (Nat.le_refl _) (.cells #[.int .i64 x'.1, .string (S tok), .int .i64 x'.2, .int .i64 nn, .int .i64 ((a : Int) + 1)] 33))
                  have htr := row_lt HR3.out.row
                  have htA := Hold.new w3 #[.int .i64 x'.1, .string (S tok), .int .i64 x'.2, .int .i64 nn, .int .i64 ((a : Int) + 1)] 33
                  have hsz : (S tok).size = n := by rw [S_size, htkl]
                  have HR4 := hide R4
                  have n0 : Hid (some w.heap.size ≠ (Value.slice pa ts.length cp).ownBlock) := row_ne R4.h0 R4.row (by decide)
                  have n1 : Hid (some (w.heap.size + 1) ≠ (Value.slice pa ts.length cp).ownBlock) := row_ne R4.h1 R4.row (by decide)
                  have HTR := hide htr
                  have HTA := hide htA
                  have hb0 : w.heap.size ≤ w3.heap.size := by omega
                  clear hLe HPO htk h20 R4 htr htA
                  unfold tv
                  go_wp2_with (at_builtin; refine wpList_append_own _ rfl _ _ 24 rfl w.heap.size 33 i0 t0 5 48 Tryd.underlying24 hi hz0 hz1 hz2 rfl (by decide) _ _ _ rfl (HR4.out.row.alloc _) ⟨w3.heap.size + 1, 0, none⟩ 1 1 (tc ⟨x'.1, tok, x'.2, nn, (a : Int) + 1⟩) rfl rfl (by have := cell_five_new (w3.alloc (.cells #[.int .i64 x'.1, .string (S tok), .int .i64 x'.2, .int .i64 nn, .int .i64 ((a : Int) + 1)] 33)) (.int .i64 x'.1) (.string (S tok)) (.int .i64 x'.2) (.int .i64 nn) (.int .i64 ((a : Int) + 1)) 33; rw [World.size_alloc] at this; exact this) (by simp [Value.oneCell', tc]) (by unfold maxLen; omega) (by omega) (by simp; omega) ?_; intro v' w4 hown' hgrow _; obtain ⟨g', cap', rfl⟩ := ownsRow_succ hown'; have H0 : Hold w.heap.size #[.int .i64 0, .int .i64 0] 26 w4 := (hgrow.block _ (HR4.out.h0.alloc _).lt n0.out).trans (HR4.out.h0.alloc _); have H1 : Hold (w.heap.size + 1) #[.int .i64 nn, .int .i64 ((a : Int) + 1)] 26 w4 := (hgrow.block _ (HR4.out.h1.alloc _).lt n1.out).trans (HR4.out.h1.alloc _); have HT4 : Hold w3.heap.size #[.int .i64 x'.1, .string (S tok), .int .i64 x'.2, .int .i64 nn, .int .i64 ((a : Int) + 1)] 33 w4 := (hgrow.block _ (HTA.out.alloc _).lt HTR.out).trans (HTA.out.alloc _); have hBB := below_row (HR4.out.row.alloc _) (by simp; omega) hgrow; have R5 : Hid (RSt w (ts ++ [⟨x'.1, tok, x'.2, nn, (a : Int) + 1⟩]) nn ((a : Int) + 1) (.slice (some ⟨g', 0, none⟩) (ts.length + 1) cap') w4) := ⟨H0, H1, by rw [List.length_append, List.length_singleton, tcs_snoc]; exact hown', (HR4.out.below.alloc (by simp; omega) _).trans hBB⟩; have ct : w4.cell? ⟨w3.heap.size, 1, none⟩ = some (.string (S tok)) := HT4.cell 1; have d81 : w4.cell? ⟨w.heap.size + 1, 1, none⟩ = some (.int .i64 ((a : Int) + 1)) := H1.cell 1; have g81 := H1.frozen 1; clear H0 H1 HT4 hBB hown' hgrow)
                  go_roundw
                  case rel => exact ⟨k + n, a + n, nn, ts ++ [⟨x'.1, tok, x'.2, nn, (a : Int) + 1⟩], some ⟨g', 0, none⟩, cap', by go_num, by omega, by omega, by omega, by omega, by rw [List.length_append]; rfl, by rw [List.length_append]; simp; omega, by rw [List.length_append, List.length_singleton, show ((a + n : Nat) : Int) + 1 = (a : Int) + 1 + n by omega]; exact R5.out.col _, HL2.out⟩
                  case measure => simp [intOf]; omega
              · rw [htk] at hLe
                simp only [List.append_nil] at hLe
                have hlx : (lexM l).2 = some (nn, (a : Int) + 1) := by rw [lexM_O, hLe]; exact cap_of_bad hts rfl
                have e3 : plc l = (nn, (a : Int) + 1) := by unfold plc; rw [hlx]; rfl
                have e4 : ern l = 20 := by unfold ern; rw [hlx]; rfl
                have e5 := lexM_err hlx
                have HE := hide (fun W' hB => HPO.out W' none 0 0 nn ((a : Int) + 1) 20 (by rw [e5]; rfl) e3 e4 (by rw [e5]; exact .inl rfl) hB)
                clear hLe hlx e3 e4 e5 HPO htk
                unfold tv
                generalize S u = su at *
                go_wp2_with fail
                go_region
                all_goals go_wp2_with fail
                all_goals exact bodyPost_ret (v := .tuple #[.slice none 0 0, .agg #[.int .i64 nn, .int .i64 ((a : Int) + 1)], .int .i64 20]) (by simp only [results, Tryd.results12]; go_simp) rfl (HE.out _ ((((HR3.out.below.setCell (by simp) _).setCell (by simp) _).alloc (by simp; omega) _).trans ⟨rfl, rfl, rfl, Nat.le_refl _, fun _ _ => rfl⟩))
    · have hke : k = m := by omega
      have hLe := HLE.out
      unfold Left at hLe
      rw [List.drop_eq_nil_of_le (by omega), rawO_nil] at hLe
      simp only [List.append_nil] at hLe
      have hlx : lexM l = (ts, none) := by rw [lexM_O, hLe]; exact cap_of_ok hts rfl
      have e3 : plc l = (0, 0) := by unfold plc; rw [hlx]; rfl
      have e4 : ern l = 0 := by unfold ern; rw [hlx]; rfl
      obtain ⟨r1, r2⟩ := HR.out.res (.int .i64 0) (.int .i64 0)
      have hTM := (row_tmem r1).1
      have e5 : (lexM l).1.length = ts.length := by rw [hlx]
      rw [show ts = (lexM l).1 by rw [hlx]] at hTM
      have HEND := hide (HPO.out _ pa _ cp 0 0 0 e5 e3 e4 hTM r2)
      clear hLe hlx e3 e4 e5 hTM HLE HPO r1 r2
      go_wp2_with fail
      exact bodyPost_ret (v := .tuple #[.slice pa ts.length cp, .agg #[.int .i64 0, .int .i64 0], .int .i64 0]) (by simp only [results, Tryd.results12]; go_simp) rfl HEND.out
end Go.Proofs.YtnajffpllhckkaaDoor
