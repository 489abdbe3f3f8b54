/-
  THE WALK OF lex.Text.
-/
import Derived.Test.YtnifnbndkbmdcaaDoorBuilder
namespace Go.Proofs.YtnifnbndkbmdcaaDoor
open Go.RowKit
set_option linter.unusedVariables false

theorem txt_snoc (ts : List Tok) (t : Tok) : txt (ts ++ [t]) = if ts = [] then t.tx else (txt ts ++ [32]) ++ t.tx := by
  cases ts with
  | nil => simp [txt]
  | cons a r => simp [txt]
theorem txt_take (ts : List Tok) (k : Nat) (h : k < ts.length) : txt (ts.take (k + 1)) = if k = 0 then ts[k].tx else (txt (ts.take k) ++ [32]) ++ ts[k].tx := by
  rw [List.take_succ_eq_append_getElem h, txt_snoc]
  by_cases hk : k = 0
  · subst hk; simp
  · rw [if_neg hk, if_neg]; intro e; have := congrArg List.length e; rw [List.length_take, List.length_nil] at this; omega
theorem txt_len (ts : List Tok) (k : Nat) : (txt (ts.take k)).length ≤ (txt ts).length := by
  cases ts with
  | nil => simp [txt]
  | cons a r =>
    cases k with
    | zero => simp [txt]
    | succ k =>
      simp only [List.take_succ_cons, txt, List.length_append]
      have : (List.flatMap (fun u => 32 :: u.tx) (r.take k)).length ≤ (List.flatMap (fun u => 32 :: u.tx) r).length := by
        conv => rhs; rw [← List.take_append_drop k r]
        rw [List.flatMap_append, List.length_append]; omega
      omega
theorem isb_alloc {B b : Nat} {bs : List Value} {w : World} (h : Lib.IsBuilder 68 5 B b bs w) (o : Obj) : Lib.IsBuilder 68 5 B b bs (w.alloc o) := by
  have hx : ∀ {p : Value}, Lib.BuilderAt 68 5 B b p bs w → Lib.BuilderAt 68 5 B b p bs (w.alloc o) := fun ⟨hB, v, hb, ho, hne⟩ => ⟨hB, v, (Below.heap_alloc _ _ _ (Array.getElem?_eq_some_iff.1 hb).1).trans hb, ho.alloc o, hne⟩
  exact h.elim (fun h => .inl (hx h)) (fun h => .inr (hx h))
theorem write32 (B b : Nat) (bs : List UInt8) (w : World) (h : Lib.IsBuilder 68 5 B b (bs.map cl) w) (hlen : bs.length + 1 ≤ 140737488355328) (hBw : B ≤ w.heap.size) :
    Calls Tryd.prog 34 #[.pointer (some ⟨b, 0, none⟩), .int .u8 32] w fun e w' => e = .returned .nilIface ∧ Lib.IsBuilder 68 5 B b ((bs ++ [32]).map cl) w' ∧ Below B w w' ∧ K5 w w' := writeByte_any B b bs 32 w h hlen hBw
set_option maxHeartbeats 1000000 in
theorem text_any (p : Option Addr) (m c : Nat) (ts : List Tok) (w : World) (hl : ts.length = m) (hm : m ≤ 2147483647) (hM : TMem w p ts) (hT : (txt ts).length ≤ 1099511627776) :
    Calls Tryd.prog 13 #[.slice p m c] w fun e w' => e = .returned (.string (S (txt ts))) ∧ Below w.heap.size w w' := by
  have I0 := Lib.fresh_isBuilder 68 5 w
  have B0 : Below w.heap.size w (w.alloc (.cells #[.pointer none, .slice none 0 0] 68)) := (Below.refl _ w).alloc (Nat.le_refl _) _
  go_enter Tryd.func13, Tryd.ntmps13
  go_wp2_with fail
  generalize w.alloc (.cells #[.pointer none, .slice none 0 0] 68) = w0 at *
  go_loopw [8] (fun i wr => ∃ k : Nat, k ≤ m ∧ i = .int .i64 k ∧ Lib.IsBuilder 68 5 w.heap.size w.heap.size ((txt (ts.take k)).map cl) wr ∧ Below w.heap.size w wr) (fun i _ => m - (intOf i).toNat)
  case atStart => exact ⟨0, Nat.zero_le _, rfl, I0, B0⟩
  case round =>
    obtain ⟨k, hk, rfl, hI, hB⟩ := hrel
    clear I0 B0
    have hBs := hB.size
    by_cases hlt : k < m
    · have MR := hM.below (Nat.le_refl _) hB
      rcases MR with he | ⟨b, o, rfl, hbb, hmm⟩
      · rw [he] at hl; simp at hl; omega
      · have hkt : k < ts.length := by omega
        obtain ⟨q0, q1, q2, q3, q4⟩ := hmm k ts[k] (by simp)
        have HTX := hide (txt_take ts k hkt)
        have HL1 := hide (txt_len ts k)
        have HL2 := hide (txt_len ts (k + 1))
        clear hmm
        generalize ts[k] = t at *
        have hI1 := isb_alloc hI (.cells #[.int .i64 t.kd, .string (S t.tx), .int .i64 t.nu, .int .i64 t.ln, .int .i64 t.co] 32)
        have hB1 : Below w.heap.size w (wr.alloc (.cells #[.int .i64 t.kd, .string (S t.tx), .int .i64 t.nu, .int .i64 t.ln, .int .i64 t.co] 32)) := hB.alloc hBs _
        have hT1 := Hold.new wr #[.int .i64 t.kd, .string (S t.tx), .int .i64 t.nu, .int .i64 t.ln, .int .i64 t.co] 32
        by_cases hk0 : k = 0
        · subst hk0
          simp only [Nat.zero_mul, Nat.add_zero] at q0 q1 q2 q3 q4
          have H1 : Hid (txt (ts.take (0 + 1)) = [] ++ t.tx) := by show txt (ts.take (0 + 1)) = [] ++ t.tx; rw [HTX.out, if_pos rfl, List.nil_append]
          have HW := hide (writeStr_any w.heap.size w.heap.size [] t.tx _ hI1 (by have := HL2.out; rw [H1.out] at this; simp at this; simp; omega) hB1.size)
          clear hI hI1
          go_wp2_with fail
          refine HW.out.mono ?_
          rintro e w' ⟨⟨nn, rfl⟩, hI2, hb2, _⟩
          go_wp2_with fail
          go_roundw
          case rel => exact ⟨1, by omega, rfl, by rw [H1.out]; exact hI2, hB1.trans hb2⟩
          case measure => simp [intOf]; omega
        · have hk0' : 0 < k := by omega
          have H1 : Hid (txt (ts.take (k + 1)) = (txt (ts.take k) ++ [32]) ++ t.tx) := by show txt (ts.take (k + 1)) = _; rw [HTX.out, if_neg hk0]
          have hl2 : (txt (ts.take k)).length + 1 + t.tx.length ≤ 1099511627776 := by have := HL2.out; rw [H1.out] at this; simp at this; omega
          have HW1 := hide (write32 w.heap.size w.heap.size (txt (ts.take k)) _ hI1 (by omega) hB1.size)
          clear hI hI1 hk0
          go_wp2_with fail
          refine HW1.out.mono ?_
          rintro e w2 ⟨rfl, hI2, hb2, hk2⟩
          have hT2 := hk2 _ _ _ hT1 (by decide) (by decide)
          have ct := hT2.cell 1
          have HW2 := hide (writeStr_any w.heap.size w.heap.size (txt (ts.take k) ++ [32]) t.tx _ hI2 (by rw [List.length_append, List.length_singleton]; omega) (hB1.trans hb2).size)
          go_wp2_with fail
          refine HW2.out.mono ?_
          rintro e w3 ⟨⟨nn, rfl⟩, hI3, hb3, _⟩
          go_wp2_with fail
          go_roundw
          case rel => exact ⟨k + 1, by omega, by go_num, by rw [H1.out]; exact hI3, (hB1.trans hb2).trans hb3⟩
          case measure => simp [intOf]; omega
    · go_wp2_with fail
      have HS := string_any w.heap.size w.heap.size (txt (ts.take k)) wr hI hBs
      refine HS.mono ?_
      rintro e w' ⟨rfl, hb'⟩
      clear HS
      go_wp2_with fail
      go_ret
      exact ⟨by rw [List.take_of_length_le (by omega)]; rfl, hB.trans hb'⟩
end Go.Proofs.YtnifnbndkbmdcaaDoor
