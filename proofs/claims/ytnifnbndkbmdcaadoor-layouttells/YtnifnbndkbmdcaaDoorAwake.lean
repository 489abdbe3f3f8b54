/-
  lex.Lex, told plainly; the calls at the head of every statement of layer 3.
-/
import Derived.Test.YtnifnbndkbmdcaaDoorText
import Derived.Test.YtnifnbndkbmdcaaDoorLay
namespace Go.Proofs.YtnifnbndkbmdcaaDoor
open Go.RowKit
set_option linter.unusedVariables false

def plc (l : List UInt8) : Int × Int := (lexM l).2.getD (0, 0)
def ern (l : List UInt8) : Int := if (lexM l).2.isSome then 20 else 0
/-- lex.Lex, told plainly. -/
theorem lex_told (p : Option Addr) (m c : Nat) (l : List UInt8) (w : World) (hl : l.length = m) (hm2 : m ≤ 2147483646) (hmc : m ≤ c) (hM : Mem w p l) (hp : p = none → c = 0) (hg : Glob w) :
    Calls Tryd.prog 12 #[.slice p m c] w fun e W' => ∃ pa cp, e = .returned (.tuple #[.slice pa (lexM l).1.length cp, .agg #[.int .i64 (plc l).1, .int .i64 (plc l).2], .int .i64 (ern l)]) ∧ TMem W' pa (lexM l).1 ∧ (lexM l).1.length ≤ cp ∧ Below w.heap.size w W' := by
  refine (lex_any p m c l w hl hm2 hmc hM hp hg).mono ?_
  rintro e W' ⟨v, a, b, k, rfl, hrow, hcase, hB⟩
  obtain ⟨pa, cp, rfl⟩ := slice_of hrow
  obtain ⟨h1, h2⟩ := row_tmem hrow
  have hcp : (lexM l).1.length ≤ cp := by
    rcases hrow.2 with ⟨hv, h0⟩ | ⟨g, cap, cur, hv, hb, hg, h1, _⟩
    · rw [h0]; exact Nat.zero_le _
    · cases hv; exact h1
  refine ⟨pa, cp, ?_, h1, hcp, hB⟩
  unfold plc ern
  rcases hcase with ⟨hn, rfl, rfl, rfl⟩ | ⟨hs, rfl⟩
  · rw [hn]; rfl
  · rw [hs]; rfl
theorem mem_const (w : World) (l : List UInt8) (C : Array Value) (fr : Nat × Nat) (hC : C = (l.map cl).toArray) : Mem (w.alloc (.cells C 5 fr)) (some ⟨w.heap.size, 0, none⟩) l := by
  refine .inr ⟨w.heap.size, 0, rfl, by simp, fun i x hx => ?_⟩
  rw [Nat.zero_add, World.cell?_alloc_mark, hC]
  simp [hx, cl]
def awS : List UInt8 := [102, 32, 61, 32, 100, 111, 10, 32, 32, 97, 10, 32, 32, 98, 10, 103, 32, 61, 32, 40, 100, 111, 32, 99, 41]
def awt : List Tok := [⟨2, [102], 0, 1, 1⟩, ⟨4, [61], 0, 1, 3⟩, ⟨4, [100, 111], 0, 1, 5⟩, ⟨2, [97], 0, 2, 3⟩, ⟨2, [98], 0, 3, 3⟩, ⟨2, [103], 0, 4, 1⟩, ⟨4, [61], 0, 4, 3⟩, ⟨4, [40], 0, 4, 5⟩, ⟨4, [100, 111], 0, 4, 6⟩, ⟨2, [99], 0, 4, 9⟩, ⟨4, [41], 0, 4, 10⟩]
theorem awS_lex : lexM awS = (awt, none) := by kernel_rfl
def awO : List UInt8 := [123, 32, 102, 32, 61, 32, 100, 111, 32, 123, 32, 97, 32, 59, 32, 98, 32, 125, 32, 59, 32, 103, 32, 61, 32, 40, 32, 100, 111, 32, 123, 32, 99, 32, 125, 32, 41, 32, 125]
theorem aw_lay : (layM awt).2 = ((0, 0), 0) ∧ txt (layM awt).1 = awO := ⟨by kernel_rfl, by kernel_rfl⟩
theorem aw_len : (layM awt).1.length = 19 := by kernel_rfl
theorem aw_one : layM [⟨4, [41], 0, 3, 4⟩] = ([], (3, 4), 30) := by kernel_rfl
theorem aw_call1 (w : World) (hg : Glob w) : Calls Tryd.prog 12 #[.slice (some ⟨w.heap.size, 0, none⟩) 25 25] (w.alloc (.cells #[.int .u8 102, .int .u8 32, .int .u8 61, .int .u8 32, .int .u8 100, .int .u8 111, .int .u8 10, .int .u8 32, .int .u8 32, .int .u8 97, .int .u8 10, .int .u8 32, .int .u8 32, .int .u8 98, .int .u8 10, .int .u8 103, .int .u8 32, .int .u8 61, .int .u8 32, .int .u8 40, .int .u8 100, .int .u8 111, .int .u8 32, .int .u8 99, .int .u8 41] 5 (25, 26))) fun e W' => ∃ pa cp, e = .returned (.tuple #[.slice pa 11 cp, .agg #[.int .i64 0, .int .i64 0], .int .i64 0]) ∧ TMem W' pa awt ∧ 11 ≤ cp ∧ Below (w.heap.size + 1) (w.alloc (.cells #[.int .u8 102, .int .u8 32, .int .u8 61, .int .u8 32, .int .u8 100, .int .u8 111, .int .u8 10, .int .u8 32, .int .u8 32, .int .u8 97, .int .u8 10, .int .u8 32, .int .u8 32, .int .u8 98, .int .u8 10, .int .u8 103, .int .u8 32, .int .u8 61, .int .u8 32, .int .u8 40, .int .u8 100, .int .u8 111, .int .u8 32, .int .u8 99, .int .u8 41] 5 (25, 26))) W' := by
  have h := lex_told (some ⟨w.heap.size, 0, none⟩) 25 25 awS _ rfl (by omega) (by omega) (mem_const w awS #[.int .u8 102, .int .u8 32, .int .u8 61, .int .u8 32, .int .u8 100, .int .u8 111, .int .u8 10, .int .u8 32, .int .u8 32, .int .u8 97, .int .u8 10, .int .u8 32, .int .u8 32, .int .u8 98, .int .u8 10, .int .u8 103, .int .u8 32, .int .u8 61, .int .u8 32, .int .u8 40, .int .u8 100, .int .u8 111, .int .u8 32, .int .u8 99, .int .u8 41] (25, 26) rfl) (fun h => by cases h) (hg.below (Nat.le_refl _) ((Below.refl _ w).alloc (Nat.le_refl _) _))
  have e1 : plc awS = (0, 0) := by unfold plc; rw [awS_lex]; rfl
  have e2 : ern awS = 0 := by unfold ern; rw [awS_lex]; rfl
  rw [e1, e2, awS_lex, World.size_alloc] at h
  exact h
theorem tm_one (W : World) (t : Tok) : TMem (W.alloc (.cells #[.int .i64 t.kd, .string (S t.tx), .int .i64 t.nu, .int .i64 t.ln, .int .i64 t.co] 32)) (some ⟨W.heap.size, 0, none⟩) [t] := by
  refine .inr ⟨W.heap.size, 0, rfl, by simp, fun i u hu => ?_⟩
  cases i with
  | zero => cases hu; simp only [Nat.zero_mul, Nat.add_zero, Nat.zero_add]; exact (TB.new W t).cells
  | succ i => cases hu
set_option maxRecDepth 20000 in
set_option maxHeartbeats 2000000 in
theorem awake_any (w : World) (hg : Glob w) : Calls Tryd.prog 8 #[] w fun e w' => e = .returned (.bool true) ∧ Below w.heap.size w w' := by
  have kc := fun (w : World) (C : Array Value) (n c : Nat) => Lib.run_convert_bytes_const (P := Tryd.prog) w 34 5 C n c Tryd.underlying34 Tryd.underlying5
  go_enter Tryd.func8, Tryd.ntmps8
  go_wp2_with fail
  refine (aw_call1 w hg).mono ?_
  rintro e w1 ⟨pa, cp, rfl, hT, hcp, hB1⟩
  have B1 : Below w.heap.size w w1 := ((Below.refl _ w).alloc (Nat.le_refl _) _).trans (hB1.mono (by omega))
  have z1 := B1.size
  clear hB1 kc
  go_wp2_with fail
  have hTa := hT.below (Nat.le_refl _) ((Below.refl _ w1).alloc (Nat.le_refl _) (.cells #[.int .i64 0, .int .i64 0] 25))
  have c2 := lay_any pa 11 cp awt _ rfl (by omega) hcp hTa
  rw [aw_lay.1, aw_len] at c2
  generalize hM : (layM awt).1 = M at *
  have hML : M.length = 19 := by rw [← hM]; exact aw_len
  have hMT : txt M = awO := by rw [← hM]; exact aw_lay.2
  clear hM
  refine c2.mono ?_
  rintro e w2 ⟨pb, cb, rfl, hT2, hB2⟩
  clear c2 hTa hT
  have B2 : Below w1.heap.size w1 w2 := below_next hB2
  have z2 := B2.size
  clear hB2
  go_wp2_with fail
  have P2 := Hold.new w2 #[.int .i64 0, .int .i64 0] 25
  have hT2a := hT2.below (Nat.le_refl _) ((Below.refl _ w2).alloc (Nat.le_refl _) (.cells #[.int .i64 0, .int .i64 0] 25))
  have c3 := lay_any none 0 0 [] (w2.alloc (.cells #[.int .i64 0, .int .i64 0] 25)) rfl (by omega) (by omega) (.inl rfl)
  rw [show layM [] = ([], (0, 0), 0) from rfl] at c3
  refine c3.mono ?_
  rintro e w3 ⟨pc, cc, rfl, _, hB3⟩
  have P3 := P2.below hB3 P2.lt
  have hT3 := hT2a.below (Nat.le_refl _) hB3
  have B3 : Below w2.heap.size w2 w3 := below_next hB3
  have z3 := B3.size
  have hlt3 := P3.lt
  clear c3 hT2a hT2 P2 hB3
  simp only [List.length_nil]
  go_wp2_with fail
  have c4 := lay_any (some ⟨w3.heap.size + 1, 0, none⟩) 1 1 [⟨4, [41], 0, 3, 4⟩] ((w3.alloc (.cells #[.int .i64 0, .int .i64 0] 25)).alloc (.cells #[.int .i64 4, .string ⟨#[41]⟩, .int .i64 0, .int .i64 3, .int .i64 4] 32)) rfl (by omega) (by omega) (by have := tm_one (w3.alloc (.cells #[.int .i64 0, .int .i64 0] 25)) ⟨4, [41], 0, 3, 4⟩; rw [World.size_alloc] at this; exact this)
  rw [aw_one] at c4
  refine c4.mono ?_
  rintro e w4 ⟨pd, cd, rfl, _, hB4⟩
  have B4 : Below w3.heap.size w3 w4 := below_next (below_next hB4)
  have z4 := B4.size
  have P4 := P3.below B4 P3.lt
  have hT4 := hT3.below (Nat.le_refl _) B4
  have hlt4 := P4.lt
  clear c4 hB4 hT3 P3
  have TX := hide (fun w h => text_any pb 19 cb M w hML (by omega) h (by rw [hMT]; decide))
  rw [hMT] at TX
  have hs := S_list awO
  generalize S awO = so at *
  unfold awO at hs
  have p0 : w4.cell? ⟨w2.heap.size, 0, none⟩ = some (.int .i64 0) := P4.cell 0
  have p1 : w4.cell? ⟨w2.heap.size, 1, none⟩ = some (.int .i64 0) := P4.cell 1
  simp only [List.length_nil]
  go_wp2_with fail
  have Q4 := Hold.new w4 #[.int .i64 3, .int .i64 4] 25
  have P5 := P4.alloc (.cells #[.int .i64 3, .int .i64 4] 25)
  refine (TX.out _ (hT4.below (Nat.le_refl _) ((Below.refl _ w4).alloc (Nat.le_refl _) _))).mono ?_
  rintro e w5 ⟨rfl, hB5⟩
  have P6 := P5.below hB5 P5.lt
  have Q6 := Q4.below hB5 Q4.lt
  have B5 : Below w4.heap.size w4 w5 := below_next hB5
  have p60 : w5.cell? ⟨w2.heap.size, 0, none⟩ = some (.int .i64 0) := P6.cell 0
  have p61 : w5.cell? ⟨w2.heap.size, 1, none⟩ = some (.int .i64 0) := P6.cell 1
  have q60 : w5.cell? ⟨w4.heap.size, 0, none⟩ = some (.int .i64 3) := Q6.cell 0
  have q61 : w5.cell? ⟨w4.heap.size, 1, none⟩ = some (.int .i64 4) := Q6.cell 1
  have BB : Below w.heap.size w w5 := B1.trans ((B2.mono z1).trans ((B3.mono (by omega)).trans ((B4.mono (by omega)).trans (B5.mono (by omega)))))
  clear hB5 p0 p1 TX P4 P5 Q4 B1 B2 B3 B4 B5
  go_wp2_with fail
  go_ret
  exact ⟨rfl, BB⟩
end Go.Proofs.YtnifnbndkbmdcaaDoor
