/-
  The calls at the head of every statement of layer 2: they return what the document fixes.
-/
import Derived.Test.YtnajffpllhckkaaDoorText
namespace Go.Proofs.YtnajffpllhckkaaDoor
open Go.RowKit
set_option linter.unusedVariables false

def plc (l : List UInt8) : Int × Int := (lexM l).2.getD (0, 0)
def ern (l : List UInt8) : Int := if (lexM l).2.isSome then 20 else 0
theorem tcs_len (ts : List Tok) : (tcs ts).length = ts.length * 5 := by
  induction ts with
  | nil => rfl
  | cons a r ih =>
    have e : tcs (a :: r) = tc a ++ tcs r := rfl
    have e5 : (tc a).length = 5 := rfl
    rw [e, List.length_append, ih, e5, List.length_cons]; omega
theorem row_tmem {W : World} {n₀ n c : Nat} {p : Option Addr} {ts : List Tok} (h : W.ownsRow n₀ 33 5 (.slice p n c) n (tcs ts)) : TMem W p ts ∧ ts.length = n := by
  have hlen := tcs_len ts
  have hn : ts.length = n := by have := h.1; omega
  refine ⟨?_, hn⟩
  rcases h.2 with ⟨hv, h0⟩ | ⟨g, cap, cur, hv, hb, hg, h1, h2, h3, h4⟩
  · left; exact List.length_eq_zero_iff.1 (by omega)
  · cases hv
    refine .inr ⟨g, 0, rfl, (Array.getElem?_eq_some_iff.1 hg).1, fun i t ht => ?_⟩
    have hi : i < ts.length := (List.getElem?_eq_some_iff.1 ht).1
    have key : ∀ (us : List Tok) (i : Nat) (t : Tok) (j : Nat), us[i]? = some t → j < 5 → (tcs us)[i * 5 + j]? = (tc t)[j]? := by
      intro us
      induction us with
      | nil => intro i t j ht; simp at ht
      | cons a r ih =>
        intro i t j ht hj
        have e : tcs (a :: r) = tc a ++ tcs r := rfl
        have e5 : (tc a).length = 5 := rfl
        cases i with
        | zero =>
          simp at ht; subst ht
          rw [e, Nat.zero_mul, Nat.zero_add, List.getElem?_append_left (by rw [e5]; exact hj)]
        | succ i =>
          rw [e, List.getElem?_append_right (by rw [e5]; omega), e5, show (i + 1) * 5 + j - 5 = i * 5 + j from by omega]
          exact ih i t j (by simpa using ht) hj
    have hx : ∀ j, j < 5 → W.cell? ⟨g, 0 + i * 5 + j, none⟩ = (tc t)[j]? := by
      intro j hj
      rw [← key ts i t j ht hj, ← h4, List.getElem?_take, if_pos (by omega)]
      simp only [World.cell?, hg, Nat.zero_add]
      rw [Array.getElem?_toList]; rfl
    exact ⟨hx 0 (by omega), hx 1 (by omega), hx 2 (by omega), hx 3 (by omega), hx 4 (by omega)⟩
/-- lex.Lex, told plainly. -/
theorem lex_told (p : Option Addr) (m c : Nat) (l : List UInt8) (w : World) (hl : l.length = m) (hm2 : m ≤ 2147483646) (hmc : m ≤ c) (hM : Mem w p l) (hp : p = none → c = 0) (hg : Glob w) :
    Calls Tryd.prog 11 #[.slice p m c] w fun e W' => ∃ pa cp, e = .returned (.tuple #[.slice pa (lexM l).1.length cp, .agg #[.int .i64 (plc l).1, .int .i64 (plc l).2], .int .i64 (ern l)]) ∧ TMem W' pa (lexM l).1 ∧ (lexM l).1.length ≤ cp ∧ Below w.heap.size w W' := by
  refine (lex_any p m c l w hl hm2 hmc hM hp hg).mono ?_
  rintro e W' ⟨v, a, b, k, rfl, hrow, hcase, hB⟩
  obtain ⟨pa, cp, rfl⟩ := slice_of hrow
  obtain ⟨h1, h2⟩ := row_tmem hrow
  have hcp : (lexM l).1.length ≤ cp := by
    rcases hrow.2 with ⟨hv, h0⟩ | ⟨g, cap, cur, hv, hb, hg, h1, _⟩
    · rw [h0]; exact Nat.zero_le _
    · cases hv; exact h1
  refine ⟨pa, cp, ?_, h1, hcp, hB⟩
  unfold plc ern
  rcases hcase with ⟨hn, rfl, rfl, rfl⟩ | ⟨hs, rfl⟩
  · rw [hn]; rfl
  · rw [hs]; rfl
theorem mem_const (w : World) (l : List UInt8) (C : Array Value) (fr : Nat × Nat) (hC : C = (l.map cl).toArray) : Mem (w.alloc (.cells C 5 fr)) (some ⟨w.heap.size, 0, none⟩) l := by
  refine .inr ⟨w.heap.size, 0, rfl, by simp, fun i x hx => ?_⟩
  rw [Nat.zero_add, World.cell?_alloc_mark, hC]
  simp [hx, cl]
def aw1 : List UInt8 := [102, 32, 61, 32, 92, 120, 45, 62, 49, 50, 10, 32, 45, 45, 32, 97, 10, 32, 66]
def aw2 : List UInt8 := [97, 10, 32, 32, 63]
def awt : List Tok := [⟨2, [102], 0, 1, 1⟩, ⟨4, [61], 0, 1, 3⟩, ⟨4, [92], 0, 1, 5⟩, ⟨2, [120], 0, 1, 6⟩, ⟨4, [45, 62], 0, 1, 7⟩, ⟨1, [49, 50], 12, 1, 9⟩, ⟨3, [66], 0, 3, 2⟩]
theorem aw1_lex : lexM aw1 = (awt, none) := by kernel_rfl
theorem aw2_lex : lexM aw2 = ([], some (2, 3)) := by kernel_rfl
theorem aw_call1 (w : World) (hg : Glob w) : Calls Tryd.prog 11 #[.slice (some ⟨w.heap.size, 0, none⟩) 19 19] (w.alloc (.cells #[.int .u8 102, .int .u8 32, .int .u8 61, .int .u8 32, .int .u8 92, .int .u8 120, .int .u8 45, .int .u8 62, .int .u8 49, .int .u8 50, .int .u8 10, .int .u8 32, .int .u8 45, .int .u8 45, .int .u8 32, .int .u8 97, .int .u8 10, .int .u8 32, .int .u8 66] 5 (19, 20))) fun e W' => ∃ pa cp, e = .returned (.tuple #[.slice pa 7 cp, .agg #[.int .i64 0, .int .i64 0], .int .i64 0]) ∧ TMem W' pa awt ∧ 7 ≤ cp ∧ Below (w.heap.size + 1) (w.alloc (.cells #[.int .u8 102, .int .u8 32, .int .u8 61, .int .u8 32, .int .u8 92, .int .u8 120, .int .u8 45, .int .u8 62, .int .u8 49, .int .u8 50, .int .u8 10, .int .u8 32, .int .u8 45, .int .u8 45, .int .u8 32, .int .u8 97, .int .u8 10, .int .u8 32, .int .u8 66] 5 (19, 20))) W' := by
  have h := lex_told (some ⟨w.heap.size, 0, none⟩) 19 19 aw1 _ rfl (by omega) (by omega) (mem_const w aw1 #[.int .u8 102, .int .u8 32, .int .u8 61, .int .u8 32, .int .u8 92, .int .u8 120, .int .u8 45, .int .u8 62, .int .u8 49, .int .u8 50, .int .u8 10, .int .u8 32, .int .u8 45, .int .u8 45, .int .u8 32, .int .u8 97, .int .u8 10, .int .u8 32, .int .u8 66] (19, 20) rfl) (fun h => by cases h) (hg.below (Nat.le_refl _) ((Below.refl _ w).alloc (Nat.le_refl _) _))
  have e1 : plc aw1 = (0, 0) := by unfold plc; rw [aw1_lex]; rfl
  have e2 : ern aw1 = 0 := by unfold ern; rw [aw1_lex]; rfl
  rw [e1, e2, aw1_lex, World.size_alloc] at h
  exact h
theorem aw_call2 (w : World) (hg : Glob w) : Calls Tryd.prog 11 #[.slice (some ⟨w.heap.size, 0, none⟩) 5 5] (w.alloc (.cells #[.int .u8 97, .int .u8 10, .int .u8 32, .int .u8 32, .int .u8 63] 5 (5, 6))) fun e W' => ∃ pa cp, e = .returned (.tuple #[.slice pa 0 cp, .agg #[.int .i64 2, .int .i64 3], .int .i64 20]) ∧ Below (w.heap.size + 1) (w.alloc (.cells #[.int .u8 97, .int .u8 10, .int .u8 32, .int .u8 32, .int .u8 63] 5 (5, 6))) W' := by
  have h := lex_told (some ⟨w.heap.size, 0, none⟩) 5 5 aw2 _ rfl (by omega) (by omega) (mem_const w aw2 #[.int .u8 97, .int .u8 10, .int .u8 32, .int .u8 32, .int .u8 63] (5, 6) rfl) (fun h => by cases h) (hg.below (Nat.le_refl _) ((Below.refl _ w).alloc (Nat.le_refl _) _))
  have e1 : plc aw2 = (2, 3) := by unfold plc; rw [aw2_lex]; rfl
  have e2 : ern aw2 = 20 := by unfold ern; rw [aw2_lex]; rfl
  rw [e1, e2, aw2_lex, World.size_alloc] at h
  refine h.mono ?_
  rintro e W' ⟨pa, cp, rfl, _, _, hB⟩
  exact ⟨pa, cp, rfl, hB⟩
theorem TMem.take {w : World} {p : Option Addr} {ts : List Tok} (h : TMem w p ts) (j : Nat) : TMem w p (ts.take j) := by
  rcases h with rfl | ⟨b, o, hp, hb, hm⟩
  · exact .inl (by simp)
  · exact .inr ⟨b, o, hp, hb, fun i t ht => by
      rw [List.getElem?_take] at ht
      split at ht
      · exact hm i t ht
      · cases ht⟩
theorem k1 (w : World) : Calls Tryd.prog 14 #[.string ⟨#[100, 111, 115]⟩] w fun e w' => e = .returned (.bool true) ∧ w' = w := key_any [100, 111, 115] w
theorem k2 (w : World) : Calls Tryd.prog 14 #[.string ⟨#[100]⟩] w fun e w' => e = .returned (.bool false) ∧ w' = w := key_any [100] w
theorem k3 (w : World) : Calls Tryd.prog 15 #[.string ⟨#[100]⟩] w fun e w' => e = .returned (.bool true) ∧ w' = w := name_any [100] w (by simp)
theorem k4 (w : World) : Calls Tryd.prog 15 #[.string ⟨#[111, 102]⟩] w fun e w' => e = .returned (.bool false) ∧ w' = w := name_any [111, 102] w (by simp)
theorem k5 (w : World) : Calls Tryd.prog 16 #[.string ⟨#[66]⟩] w fun e w' => e = .returned (.bool true) ∧ w' = w := con_any [66] w (by simp)
theorem k6 (w : World) : Calls Tryd.prog 16 #[.string ⟨#[98]⟩] w fun e w' => e = .returned (.bool false) ∧ w' = w := con_any [98] w (by simp)
theorem conv1 (w : World) (X : Obj) (C : Array Value) (n c : Nat) : (convert 22 22 (.slice (some ⟨w.heap.size + 1, 0, none⟩) n c)).run Tryd.prog ((w.alloc X).alloc (.cells C 5)) = .ok (.slice (some ⟨w.heap.size + 1, 0, none⟩) n c) ((w.alloc X).alloc (.cells C 5 (C.size, C.size + 1))) := by
  have h := Lib.run_convert_bytes_const (P := Tryd.prog) (w.alloc X) 22 5 C n c Tryd.underlying22 Tryd.underlying5
  rw [World.size_alloc] at h
  exact h
set_option maxRecDepth 20000 in
set_option maxHeartbeats 2000000 in
theorem awake_any (w : World) (hg : Glob w) : Calls Tryd.prog 10 #[] w fun e w' => e = .returned (.bool true) ∧ Below w.heap.size w w' := by
  have kc := fun (w : World) (C : Array Value) (n c : Nat) => Lib.run_convert_bytes_const (P := Tryd.prog) w 22 5 C n c Tryd.underlying22 Tryd.underlying5
  go_enter Tryd.func10, Tryd.ntmps10
  go_wp2_with fail
  refine (aw_call1 w hg).mono ?_
  rintro e w1 ⟨pa, cp, rfl, hT, hcp, hB1⟩
  have B1 : Below w.heap.size w w1 := ((Below.refl _ w).alloc (Nat.le_refl _) _).trans (hB1.mono (by omega))
  have g1 : Glob w1 := hg.below (Nat.le_refl _) B1
  have z1 := B1.size
  have kc1 := conv1 w1
  clear hB1 kc
  go_wp2_with fail
  have h2 := aw_call2 (w1.alloc (.cells #[.int .i64 0, .int .i64 0] 26)) (g1.below (Nat.le_refl _) ((Below.refl _ w1).alloc (Nat.le_refl _) _))
  rw [World.size_alloc] at h2
  refine h2.mono ?_
  rintro e w2 ⟨pa2, cp2, rfl, hB2⟩
  clear h2 kc1
  have P2 : Hold w1.heap.size #[.int .i64 0, .int .i64 0] 26 w2 := (hB2.block _ (by omega)).trans ((Hold.new w1 #[.int .i64 0, .int .i64 0] 26).alloc _)
  have B2 : Below w1.heap.size w1 w2 := (((Below.refl _ w1).alloc (Nat.le_refl _) _).alloc (by simp) _).trans (hB2.mono (by omega))
  have hT2 := hT.below (Nat.le_refl _) B2
  have hl2 := P2.lt
  have p0 : w2.cell? ⟨w1.heap.size, 0, none⟩ = some (.int .i64 0) := P2.cell 0
  have p1 : w2.cell? ⟨w1.heap.size, 1, none⟩ = some (.int .i64 0) := P2.cell 1
  clear hB2 hT
  rcases hT2 with he | ⟨b, o, rfl, hb, hm⟩
  · exact absurd he (by unfold awt; simp)
  · obtain ⟨a0, a1, a2, a3, a4⟩ := hm 0 _ rfl
    obtain ⟨d0, d1, d2, d3, d4⟩ := hm 4 _ rfl
    obtain ⟨e0, e1, e2, e3, e4⟩ := hm 5 _ rfl
    obtain ⟨f0, f1, f2, f3, f4⟩ := hm 6 _ rfl
    simp only [Nat.zero_mul, Nat.add_zero, Nat.reduceMul, Nat.add_assoc, Nat.reduceAdd] at a0 a1 a2 a3 a4 d0 d1 d2 d3 d4 e0 e1 e2 e3 e4 f0 f1 f2 f3 f4
    have s1 : (S [102]).toList = [102] := S_list _
    have s2 : (S [45, 62]).toList = [45, 62] := S_list _
    have s3 : (S [49, 50]).toList = [49, 50] := S_list _
    have s4 : (S [66]).toList = [66] := S_list _
    have HM := hide hm
    clear hm
    have T2 : TMem (w2.alloc (.cells #[.int .i64 2, .int .i64 3] 26)) (some ⟨b, o, none⟩) (awt.take 2) := TMem.below (TMem.take (.inr ⟨b, o, rfl, hb, HM.out⟩) 2) (Nat.le_refl _) ((Below.refl _ w2).alloc (Nat.le_refl _) _)
    have HX := hide (text_any (some ⟨b, o, none⟩) 2 cp (awt.take 2) _ rfl (by omega) T2 (by decide))
    rw [show txt (awt.take 2) = [102, 32, 61] from rfl] at HX
    have s5 : (S [102, 32, 61]).toList = [102, 32, 61] := S_list _
    clear T2
    go_wp2_with fail
    refine HX.out.mono ?_
    rintro e w3 ⟨rfl, hB3⟩
    have B3 : Below w.heap.size w w3 := B1.trans ((B2.mono z1).trans (((Below.refl _ w2).alloc (Nat.le_trans z1 B2.size) _).trans (hB3.mono (by have := B2.size; simp; omega))))
    clear hB3 HX
    go_wp2_with fail
    refine (k1 _).mono ?_; rintro e w' ⟨rfl, rfl⟩
    go_wp2_with fail
    refine (k2 _).mono ?_; rintro e w' ⟨rfl, rfl⟩
    go_wp2_with fail
    refine (k3 _).mono ?_; rintro e w' ⟨rfl, rfl⟩
    go_wp2_with fail
    refine (k4 _).mono ?_; rintro e w' ⟨rfl, rfl⟩
    go_wp2_with fail
    refine (k5 _).mono ?_; rintro e w' ⟨rfl, rfl⟩
    go_wp2_with fail
    refine (k6 _).mono ?_; rintro e w' ⟨rfl, rfl⟩
    go_wp2_with fail
    go_ret
    exact ⟨rfl, B3⟩
end Go.Proofs.YtnajffpllhckkaaDoor
