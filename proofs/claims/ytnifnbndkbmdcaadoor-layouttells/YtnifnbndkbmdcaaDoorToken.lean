/-
  THE WALK OF lex.token, over strconv.ParseInt of digits.
-/
import Derived.Test.YtnifnbndkbmdcaaDoorEndSign
import Derived.Lib.ConvBytes
namespace Go.Proofs.YtnifnbndkbmdcaaDoor
open Go.RowKit
set_option linter.unusedVariables false

def nvA (a : Nat) (l : List UInt8) : Nat := l.foldl (fun n c => n * 10 + (c.toNat - 48)) a
theorem nvA_ge : ∀ (l : List UInt8) (a : Nat), a ≤ nvA a l
  | [], a => Nat.le_refl _
  | c :: r, a => by have := nvA_ge r (a * 10 + (c.toNat - 48)); unfold nvA at *; simp only [List.foldl_cons]; omega
theorem dg_iff (c : UInt8) : dg c = true ↔ 48 ≤ c.toNat ∧ c.toNat ≤ 57 := by unfold dg; simp; omega
theorem puM : ∀ (l : List UInt8) (a : Nat), l.all dg = true → Lib.parseUintM 18446744073709551615 a l = if nvA a l ≤ 18446744073709551615 ∨ l = [] then .ok (nvA a l) else .range
  | [], a, _ => by simp [Lib.parseUintM, nvA]
  | c :: r, a, h => by
    simp only [List.all_cons, Bool.and_eq_true] at h
    have hc := (dg_iff c).1 h.1
    have hg := nvA_ge r (a * 10 + (c.toNat - 48))
    have e : nvA a (c :: r) = nvA (a * 10 + (c.toNat - 48)) r := rfl
    simp only [Lib.parseUintM, if_pos hc, e]
    split
    · rw [if_neg]; simp; omega
    · split
      · rw [if_neg]; simp; omega
      · rw [puM r _ h.2]
        by_cases hr : r = []
        · have e2 : nvA (a * 10 + (c.toNat - 48)) r = a * 10 + (c.toNat - 48) := by rw [hr]; rfl
          rw [e2]; rw [if_pos (Or.inr hr), if_pos (Or.inl (by omega))]
        · simp only [hr, or_false]; simp
theorem piB (l : List UInt8) (h0 : l ≠ []) (h : l.all dg = true) : Lib.parseIntB 64 l = if nv l ≤ big then .ok (nv l : Int) else .range := by
  cases l with
  | nil => exact absurd rfl h0
  | cons c r =>
    have hc := h
    simp only [List.all_cons, Bool.and_eq_true] at hc
    have hd := (dg_iff c).1 hc.1
    have e : nv (c :: r) = nvA 0 (c :: r) := rfl
    have h1 : ¬ (c.toNat = 43 ∨ c.toNat = 45) := by omega
    have h2 : ¬ c.toNat = 45 := by omega
    simp only [Lib.parseIntB, Lib.parseUintB, if_neg h1]
    rw [if_neg (by simp), show (2 ^ 64 - 1 : Nat) = 18446744073709551615 from rfl, puM _ 0 h, e]
    generalize nvA 0 (c :: r) = v
    unfold big
    by_cases hv : v ≤ 18446744073709551615
    · rw [if_pos (.inl hv)]
      by_cases hb : v ≤ 9223372036854775807
      · simp only [h2, hb, if_true]
        rw [if_neg (by simp; omega), if_neg (by simp)]
        simp
      · rw [if_neg hb]
        simp only [h2]
        rw [if_pos (by simp; omega)]
    · rw [if_neg (by simp; omega), if_neg (by omega)]

/-- strconv.ErrRange holds an error. -/
def Glob (w : World) : Prop := 2 < w.heap.size ∧ ∃ te pe, w.cell? ⟨2, 0, none⟩ = some (.iface te pe)
theorem Glob.below {w w' : World} {n : Nat} (h : Glob w) (hn : w.heap.size ≤ n) (hb : Below n w w') : Glob w' := by
  obtain ⟨h1, te, pe, h2⟩ := h
  exact ⟨Nat.lt_of_lt_of_le h1 hb.size, te, pe, (hb.cell (p := ⟨2, 0, none⟩) (Nat.lt_of_lt_of_le h1 hn)).trans h2⟩
theorem parse_ok (l : List UInt8) (h0 : l ≠ []) (hl : l.length ≤ 2147483647) (h : l.all dg = true) (hb : nv l ≤ big) (w : World) :
    Calls Tryd.prog 51 #[.string (S l), .int .i64 10, .int .i64 64] w fun e w' => e = .returned (.tuple #[.int .i64 (nv l), .nilIface]) ∧ Below w.heap.size w w' := by
  refine (Tryd.strconv_ParseInt_10_at64_ok (S l) (by rw [S_size]; omega) (nv l) (by rw [S_data, piB l h0 h, if_pos hb]) w).mono ?_
  rintro e w' ⟨rfl, hw⟩
  refine ⟨rfl, ?_⟩
  rcases hw with rfl | ⟨t, rfl⟩
  · exact Below.refl _ _
  · exact ⟨rfl, rfl, rfl, by rw [Lib.bytesWorld_size]; omega, fun k hk => Lib.bytesWorld_at_old _ _ _ k hk⟩
theorem parse_no (l : List UInt8) (h0 : l ≠ []) (hl : l.length ≤ 2147483647) (h : l.all dg = true) (hb : ¬ nv l ≤ big) (w : World) (hg : Glob w) :
    Calls Tryd.prog 51 #[.string (S l), .int .i64 10, .int .i64 64] w fun e w' => ∃ v N, e = .returned (.tuple #[.int .i64 v, .iface 103 (.pointer (some ⟨N, 0, none⟩))]) ∧ Below w.heap.size w w' := by
  obtain ⟨h1, te, pe, h2⟩ := hg
  refine (Tryd.strconv_ParseInt_10_at64_range (S l) (by rw [S_size]; omega) (by rw [S_data, piB l h0 h, if_neg hb]) (.iface te pe) w h2 (.inr ⟨te, pe, rfl⟩)).mono ?_
  rintro e w' ⟨N, rfl, _, _, hbl⟩
  exact ⟨_, N, rfl, hbl⟩

/-- A token as a value, without its place. -/
def tvx (l : List UInt8) (x : Int × Int) : Value := .agg #[.int .i64 x.1, .string (S l), .int .i64 x.2, .int .i64 0, .int .i64 0]
theorem bcell {n : Nat} {W w1 : World} (hb : Below n W w1) : (∀ b o, b < n → w1.cell? ⟨b, o, none⟩ = W.cell? ⟨b, o, none⟩) ∧ (∀ b o, b < n → w1.frozen? ⟨b, o, none⟩ = W.frozen? ⟨b, o, none⟩) :=
  ⟨fun b o h => hb.cell (p := ⟨b, o, none⟩) h, fun b o h => hb.frozen (p := ⟨b, o, none⟩) h⟩
set_option maxHeartbeats 1000000 in
theorem token_dig (x : UInt8) (r : List UInt8) (w : World) (hd : dg x = true) (hall : (x :: r).all dg = true) (hl : (x :: r).length ≤ 2147483647) (hb : nv (x :: r) ≤ big) :
    Calls Tryd.prog 32 #[.string (S (x :: r))] w fun e w' => e = .returned (.tuple #[tvx (x :: r) (1, (nv (x :: r) : Int)), .bool true]) ∧ Below w.heap.size w w' := by
  have HP := fun w => hide (parse_ok (x :: r) (by simp) hl hall hb w)
  have HG : ∀ h, (S (x :: r))[0]'h = x := fun h => rfl
  have HS := S_size (x :: r)
  have hz : 0 < (S (x :: r)).size := by rw [HS]; simp
  unfold tvx
  generalize S (x :: r) = s at *
  generalize (nv (x :: r) : Int) = v at *
  have HG' := hide HG
  have HP' := hide HP
  clear HS hall hb hl HG HP
  go_enter Tryd.func32, Tryd.ntmps32
  go_wp2_with fail
  rw [HG'.out]
  refine (digit_any _ _).mono ?_; rintro e w' ⟨rfl, rfl⟩; rw [hd]
  go_wp2_with fail
  refine (HP'.out _).out.mono ?_
  rintro e w' ⟨rfl, hbl⟩
  simp only [World.size_alloc] at hbl
  obtain ⟨hc, hf⟩ := bcell hbl
  have hz2 : w.heap.size + 1 < w'.heap.size := by have := hbl.size; simp at this; omega
  have HB : Hid (Below w.heap.size w w') := (((Below.refl _ w).alloc (Nat.le_refl _) _).alloc (by simp) _).trans (hbl.mono (by omega))
  go_wp2_with fail
  refine bodyPost_ret (v := .tuple #[.agg #[.int .i64 1, .string s, .int .i64 v, .int .i64 0, .int .i64 0], .bool true]) (by
    have k0 : w'.cell? ⟨w.heap.size, 0, none⟩ = some (.int .i64 0) := by rw [hc _ _ (by omega)]; simp
    have k1 : w'.cell? ⟨w.heap.size, 1, none⟩ = some (.string ⟨#[]⟩) := by rw [hc _ _ (by omega)]; simp
    have k2 : w'.cell? ⟨w.heap.size, 2, none⟩ = some (.int .i64 0) := by rw [hc _ _ (by omega)]; simp
    have k3 : w'.cell? ⟨w.heap.size, 3, none⟩ = some (.int .i64 0) := by rw [hc _ _ (by omega)]; simp
    have k4 : w'.cell? ⟨w.heap.size, 4, none⟩ = some (.int .i64 0) := by rw [hc _ _ (by omega)]; simp
    clear hc hf
    simp only [results, Tryd.results32]; go_simp) rfl ⟨rfl, ?_⟩
  exact ((((((HB.out.setCell (by simp) _).setCell (by simp) _).setCell (by simp) _).setCell (by simp) _).setCell (by simp) _).setCell (by simp) _).setCell (by simp) _
set_option maxHeartbeats 1000000 in
theorem token_over (x : UInt8) (r : List UInt8) (w : World) (hd : dg x = true) (hall : (x :: r).all dg = true) (hl : (x :: r).length ≤ 2147483647) (hb : ¬ nv (x :: r) ≤ big) (hg : Glob w) :
    Calls Tryd.prog 32 #[.string (S (x :: r))] w fun e w' => e = .returned (.tuple #[t0, .bool false]) ∧ Below w.heap.size w w' := by
  have HP := fun w h => hide (parse_no (x :: r) (by simp) hl hall hb w h)
  have HG : ∀ h, (S (x :: r))[0]'h = x := fun h => rfl
  have HS := S_size (x :: r)
  have hz : 0 < (S (x :: r)).size := by rw [HS]; simp
  unfold t0
  generalize S (x :: r) = s at *
  have HG' := hide HG
  have HP' := hide HP
  clear HS hall hb hl HG HP
  go_enter Tryd.func32, Tryd.ntmps32
  go_wp2_with fail
  rw [HG'.out]
  refine (digit_any _ _).mono ?_; rintro e w' ⟨rfl, rfl⟩; rw [hd]
  go_wp2_with fail
  refine (HP'.out _ (hg.below (Nat.le_refl _) (((Below.refl _ w).alloc (Nat.le_refl _) _).alloc (by simp) _))).out.mono ?_
  rintro e w' ⟨v, N, rfl, hbl⟩
  simp only [World.size_alloc] at hbl
  obtain ⟨hc, hf⟩ := bcell hbl
  have hz2 : w.heap.size + 1 < w'.heap.size := by have := hbl.size; simp at this; omega
  have HB : Hid (Below w.heap.size w w') := (((Below.refl _ w).alloc (Nat.le_refl _) _).alloc (by simp) _).trans (hbl.mono (by omega))
  go_wp2_with fail
  refine bodyPost_ret (v := .tuple #[.agg #[.int .i64 0, .string ⟨#[]⟩, .int .i64 0, .int .i64 0, .int .i64 0], .bool false]) (by
    have k0 : w'.cell? ⟨w.heap.size, 0, none⟩ = some (.int .i64 0) := by rw [hc _ _ (by omega)]; simp
    have k1 : w'.cell? ⟨w.heap.size, 1, none⟩ = some (.string ⟨#[]⟩) := by rw [hc _ _ (by omega)]; simp
    have k2 : w'.cell? ⟨w.heap.size, 2, none⟩ = some (.int .i64 0) := by rw [hc _ _ (by omega)]; simp
    have k3 : w'.cell? ⟨w.heap.size, 3, none⟩ = some (.int .i64 0) := by rw [hc _ _ (by omega)]; simp
    have k4 : w'.cell? ⟨w.heap.size, 4, none⟩ = some (.int .i64 0) := by rw [hc _ _ (by omega)]; simp
    clear hc hf
    simp only [results, Tryd.results32]; go_simp) rfl ⟨rfl, ?_⟩
  exact ((((HB.out.setCell (by simp) _).setCell (by simp) _).setCell (by simp) _).setCell (by simp) _).setCell (by simp) _
set_option maxHeartbeats 1000000 in
theorem token_key (x : UInt8) (r : List UInt8) (w : World) (hd : dg x = false) (hk : ky (x :: r) = true) :
    Calls Tryd.prog 32 #[.string (S (x :: r))] w fun e w' => e = .returned (.tuple #[tvx (x :: r) (4, 0), .bool true]) ∧ Below w.heap.size w w' := by
  have HG : ∀ h, (S (x :: r))[0]'h = x := fun h => rfl
  have HK := fun w => hide (key_any (x :: r) w)
  rw [hk] at HK
  have HS := S_size (x :: r)
  have hz : 0 < (S (x :: r)).size := by rw [HS]; simp
  unfold tvx
  generalize S (x :: r) = s at *
  have HG' := hide HG
  have HK' := hide HK
  clear HS hk HG HK
  go_enter Tryd.func32, Tryd.ntmps32
  go_wp2_with fail
  rw [HG'.out]
  refine (digit_any _ _).mono ?_; rintro e w' ⟨rfl, rfl⟩; rw [hd]
  go_wp2_with fail
  refine (HK'.out _).out.mono ?_; rintro e w' ⟨rfl, rfl⟩
  go_wp2_with fail
  refine bodyPost_ret (v := .tuple #[.agg #[.int .i64 4, .string s, .int .i64 0, .int .i64 0, .int .i64 0], .bool true]) (by simp [results, Tryd.results32, go_sem]) rfl ⟨rfl, ?_⟩
  exact ((Below.refl _ w).alloc (Nat.le_refl _) _).alloc (by simp) _
set_option maxHeartbeats 1000000 in
theorem token_name (x : UInt8) (r : List UInt8) (w : World) (hd : dg x = false) (hk : ky (x :: r) = false) (hl : (x :: r).length ≤ 2147483647) (hn : nm (x :: r) = true) :
    Calls Tryd.prog 32 #[.string (S (x :: r))] w fun e w' => e = .returned (.tuple #[tvx (x :: r) (2, 0), .bool true]) ∧ Below w.heap.size w w' := by
  have HG : ∀ h, (S (x :: r))[0]'h = x := fun h => rfl
  have HK := fun w => hide (key_any (x :: r) w)
  rw [hk] at HK
  have HN := fun w => hide (name_any (x :: r) w (by omega))
  rw [hn] at HN
  have HS := S_size (x :: r)
  have hz : 0 < (S (x :: r)).size := by rw [HS]; simp
  unfold tvx
  generalize S (x :: r) = s at *
  have HG' := hide HG
  have HK' := hide HK
  have HN' := hide HN
  clear HS hk HG HK hn HN
  go_enter Tryd.func32, Tryd.ntmps32
  go_wp2_with fail
  rw [HG'.out]
  refine (digit_any _ _).mono ?_; rintro e w' ⟨rfl, rfl⟩; rw [hd]
  go_wp2_with fail
  refine (HK'.out _).out.mono ?_; rintro e w' ⟨rfl, rfl⟩
  go_wp2_with fail
  refine (HN'.out _).out.mono ?_; rintro e w' ⟨rfl, rfl⟩
  go_wp2_with fail
  refine bodyPost_ret (v := .tuple #[.agg #[.int .i64 2, .string s, .int .i64 0, .int .i64 0, .int .i64 0], .bool true]) (by simp [results, Tryd.results32, go_sem]) rfl ⟨rfl, ?_⟩
  exact ((Below.refl _ w).alloc (Nat.le_refl _) _).alloc (by simp) _
set_option maxHeartbeats 1000000 in
theorem token_con (x : UInt8) (r : List UInt8) (w : World) (hd : dg x = false) (hk : ky (x :: r) = false) (hl : (x :: r).length ≤ 2147483647) (hn : nm (x :: r) = false) (hc : cn (x :: r) = true) :
    Calls Tryd.prog 32 #[.string (S (x :: r))] w fun e w' => e = .returned (.tuple #[tvx (x :: r) (3, 0), .bool true]) ∧ Below w.heap.size w w' := by
  have HG : ∀ h, (S (x :: r))[0]'h = x := fun h => rfl
  have HK := fun w => hide (key_any (x :: r) w)
  rw [hk] at HK
  have HN := fun w => hide (name_any (x :: r) w (by omega))
  rw [hn] at HN
  have HC := fun w => hide (con_any (x :: r) w (by omega))
  rw [hc] at HC
  have HS := S_size (x :: r)
  have hz : 0 < (S (x :: r)).size := by rw [HS]; simp
  unfold tvx
  generalize S (x :: r) = s at *
  have HG' := hide HG
  have HK' := hide HK
  have HN' := hide HN
  have HC' := hide HC
  clear HS hk HG HK hn HN hc HC
  go_enter Tryd.func32, Tryd.ntmps32
  go_wp2_with fail
  rw [HG'.out]
  refine (digit_any _ _).mono ?_; rintro e w' ⟨rfl, rfl⟩; rw [hd]
  go_wp2_with fail
  refine (HK'.out _).out.mono ?_; rintro e w' ⟨rfl, rfl⟩
  go_wp2_with fail
  refine (HN'.out _).out.mono ?_; rintro e w' ⟨rfl, rfl⟩
  go_wp2_with fail
  refine (HC'.out _).out.mono ?_; rintro e w' ⟨rfl, rfl⟩
  go_wp2_with fail
  refine bodyPost_ret (v := .tuple #[.agg #[.int .i64 3, .string s, .int .i64 0, .int .i64 0, .int .i64 0], .bool true]) (by simp [results, Tryd.results32, go_sem]) rfl ⟨rfl, ?_⟩
  exact ((Below.refl _ w).alloc (Nat.le_refl _) _).alloc (by simp) _
set_option maxHeartbeats 1000000 in
theorem token_none (x : UInt8) (r : List UInt8) (w : World) (hd : dg x = false) (hk : ky (x :: r) = false) (hl : (x :: r).length ≤ 2147483647) (hn : nm (x :: r) = false) (hc : cn (x :: r) = false) :
    Calls Tryd.prog 32 #[.string (S (x :: r))] w fun e w' => e = .returned (.tuple #[t0, .bool false]) ∧ Below w.heap.size w w' := by
  have HG : ∀ h, (S (x :: r))[0]'h = x := fun h => rfl
  have HK := fun w => hide (key_any (x :: r) w)
  rw [hk] at HK
  have HN := fun w => hide (name_any (x :: r) w (by omega))
  rw [hn] at HN
  have HC := fun w => hide (con_any (x :: r) w (by omega))
  rw [hc] at HC
  have HS := S_size (x :: r)
  have hz : 0 < (S (x :: r)).size := by rw [HS]; simp
  unfold t0
  generalize S (x :: r) = s at *
  have HG' := hide HG
  have HK' := hide HK
  have HN' := hide HN
  have HC' := hide HC
  clear HS hk HG HK hn HN hc HC
  go_enter Tryd.func32, Tryd.ntmps32
  go_wp2_with fail
  rw [HG'.out]
  refine (digit_any _ _).mono ?_; rintro e w' ⟨rfl, rfl⟩; rw [hd]
  go_wp2_with fail
  refine (HK'.out _).out.mono ?_; rintro e w' ⟨rfl, rfl⟩
  go_wp2_with fail
  refine (HN'.out _).out.mono ?_; rintro e w' ⟨rfl, rfl⟩
  go_wp2_with fail
  refine (HC'.out _).out.mono ?_; rintro e w' ⟨rfl, rfl⟩
  go_wp2_with fail
  refine bodyPost_ret (v := .tuple #[.agg #[.int .i64 0, .string ⟨#[]⟩, .int .i64 0, .int .i64 0, .int .i64 0], .bool false]) (by simp [results, Tryd.results32, go_sem]) rfl ⟨rfl, ?_⟩
  exact ((Below.refl _ w).alloc (Nat.le_refl _) _).alloc (by simp) _
/-- What lex.token hands back. -/
def tkv (l : List UInt8) : Option (Int × Int) → Value
  | some x => .tuple #[tvx l x, .bool true]
  | none => .tuple #[t0, .bool false]
theorem tk_cons (x : UInt8) (r : List UInt8) : tk (x :: r) = if dg x then (if nv (x :: r) ≤ big then some (1, (nv (x :: r) : Int)) else none) else if ky (x :: r) then some (4, 0) else if nm (x :: r) then some (2, 0) else if cn (x :: r) then some (3, 0) else none := rfl
/-- lex.token: a text's token, or that there can't be one. -/
theorem token_any (l : List UInt8) (w : World) (h0 : l ≠ []) (hd : dg (l.headD 0) = true → l.all dg = true) (hl : l.length ≤ 2147483647) (hg : Glob w) :
    Calls Tryd.prog 32 #[.string (S l)] w fun e w' => e = .returned (tkv l (tk l)) ∧ Below w.heap.size w w' := by
  cases l with
  | nil => exact absurd rfl h0
  | cons x r =>
    simp only [List.headD_cons] at hd
    rw [tk_cons]
    by_cases h1 : dg x = true
    · by_cases hb : nv (x :: r) ≤ big
      · rw [if_pos h1, if_pos hb]; exact token_dig x r w h1 (hd h1) hl hb
      · rw [if_pos h1, if_neg hb]; exact token_over x r w h1 (hd h1) hl hb hg
    · have h1' : dg x = false := by simpa using h1
      rw [if_neg h1]
      by_cases h2 : ky (x :: r) = true
      · rw [if_pos h2]; exact token_key x r w h1' h2
      · have h2' : ky (x :: r) = false := by simpa using h2
        rw [if_neg h2]
        by_cases h3 : nm (x :: r) = true
        · rw [if_pos h3]; exact token_name x r w h1' h2' hl h3
        · have h3' : nm (x :: r) = false := by simpa using h3
          rw [if_neg h3]
          by_cases h4 : cn (x :: r) = true
          · rw [if_pos h4]; exact token_con x r w h1' h2' hl h3' h4
          · have h4' : cn (x :: r) = false := by simpa using h4
            rw [if_neg h4]; exact token_none x r w h1' h2' hl h3' h4'
end Go.Proofs.YtnifnbndkbmdcaaDoor
