/-
  NumTells' walk: both sides answer the same, whatever op it is.
-/
import Derived.Test.YtkalbincljpceaaRef
namespace Go.Proofs.Ytkalbincljpceaa
open Go.RowKit

set_option maxHeartbeats 1000000 in
theorem tells_core (s : ByteArray) (a b m e g : Int) (p x y : Bool)
    (C1 : Hid (∀ w, Calls Try.prog 9 #[.string s, .int .i64 a, .int .i64 b] w fun r w' => r = .returned (.tuple #[.int .i64 m, .int .i64 e]) ∧ Grown w w'))
    (C2 : Hid (∀ w, Calls Try.prog 10 #[.string s, .int .i64 a, .int .i64 b] w fun r w' => r = .returned (.tuple #[.int .i64 m, .int .i64 e]) ∧ w' = w))
    (C3 : Hid (∀ w, Calls Try.prog 11 #[.string s, .int .i64 a, .int .i64 b] w fun r w' => r = .returned (.tuple #[.bool p, .int .i64 g]) ∧ w' = w))
    (C4 : Hid (∀ w, Calls Try.prog 12 #[.string s, .int .i64 a, .int .i64 b] w fun r w' => r = .returned (.tuple #[.bool p, .int .i64 g]) ∧ w' = w))
    (C5 : Hid (∀ w, Calls Try.prog 13 #[.string s] w fun r w' => r = .returned (.tuple #[.bool x, .bool y]) ∧ w' = w))
    (C6 : Hid (∀ w, Calls Try.prog 14 #[.string s] w fun r w' => r = .returned (.tuple #[.bool x, .bool y]) ∧ w' = w)) (w : World) :
    Calls Try.prog 3 #[.string s, .int .i64 a, .int .i64 b] w fun e w' => e = .returned (.bool true) ∧ Grown w w' := by
  go_enter Try.func3, Try.ntmps3
  go_wp2_with fail
  refine (awake_any _).mono ?_; rintro e w1 ⟨rfl, h1⟩
  go_wp2_with fail
  refine (C1.out _).mono ?_; rintro e w2 ⟨rfl, h2⟩
  go_wp2_with fail
  refine (C2.out _).mono ?_; rintro e w3 ⟨rfl, rfl⟩
  go_wp2_with fail
  refine (C3.out _).mono ?_; rintro e w4 ⟨rfl, rfl⟩
  go_wp2_with fail
  refine (C4.out _).mono ?_; rintro e w5 ⟨rfl, rfl⟩
  go_wp2_with fail
  refine (C5.out _).mono ?_; rintro e w6 ⟨rfl, rfl⟩
  go_wp2_with fail
  refine (C6.out _).mono ?_; rintro e w7 ⟨rfl, rfl⟩
  go_wp2_with fail
  go_ret
  exact ⟨by simp, grown_trans h1 h2⟩

theorem is_bytes {s : ByteArray} {l : List UInt8} (h : s.toList = l) : s = ⟨l.toArray⟩ := by
  rw [ByteArray.toList_eq] at h
  subst h
  cases s; rfl
theorem not_bytes {s : ByteArray} {l : List UInt8} (h : ¬ s.toList = l) : (s.toList == l) = false := beq_eq_false_iff_ne.2 h

theorem tells_walk (s : ByteArray) (a b : Int) (wa : (Lit.int .i64 a).wf = true) (wb : (Lit.int .i64 b).wf = true) (w : World) :
    Calls Try.prog 3 #[.string s, .int .i64 a, .int .i64 b] w fun e w' => e = .returned (.bool true) ∧ Grown w w' := by
  have ha := wf64 wa
  have hb := wf64 wb
  by_cases h1 : s.toList = [43]
  · obtain rfl := is_bytes h1
    exact tells_core _ a b _ _ _ _ _ _ (hide (fun w => do_add a b ha hb w)) (hide (fun w => rdo_add a b ha hb w)) (hide (fun w => holds_else _ a b (by decide +kernel) (by decide +kernel) w)) (hide (fun w => rholds_else _ a b (by decide +kernel) (by decide +kernel) w)) (hide is_add) (hide ris_add) w
  by_cases h2 : s.toList = [45]
  · obtain rfl := is_bytes h2
    exact tells_core _ a b _ _ _ _ _ _ (hide (fun w => do_sub a b ha hb w)) (hide (fun w => rdo_sub a b ha hb w)) (hide (fun w => holds_else _ a b (by decide +kernel) (by decide +kernel) w)) (hide (fun w => rholds_else _ a b (by decide +kernel) (by decide +kernel) w)) (hide is_sub) (hide ris_sub) w
  by_cases h3 : s.toList = [42]
  · obtain rfl := is_bytes h3
    exact tells_core _ a b _ _ _ _ _ _ (hide (fun w => do_mul a b ha hb w)) (hide (fun w => rdo_mul a b ha hb w)) (hide (fun w => holds_else _ a b (by decide +kernel) (by decide +kernel) w)) (hide (fun w => rholds_else _ a b (by decide +kernel) (by decide +kernel) w)) (hide is_mul) (hide ris_mul) w
  by_cases h4 : s.toList = [47]
  · obtain rfl := is_bytes h4
    by_cases h0 : b = 0
    · subst h0
      exact tells_core _ a 0 _ _ _ _ _ _ (hide (fun w => do_div_zero a ha w)) (hide (fun w => rdo_div_zero a w)) (hide (fun w => holds_else _ a 0 (by decide +kernel) (by decide +kernel) w)) (hide (fun w => rholds_else _ a 0 (by decide +kernel) (by decide +kernel) w)) (hide is_div) (hide ris_div) w
    · exact tells_core _ a b _ _ _ _ _ _ (hide (fun w => do_div a b ha hb h0 w)) (hide (fun w => rdo_div a b ha h0 w)) (hide (fun w => holds_else _ a b (by decide +kernel) (by decide +kernel) w)) (hide (fun w => rholds_else _ a b (by decide +kernel) (by decide +kernel) w)) (hide is_div) (hide ris_div) w
  have n1 := not_bytes h1
  have n2 := not_bytes h2
  have n3 := not_bytes h3
  have n4 := not_bytes h4
  by_cases h5 : s.toList = [61, 61]
  · obtain rfl := is_bytes h5
    exact tells_core _ a b _ _ _ _ _ _ (hide (fun w => do_else _ a b ha hb n2 n1 n4 n3 w)) (hide (fun w => rdo_else _ a b n1 n2 n3 n4 w)) (hide (fun w => holds_eq a b w)) (hide (fun w => rholds_eq a b w)) (hide is_eq) (hide ris_eq) w
  by_cases h6 : s.toList = [60]
  · obtain rfl := is_bytes h6
    exact tells_core _ a b _ _ _ _ _ _ (hide (fun w => do_else _ a b ha hb n2 n1 n4 n3 w)) (hide (fun w => rdo_else _ a b n1 n2 n3 n4 w)) (hide (fun w => holds_lt a b w)) (hide (fun w => rholds_lt a b w)) (hide is_lt) (hide ris_lt) w
  have n5 := not_bytes h5
  have n6 := not_bytes h6
  exact tells_core _ a b _ _ _ _ _ _ (hide (fun w => do_else _ a b ha hb n2 n1 n4 n3 w)) (hide (fun w => rdo_else _ a b n1 n2 n3 n4 w)) (hide (fun w => holds_else _ a b n5 n6 w)) (hide (fun w => rholds_else _ a b n5 n6 w)) (hide (is_else s n1 n2 n3 n4 n5 n6)) (hide (ris_else s n1 n2 n3 n4 n5 n6)) w
end Go.Proofs.Ytkalbincljpceaa
