/-
  NumRing's walk: sums and products do not hang on how they are grouped, and what is multiplied by a sum is the sum of both products.
-/
import Derived.Test.YtkalbincljpceaaQuoWalk
import Derived.Deep.DeepCutAuto
namespace Go.Proofs.Ytkalbincljpceaa
open Go.RowKit
abbrev Does (c : UInt8) (a b m e : Int) : Prop := ∀ w, Calls Try.prog 9 #[.string ⟨#[c]⟩, .int .i64 a, .int .i64 b] w fun r w' => r = .returned (.tuple #[.int .i64 m, .int .i64 e]) ∧ Grown w w'

set_option maxRecDepth 20000 in
set_option maxHeartbeats 4000000 in
theorem ring_core (a b c ab e bc f x g y h p i q j v k u l m n ac o r s : Int)
    (C1 : Hid (Does 43 a b ab e)) (C2 : Hid (Does 43 b c bc f)) (C3 : Hid (Does 43 ab c x g)) (C4 : Hid (Does 43 a bc y h))
    (C5 : Hid (Does 42 a b p i)) (C6 : Hid (Does 42 b c q j)) (C7 : Hid (Does 42 p c v k)) (C8 : Hid (Does 42 a q u l))
    (C9 : Hid (Does 42 ab c m n)) (C10 : Hid (Does 42 a c ac o)) (C11 : Hid (Does 43 ac q r s))
    (HS : Hid (e ≠ 0 ∨ f ≠ 0 ∨ g ≠ 0 ∨ h ≠ 0 ∨ x = y)) (HP : Hid (i ≠ 0 ∨ j ≠ 0 ∨ k ≠ 0 ∨ l ≠ 0 ∨ v = u)) (HB : Hid (e ≠ 0 ∨ n ≠ 0 ∨ o ≠ 0 ∨ j ≠ 0 ∨ (s = 0 ∧ r = m))) (w : World) :
    Calls Try.prog 6 #[.int .i64 a, .int .i64 b, .int .i64 c] w fun e w' => e = .returned (.bool true) ∧ Grown w w' := by
  go_enter Try.func6, Try.ntmps6
  go_wp2_with fail
  refine (awake_any _).mono ?_; rintro r1 w1 ⟨rfl, h1⟩
  go_wp2_with fail
  refine (C1.out _).mono ?_; rintro r1 w2 ⟨rfl, h2⟩
  go_wp2_with fail
  refine (C2.out _).mono ?_; rintro r1 w3 ⟨rfl, h3⟩
  go_wp2_with fail
  refine (C3.out _).mono ?_; rintro r1 w4 ⟨rfl, h4⟩
  go_wp2_with fail
  refine (C4.out _).mono ?_; rintro r1 w5 ⟨rfl, h5⟩
  go_upto_region 6 with fail
  go_cut [16] (fun t wx => t = .bool true ∧ wx = w5)
  case first =>
    have n0 : ∀ z : Int, z ≠ 0 → (z != 0) = true := fun z hz => bne_iff_ne.2 hz
    have n1 : ∀ z : Int, z = 0 → (z != 0) = false := fun z hz => by subst hz; rfl
    by_cases d0 : e = 0
    · have k0 := n1 _ d0
      by_cases d1 : f = 0
      · have k1 := n1 _ d1
        by_cases d2 : g = 0
        · have k2 := n1 _ d2
          by_cases d3 : h = 0
          · have k3 := n1 _ d3
            have kx : (x == y) = true := beq_iff_eq.2 (((((HS.out).resolve_left (fun hz => hz d0)).resolve_left (fun hz => hz d1)).resolve_left (fun hz => hz d2)).resolve_left (fun hz => hz d3))
            clear d0 d1 d2 d3
            clear n0 n1
            go_wp2_with fail
            go_meet
            case rel => exact ⟨rfl, rfl⟩
          · have k3 := n0 _ d3
            clear d0 d1 d2 d3
            clear n0 n1
            go_wp2_with fail
            go_meet
            case rel => exact ⟨rfl, rfl⟩
        · have k2 := n0 _ d2
          clear d0 d1 d2
          clear n0 n1
          go_wp2_with fail
          go_meet
          case rel => exact ⟨rfl, rfl⟩
      · have k1 := n0 _ d1
        clear d0 d1
        clear n0 n1
        go_wp2_with fail
        go_meet
        case rel => exact ⟨rfl, rfl⟩
    · have k0 := n0 _ d0
      clear d0
      clear n0 n1
      go_wp2_with fail
      go_meet
      case rel => exact ⟨rfl, rfl⟩
  case rest =>
    obtain ⟨rfl, rfl⟩ := hcut
    go_wp2_with fail
    refine (C5.out _).mono ?_; rintro r1 w6 ⟨rfl, h6⟩
    go_wp2_with fail
    refine (C6.out _).mono ?_; rintro r1 w7 ⟨rfl, h7⟩
    go_wp2_with fail
    refine (C7.out _).mono ?_; rintro r1 w8 ⟨rfl, h8⟩
    go_wp2_with fail
    refine (C8.out _).mono ?_; rintro r1 w9 ⟨rfl, h9⟩
    go_upto_region 11 with fail
    go_cut [25] (fun t wx => t = .bool true ∧ wx = w9)
    case first =>
      have n0 : ∀ z : Int, z ≠ 0 → (z != 0) = true := fun z hz => bne_iff_ne.2 hz
      have n1 : ∀ z : Int, z = 0 → (z != 0) = false := fun z hz => by subst hz; rfl
      by_cases d0 : i = 0
      · have k0 := n1 _ d0
        by_cases d1 : j = 0
        · have k1 := n1 _ d1
          by_cases d2 : k = 0
          · have k2 := n1 _ d2
            by_cases d3 : l = 0
            · have k3 := n1 _ d3
              have kx : (v == u) = true := beq_iff_eq.2 (((((HP.out).resolve_left (fun hz => hz d0)).resolve_left (fun hz => hz d1)).resolve_left (fun hz => hz d2)).resolve_left (fun hz => hz d3))
              clear d0 d1 d2 d3
              clear n0 n1
              go_wp2_with fail
              go_meet
              case rel => exact ⟨rfl, rfl⟩
            · have k3 := n0 _ d3
              clear d0 d1 d2 d3
              clear n0 n1
              go_wp2_with fail
              go_meet
              case rel => exact ⟨rfl, rfl⟩
          · have k2 := n0 _ d2
            clear d0 d1 d2
            clear n0 n1
            go_wp2_with fail
            go_meet
            case rel => exact ⟨rfl, rfl⟩
        · have k1 := n0 _ d1
          clear d0 d1
          clear n0 n1
          go_wp2_with fail
          go_meet
          case rel => exact ⟨rfl, rfl⟩
      · have k0 := n0 _ d0
        clear d0
        clear n0 n1
        go_wp2_with fail
        go_meet
        case rel => exact ⟨rfl, rfl⟩
    case rest =>
      obtain ⟨rfl, rfl⟩ := hcut
      go_wp2_with fail
      refine (C9.out _).mono ?_; rintro r1 w10 ⟨rfl, h10⟩
      go_wp2_with fail
      refine (C10.out _).mono ?_; rintro r1 w11 ⟨rfl, h11⟩
      go_wp2_with fail
      refine (C11.out _).mono ?_; rintro r1 w12 ⟨rfl, h12⟩
      go_upto_region 15 with fail
      go_cut [32] (fun t wx => t = .bool true ∧ wx = w12)
      case first =>
        have n0 : ∀ z : Int, z ≠ 0 → (z != 0) = true := fun z hz => bne_iff_ne.2 hz
        have n1 : ∀ z : Int, z = 0 → (z != 0) = false := fun z hz => by subst hz; rfl
        by_cases d0 : e = 0
        · have k0 := n1 _ d0
          by_cases d1 : n = 0
          · have k1 := n1 _ d1
            by_cases d2 : o = 0
            · have k2 := n1 _ d2
              by_cases d3 : j = 0
              · have k3 := n1 _ d3
                have ks : (s == 0) = true := beq_iff_eq.2 (((((HB.out).resolve_left (fun hz => hz d0)).resolve_left (fun hz => hz d1)).resolve_left (fun hz => hz d2)).resolve_left (fun hz => hz d3)).1
                have kr : (r == m) = true := beq_iff_eq.2 (((((HB.out).resolve_left (fun hz => hz d0)).resolve_left (fun hz => hz d1)).resolve_left (fun hz => hz d2)).resolve_left (fun hz => hz d3)).2
                clear d0 d1 d2 d3
                clear n0 n1
                go_wp2_with fail
                go_meet
                case rel => exact ⟨rfl, rfl⟩
              · have k3 := n0 _ d3
                clear d0 d1 d2 d3
                clear n0 n1
                go_wp2_with fail
                go_meet
                case rel => exact ⟨rfl, rfl⟩
            · have k2 := n0 _ d2
              clear d0 d1 d2
              clear n0 n1
              go_wp2_with fail
              go_meet
              case rel => exact ⟨rfl, rfl⟩
          · have k1 := n0 _ d1
            clear d0 d1
            clear n0 n1
            go_wp2_with fail
            go_meet
            case rel => exact ⟨rfl, rfl⟩
        · have k0 := n0 _ d0
          clear d0
          clear n0 n1
          go_wp2_with fail
          go_meet
          case rel => exact ⟨rfl, rfl⟩
      case rest =>
        obtain ⟨rfl, rfl⟩ := hcut
        go_wp2_with fail
        go_ret
        exact ⟨rfl, grown_trans h1 (grown_trans h2 (grown_trans h3 (grown_trans h4 (grown_trans h5 (grown_trans h6 (grown_trans h7 (grown_trans h8 (grown_trans h9 (grown_trans h10 (grown_trans h11 h12))))))))))⟩

theorem fits_of_err {m : Int} (h : err m = 0) : fits m = true := by
  cases hf : fits m
  · rw [err_no hf] at h; cases h
  · rfl
theorem val_of_err {m : Int} (h : err m = 0) : val m = m := val_of (fits_of_err h)

theorem sums_of (a b c : Int) : err (a + b) ≠ 0 ∨ err (b + c) ≠ 0 ∨ err (val (a + b) + c) ≠ 0 ∨ err (a + val (b + c)) ≠ 0 ∨ val (val (a + b) + c) = val (a + val (b + c)) := by
  by_cases h1 : err (a + b) = 0
  · by_cases h2 : err (b + c) = 0
    · rw [val_of_err h1, val_of_err h2, Int.add_assoc]
      exact Or.inr (Or.inr (Or.inr (Or.inr rfl)))
    · exact Or.inr (Or.inl h2)
  · exact Or.inl h1
theorem products_of (a b c : Int) : err (a * b) ≠ 0 ∨ err (b * c) ≠ 0 ∨ err (val (a * b) * c) ≠ 0 ∨ err (a * val (b * c)) ≠ 0 ∨ val (val (a * b) * c) = val (a * val (b * c)) := by
  by_cases h1 : err (a * b) = 0
  · by_cases h2 : err (b * c) = 0
    · rw [val_of_err h1, val_of_err h2, Int.mul_assoc]
      exact Or.inr (Or.inr (Or.inr (Or.inr rfl)))
    · exact Or.inr (Or.inl h2)
  · exact Or.inl h1
theorem both_of (a b c : Int) : err (a + b) ≠ 0 ∨ err (val (a + b) * c) ≠ 0 ∨ err (a * c) ≠ 0 ∨ err (b * c) ≠ 0 ∨ (err (val (a * c) + val (b * c)) = 0 ∧ val (val (a * c) + val (b * c)) = val (val (a + b) * c)) := by
  by_cases h1 : err (a + b) = 0
  · by_cases h3 : err (a * c) = 0
    · by_cases h4 : err (b * c) = 0
      · rw [val_of_err h1, val_of_err h3, val_of_err h4, Int.add_mul]
        by_cases h2 : err (a * c + b * c) = 0
        · exact Or.inr (Or.inr (Or.inr (Or.inr ⟨h2, rfl⟩)))
        · exact Or.inr (Or.inl h2)
      · exact Or.inr (Or.inr (Or.inr (Or.inl h4)))
    · exact Or.inr (Or.inr (Or.inl h3))
  · exact Or.inl h1

theorem ring_walk (a b c : Int) (wa : (Lit.int .i64 a).wf = true) (wb : (Lit.int .i64 b).wf = true) (wc : (Lit.int .i64 c).wf = true) (w : World) :
    Calls Try.prog 6 #[.int .i64 a, .int .i64 b, .int .i64 c] w fun e w' => e = .returned (.bool true) ∧ Grown w w' := by
  have ha := wf64 wa
  have hb := wf64 wb
  have hc := wf64 wc
  exact ring_core a b c _ _ _ _ _ _ _ _ _ _ _ _ _ _ _ _ _ _ _ _ _ _
    (hide (fun w => do_add a b ha hb w)) (hide (fun w => do_add b c hb hc w)) (hide (fun w => do_add (val (a + b)) c (fits_val _) hc w)) (hide (fun w => do_add a (val (b + c)) ha (fits_val _) w))
    (hide (fun w => do_mul a b ha hb w)) (hide (fun w => do_mul b c hb hc w)) (hide (fun w => do_mul (val (a * b)) c (fits_val _) hc w)) (hide (fun w => do_mul a (val (b * c)) ha (fits_val _) w))
    (hide (fun w => do_mul (val (a + b)) c (fits_val _) hc w)) (hide (fun w => do_mul a c ha hc w)) (hide (fun w => do_add (val (a * c)) (val (b * c)) (fits_val _) (fits_val _) w))
    (hide (sums_of a b c)) (hide (products_of a b c)) (hide (both_of a b c)) w
end Go.Proofs.Ytkalbincljpceaa
