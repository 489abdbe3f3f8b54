/-
  THE WALKS OF num's PARTS: widen, sum, opposite, product, narrow (the halves of a number of 128 bits), with math/bits.Add64, Sub64, Mul64. Each contract: what the call returns, and that the world has at most new blocks.
-/
import Derived.Test.YtkalbincljpceaaRows
import Derived.Test.YtkalbincljpceaaMath
import Derived.WalkKit
import Derived.WalkSpells
import Derived.StillTactics
import Derived.Laws.Pointers
import Derived.Laws.StructEq
import Derived.RowKit3
import Derived.Laws.Externs
import Derived.Laws.Bits64b
import Derived.Deep.RegionWith
namespace Go.Proofs.Ytkalbincljpceaa
open Go.RowKit

theorem hide {p : Prop} (h : p) : Hid p := h
theorem cells34 : Try.prog.cellsOf 34 = 1 := by kernel_rfl
theorem widen_any (n : Int) (hn : fits n = true) (w : World) :
    Calls Try.prog 15 #[.int .i64 n] w fun e w' => e = .returned (.agg #[.int .u64 (lo n), .int .u64 (hi n)]) ∧ ∃ c : Array Value, w' = w.alloc (.cells c 36) := by
  have h1 : IntKind.u64.wrap n = lo n := by rw [IntKind.wrap_u64]; rfl
  have h2 : IntKind.u64.wrap (n / 9223372036854775808) = hi n := by rw [IntKind.wrap_u64, widen_hi hn]
  have H1 : Hid (IntKind.u64.wrap n = lo n) := h1
  have H2 : Hid (IntKind.u64.wrap (n / 9223372036854775808) = hi n) := h2
  clear h1 h2
  go_enter Try.func15, Try.ntmps15
  go_wp2
  simp [bodyPost, results, Try.results15, go_sem]
  exact ⟨⟨H1.out, H2.out⟩, _, rfl⟩

theorem add64 (x y c : Int) (hx : 0 ≤ x) (hy : 0 ≤ y) (hc0 : 0 ≤ c) (hc : c ≤ 1) (w : World) : (callFunc 25 #[.int .u64 x, .int .u64 y, .int .u64 c]).run Try.prog w =
    .ok (.value (.tuple #[.int .u64 ((x + y + c) % 18446744073709551616), .int .u64 ((x + y + c) / 18446744073709551616)])) w := by
  rw [run_callFunc_extern Try.func25 (by kernel_rfl) (by kernel_rfl) (by kernel_rfl) (e := add64Entry) (by kernel_rfl), run_add64 x y c hx hy hc0 hc]
  rfl
theorem add64_0 (x y : Int) (hx : 0 ≤ x) (hy : 0 ≤ y) (w : World) : (callFunc 25 #[.int .u64 x, .int .u64 y, .int .u64 0]).run Try.prog w =
    .ok (.value (.tuple #[.int .u64 ((x + y) % 18446744073709551616), .int .u64 ((x + y) / 18446744073709551616)])) w := by
  simpa using add64 x y 0 hx hy (Int.le_refl 0) (by decide) w

def sub64Run : Array Value → Sem Value := fun args => do
  let (x, y, b) ← Extern.MathBitsCarry.three "Sub64" args
  pure (Extern.MathBitsCarry.pair ((x + Extern.MathBitsCarry.m64 - y - b) % Extern.MathBitsCarry.m64) (if x < y + b then 1 else 0))

theorem run_sub64 (x y b : Nat) (hb : b ≤ 1) (w : World) :
    (sub64Run #[.int .u64 x, .int .u64 y, .int .u64 b]).run Try.prog w =
      .ok (.tuple #[.int .u64 (((x + 18446744073709551616 - y - b) % 18446744073709551616 : Nat) : Int), .int .u64 ((if x < y + b then 1 else 0 : Nat) : Int)]) w := by
  have : b = 0 ∨ b = 1 := by omega
  rcases this with rfl | rfl <;> rfl

theorem sub64 (y b : Int) (hy : 0 ≤ y) (hy' : y < 18446744073709551616) (hb0 : 0 ≤ b) (hb : b ≤ 1) (w : World) : (callFunc 24 #[.int .u64 0, .int .u64 y, .int .u64 b]).run Try.prog w =
    .ok (.value (.tuple #[.int .u64 ((0 - y - b) % 18446744073709551616), .int .u64 (bor (y + b))])) w := by
  obtain ⟨y, rfl⟩ := Int.eq_ofNat_of_zero_le hy
  obtain ⟨b, rfl⟩ := Int.eq_ofNat_of_zero_le hb0
  rw [run_callFunc_extern Try.func24 (by kernel_rfl) (by kernel_rfl) (by kernel_rfl) (e := sub64Run) (by kernel_rfl)]
  have h := run_sub64 0 y b (by omega) w
  have e1 : (((0 + 18446744073709551616 - y - b) % 18446744073709551616 : Nat) : Int) = (0 - (y : Int) - b) % 18446744073709551616 := by omega
  have e2 : ((if 0 < y + b then 1 else 0 : Nat) : Int) = bor ((y : Int) + b) := by unfold bor; split <;> split <;> omega
  rw [e1, e2] at h
  rw [show (Value.int IntKind.u64 0) = Value.int IntKind.u64 ((0 : Nat) : Int) from rfl, h]
  rfl
theorem sub64_0 (y : Int) (hy : 0 ≤ y) (hy' : y < 18446744073709551616) (w : World) : (callFunc 24 #[.int .u64 0, .int .u64 y, .int .u64 0]).run Try.prog w =
    .ok (.value (.tuple #[.int .u64 ((0 - y) % 18446744073709551616), .int .u64 (bor y)])) w := by
  have h := sub64 y 0 hy hy' (Int.le_refl 0) (by decide) w
  rw [Int.add_zero, Int.sub_zero] at h
  exact h

theorem sum_any (x y : Int) (w : World) :
    Calls Try.prog 18 #[.agg #[.int .u64 (lo x), .int .u64 (hi x)], .agg #[.int .u64 (lo y), .int .u64 (hi y)]] w fun e w' =>
      e = .returned (.agg #[.int .u64 (lo (x + y)), .int .u64 (hi (x + y))]) ∧ ∃ c1 c2 c3 : Array Value, w' = ((w.alloc (.cells c1 36)).alloc (.cells c2 36)).alloc (.cells c3 36) := by
  have E1 : Hid _ := hide (sum_lo x y)
  have E2 : Hid _ := hide (sum_hi x y)
  have ⟨a1, a2⟩ := lo_bd x; have ⟨b1, b2⟩ := lo_bd y; have ⟨c1, c2⟩ := hi_bd x; have ⟨d1, d2⟩ := hi_bd y
  have ⟨k0, k1⟩ := carry_bd x y
  generalize lo x = xl at *
  generalize lo y = yl at *
  generalize hi x = xh at *
  generalize hi y = yh at *
  generalize lo (x + y) = rl at *
  generalize hi (x + y) = rh at *
  go_enter Try.func18, Try.ntmps18
  go_wp2_with (first | simp only [add64_0 xl yl a1 b1] | simp only [add64 xh yh _ c1 d1 k0 k1])
  rw [← E1.out, ← E2.out]
  simp [bodyPost, results, Try.results18, go_sem]
  exact ⟨_, _, _, rfl⟩

theorem opposite_any (x : Int) (w : World) :
    Calls Try.prog 16 #[.agg #[.int .u64 (lo x), .int .u64 (hi x)]] w fun e w' =>
      e = .returned (.agg #[.int .u64 (lo (-x)), .int .u64 (hi (-x))]) ∧ ∃ c1 c2 : Array Value, w' = (w.alloc (.cells c1 36)).alloc (.cells c2 36) := by
  have E1 : Hid _ := hide (opp_lo x)
  have E2 : Hid _ := hide (opp_hi x)
  have ⟨a1, a2⟩ := lo_bd x; have ⟨c1, c2⟩ := hi_bd x
  have ⟨k0, k1⟩ := bor_bd (lo x)
  generalize lo x = xl at *
  generalize hi x = xh at *
  generalize lo (-x) = rl at *
  generalize hi (-x) = rh at *
  go_enter Try.func16, Try.ntmps16
  go_wp2_with (first | simp only [sub64_0 xl a1 a2] | simp only [sub64 xh _ c1 c2 k0 k1])
  rw [← E1.out, ← E2.out]
  simp [bodyPost, results, Try.results16, go_sem]
  exact ⟨_, _, rfl⟩
theorem maskN (a : Nat) (ha : a < 18446744073709551616) : bits .and .u64 (a : Int) 4294967295 = ((a % 4294967296 : Nat) : Int) := by
  have h := bits_and_u64_nat a 4294967295 ha (by omega)
  have e : a &&& 4294967295 = a % 4294967296 := Nat.and_two_pow_sub_one_eq_mod a 32
  rw [e] at h
  exact h
theorem divN (a : Nat) : (a : Int) / 4294967296 = ((a / 4294967296 : Nat) : Int) := by omega
theorem mulN (a b : Nat) : (a : Int) * (b : Int) = ((a * b : Nat) : Int) := (Int.natCast_mul a b).symm
theorem addN (a b : Nat) : (a : Int) + (b : Int) = ((a + b : Nat) : Int) := (Int.natCast_add a b).symm
theorem wrapN (a : Nat) (ha : a < 18446744073709551616) : IntKind.u64.wrap (a : Int) = (a : Int) := by rw [IntKind.wrap_u64]; omega
theorem wrapM (a : Nat) : IntKind.u64.wrap (a : Int) = ((a % 18446744073709551616 : Nat) : Int) := by rw [IntKind.wrap_u64]; omega

set_option maxHeartbeats 1000000 in
theorem mul64_nat (x y : Nat) (hx : x < 18446744073709551616) (hy : y < 18446744073709551616) (w : World) :
    Calls Try.prog 26 #[.int .u64 x, .int .u64 y] w fun e w' => e = .returned (.tuple #[.int .u64 ((x * y / 18446744073709551616 : Nat) : Int), .int .u64 ((x * y % 18446744073709551616 : Nat) : Int)]) ∧ w' = w := by
  have E := hide (school_eq x y)
  have p1 := half_le (a := x / 4294967296) (b := y / 4294967296) (by omega) (by omega)
  have p2 := half_le (a := x / 4294967296) (b := y % 4294967296) (by omega) (by omega)
  have p3 := half_le (a := x % 4294967296) (b := y / 4294967296) (by omega) (by omega)
  have p4 := half_le (a := x % 4294967296) (b := y % 4294967296) (by omega) (by omega)
  go_enter Try.func26, Try.ntmps26
  go_wp2
  simp only [maskN x hx, maskN y hy, divN, mulN]
  rw [wrapM (x * y), E.out]
  generalize x / 4294967296 * (y / 4294967296) = a at *
  generalize x / 4294967296 * (y % 4294967296) = b at *
  generalize x % 4294967296 * (y / 4294967296) = c at *
  generalize x % 4294967296 * (y % 4294967296) = d at *
  simp only [wrapN a (by omega), wrapN b (by omega), wrapN c (by omega), wrapN d (by omega), divN, addN, wrapN (b + d / 4294967296) (by omega), maskN (b + d / 4294967296) (by omega), wrapN ((b + d / 4294967296) % 4294967296 + c) (by omega), wrapN (a + (b + d / 4294967296) / 4294967296) (by omega), wrapN (a + (b + d / 4294967296) / 4294967296 + ((b + d / 4294967296) % 4294967296 + c) / 4294967296) (by omega)]
  have e : a + (b + d / 4294967296) / 4294967296 + ((b + d / 4294967296) % 4294967296 + c) / 4294967296 = (a * 18446744073709551616 + (b + c) * 4294967296 + d) / 18446744073709551616 := by omega
  rw [e]
  go_ret2
  exact ⟨rfl, rfl⟩

theorem mul64_any (x y : Int) (hx0 : 0 ≤ x) (hx : x < 18446744073709551616) (hy0 : 0 ≤ y) (hy : y < 18446744073709551616) (w : World) :
    Calls Try.prog 26 #[.int .u64 x, .int .u64 y] w fun e w' => e = .returned (.tuple #[.int .u64 (x * y / 18446744073709551616), .int .u64 (x * y % 18446744073709551616)]) ∧ w' = w := by
  obtain ⟨x, rfl⟩ := Int.eq_ofNat_of_zero_le hx0
  obtain ⟨y, rfl⟩ := Int.eq_ofNat_of_zero_le hy0
  refine (mul64_nat x y (by omega) (by omega) w).mono ?_
  rintro e w' ⟨rfl, rfl⟩
  refine ⟨?_, rfl⟩
  have e1 : ((x * y / 18446744073709551616 : Nat) : Int) = (x : Int) * y / 18446744073709551616 := by rw [mulN]; omega
  have e2 : ((x * y % 18446744073709551616 : Nat) : Int) = (x : Int) * y % 18446744073709551616 := by rw [mulN]; omega
  rw [e1, e2]

theorem product_any (x y : Int) (w : World) :
    Calls Try.prog 19 #[.agg #[.int .u64 (lo x), .int .u64 (hi x)], .agg #[.int .u64 (lo y), .int .u64 (hi y)]] w fun e w' =>
      e = .returned (.agg #[.int .u64 (lo (x * y)), .int .u64 (hi (x * y))]) ∧ ∃ c1 c2 c3 : Array Value, w' = ((w.alloc (.cells c1 36)).alloc (.cells c2 36)).alloc (.cells c3 36) := by
  have E1 := hide (prod_lo x y)
  have E2 := hide (prod_hi x y)
  have ⟨a1, a2⟩ := lo_bd x; have ⟨b1, b2⟩ := lo_bd y; have ⟨c1, c2⟩ := hi_bd x; have ⟨d1, d2⟩ := hi_bd y
  generalize lo x = xl at *
  generalize lo y = yl at *
  generalize hi x = xh at *
  generalize hi y = yh at *
  generalize lo (x * y) = rl at *
  generalize hi (x * y) = rh at *
  go_enter Try.func19, Try.ntmps19
  go_wp2_with (go_at_call 26; refine (mul64_any xl yl a1 a2 b1 b2 _).mono ?_; rintro e w' ⟨rfl, rfl⟩)
  simp [bodyPost, results, Try.results19, go_sem]
  refine ⟨⟨E1.out, ?_⟩, _, _, _, rfl⟩
  rw [← E2.out]
  simp only [IntKind.wrap_u64]
  omega

theorem eq36 (a b c d : Int) (w : World) : (Op.equalIn 10000 36 (.agg #[.int .u64 a, .int .u64 b]) (.agg #[.int .u64 c, .int .u64 d])).run Try.prog w = .ok (a == c && b == d) w := by
  have u34 := Try.underlying34
  have a34 := Try.isAgg34
  have z34 := Try.sizeOf34
  rw [show (10000 : Nat) = 9999 + 1 from rfl, Op.equalIn]
  simp only [Sem.run_bind, run_underlying Try.underlying36, Result.andThen_ok]
  simp only [Std.Legacy.Range.forIn_eq_forIn_range', Std.Legacy.Range.size, Nat.sub_zero, Nat.add_sub_cancel, Nat.div_one, List.range'_succ, List.range'_zero, List.forIn_cons, List.forIn_nil]
  go_simp
  by_cases h1 : a = c <;> by_cases h2 : b = d <;> simp [h1, h2]

theorem wrap64_sg {u : Int} (h0 : 0 ≤ u) (h1 : u < 18446744073709551616) : wrap64 u = sg u := by
  unfold sg; simp only [wrap64]; split <;> omega

theorem narrow_any (m : Int) (h0 : -170141183460469231731687303715884105728 ≤ m) (h1 : m < 170141183460469231731687303715884105728) (w : World) :
    Calls Try.prog 17 #[.agg #[.int .u64 (lo m), .int .u64 (hi m)]] w fun e w' => e = .returned (.tuple #[.int .i64 (val m), .int .i64 (err m)]) ∧ Grown w w' := by
  have ⟨a1, a2⟩ := lo_bd m
  have E1 := hide (wrap64_sg a1 a2)
  have F := sg_fits m
  have G : ∀ w, Sem.run Try.prog (Op.equalIn 10000 36 (.agg #[.int .u64 (lo (sg (lo m))), .int .u64 (hi (sg (lo m)))]) (.agg #[.int .u64 (lo m), .int .u64 (hi m)])) w = .ok (fits m) w := fun w => by
    rw [eq36, lo_sg, narrow_test h0 h1]; simp
  have V := hide (rfl : val m = val m)
  cases hf : fits m
  · rw [hf] at G
    have X1 := hide (val_no hf)
    have X2 := hide (err_no hf)
    clear h0 h1 V hf
    go_enter Try.func17, Try.ntmps17
    go_wp2
    rw [E1.out]
    go_region_with (go_at_call 15; refine (widen_any _ F _).mono ?_; rintro e w' ⟨rfl, c, rfl⟩)
    all_goals go_wp2
    all_goals go_ret2
    all_goals (rw [X1.out, X2.out]; exact ⟨rfl, by repeat (first | exact Grown.refl _ | apply Grown.drew | apply Grown.alloc)⟩)
  · rw [hf] at G
    have X0 := hide (sg_of hf)
    have X1 := hide (val_of hf)
    have X2 := hide (err_of hf)
    clear h0 h1 V hf
    go_enter Try.func17, Try.ntmps17
    go_wp2
    rw [E1.out]
    go_region_with (go_at_call 15; refine (widen_any _ F _).mono ?_; rintro e w' ⟨rfl, c, rfl⟩)
    all_goals go_wp2
    all_goals go_ret2
    all_goals (rw [X1.out, X2.out]; exact ⟨by simp [X0.out], by repeat (first | exact Grown.refl _ | apply Grown.drew | apply Grown.alloc)⟩)
end Go.Proofs.Ytkalbincljpceaa
