/-
  THE PLAIN ARITHMETIC OF LAYER 1: numbers of 128 bits in two halves (lo, hi), what sums, opposites and products make of them, and when the low half alone is the number. No Go in this text.
-/
namespace Go.Proofs.Ytkalbincljpceaa

/-- The low half, and the high one, of a number in two's complement. -/
def lo (m : Int) : Int := m % 18446744073709551616
def hi (m : Int) : Int := m / 18446744073709551616 % 18446744073709551616
/-- The number that 64 bits stand for. -/
def sg (u : Int) : Int := if u < 9223372036854775808 then u else u - 18446744073709551616
/-- It is from -2^63 to 2^63 - 1. -/
def fits (m : Int) : Bool := decide (-9223372036854775808 ≤ m) && decide (m ≤ 9223372036854775807)
/-- What is told of a number: itself, or 0 and ErrOver. -/
def val (m : Int) : Int := if fits m then m else 0
def err (m : Int) : Int := if fits m then 0 else 11

theorem fits_iff (m : Int) : fits m = true ↔ -9223372036854775808 ≤ m ∧ m ≤ 9223372036854775807 := by simp [fits]
theorem fits_no (m : Int) : fits m = false ↔ m < -9223372036854775808 ∨ 9223372036854775807 < m := by
  rw [← Bool.not_eq_true, fits_iff]; omega
theorem val_of {m : Int} (h : fits m = true) : val m = m := by simp [val, h]
theorem err_of {m : Int} (h : fits m = true) : err m = 0 := by simp [err, h]
theorem val_no {m : Int} (h : fits m = false) : val m = 0 := by simp [val, h]
theorem err_no {m : Int} (h : fits m = false) : err m = 11 := by simp [err, h]
theorem fits_val (m : Int) : fits (val m) = true := by
  unfold val; split
  · assumption
  · decide
theorem val_bd (m : Int) : -9223372036854775808 ≤ val m ∧ val m ≤ 9223372036854775807 := (fits_iff _).1 (fits_val m)
theorem err_bd (m : Int) : 0 ≤ err m ∧ err m ≤ 11 := by unfold err; split <;> omega

theorem lo_bd (m : Int) : 0 ≤ lo m ∧ lo m < 18446744073709551616 := by unfold lo; omega
theorem hi_bd (m : Int) : 0 ≤ hi m ∧ hi m < 18446744073709551616 := by unfold hi; omega
theorem carry_bd (x y : Int) : 0 ≤ (lo x + lo y) / 18446744073709551616 ∧ (lo x + lo y) / 18446744073709551616 ≤ 1 := by
  have := lo_bd x; have := lo_bd y; omega

theorem sum_lo (x y : Int) : (lo x + lo y) % 18446744073709551616 = lo (x + y) := by unfold lo; omega
theorem sum_hi (x y : Int) : (hi x + hi y + (lo x + lo y) / 18446744073709551616) % 18446744073709551616 = hi (x + y) := by unfold hi lo; omega

/-- Sub64's borrow, under a name. -/
def bor (u : Int) : Int := if 0 < u then 1 else 0
theorem bor_bd (u : Int) : 0 ≤ bor u ∧ bor u ≤ 1 := by unfold bor; split <;> omega
theorem opp_lo (x : Int) : (0 - lo x) % 18446744073709551616 = lo (-x) := by unfold lo; omega
theorem opp_hi (x : Int) : (0 - hi x - bor (lo x)) % 18446744073709551616 = hi (-x) := by unfold bor hi lo; split <;> omega

theorem prod_lo (x y : Int) : lo x * lo y % 18446744073709551616 = lo (x * y) := by unfold lo; exact (Int.mul_emod x y _).symm
theorem emod_of_sub {a b k : Int} (q : Int) (h : a = b + k * q) : a % k = b % k := by rw [h]; exact Int.add_mul_emod_self_left b k q
theorem prod_hi (x y : Int) : (lo x * lo y / 18446744073709551616 + lo x * hi y + hi x * lo y) % 18446744073709551616 = hi (x * y) := by
  have ex : x = lo x + 18446744073709551616 * (x / 18446744073709551616) := by unfold lo; omega
  have ey : y = lo y + 18446744073709551616 * (y / 18446744073709551616) := by unfold lo; omega
  have hx : x / 18446744073709551616 = hi x + 18446744073709551616 * (x / 18446744073709551616 / 18446744073709551616) := by unfold hi; omega
  have hy : y / 18446744073709551616 = hi y + 18446744073709551616 * (y / 18446744073709551616 / 18446744073709551616) := by unfold hi; omega
  have e : x * y = lo x * lo y + 18446744073709551616 * (lo x * (y / 18446744073709551616) + (x / 18446744073709551616) * lo y + 18446744073709551616 * ((x / 18446744073709551616) * (y / 18446744073709551616))) := by
    conv => lhs; rw [ex, ey]
    simp only [Int.mul_add, Int.add_mul, Int.mul_assoc, Int.mul_left_comm, Int.mul_comm]
    omega
  have d : x * y / 18446744073709551616 = lo x * lo y / 18446744073709551616 + (lo x * (y / 18446744073709551616) + (x / 18446744073709551616) * lo y + 18446744073709551616 * ((x / 18446744073709551616) * (y / 18446744073709551616))) := by
    rw [e, Int.add_mul_ediv_left _ _ (by decide)]
  show _ = x * y / 18446744073709551616 % 18446744073709551616
  rw [d]
  refine (emod_of_sub (lo x * (y / 18446744073709551616 / 18446744073709551616) + (x / 18446744073709551616 / 18446744073709551616) * lo y + (x / 18446744073709551616) * (y / 18446744073709551616)) ?_).symm
  have f : lo x * (y / 18446744073709551616) = lo x * hi y + 18446744073709551616 * (lo x * (y / 18446744073709551616 / 18446744073709551616)) := by
    conv => lhs; rw [hy, Int.mul_add]
    rw [Int.mul_left_comm]
  have g : (x / 18446744073709551616) * lo y = hi x * lo y + 18446744073709551616 * ((x / 18446744073709551616 / 18446744073709551616) * lo y) := by
    conv => lhs; rw [hx, Int.add_mul]
    rw [Int.mul_assoc]
  omega

theorem widen_hi {n : Int} (h : fits n = true) : n / 9223372036854775808 % 18446744073709551616 = hi n := by
  have := (fits_iff n).1 h; unfold hi; omega
theorem sg_fits (m : Int) : fits (sg (lo m)) = true := by
  rw [fits_iff]; unfold sg lo; split <;> omega
theorem sg_of {m : Int} (h : fits m = true) : sg (lo m) = m := by
  have := (fits_iff m).1 h; unfold sg lo; split <;> omega
theorem lo_sg (m : Int) : lo (sg (lo m)) = lo m := by unfold sg lo; split <;> omega
/-- A number of 128 bits whose halves are those of its low half's number is that number. -/
theorem back_of {m : Int} (h0 : -170141183460469231731687303715884105728 ≤ m) (h1 : m < 170141183460469231731687303715884105728) (h : hi (sg (lo m)) = hi m) : sg (lo m) = m := by
  unfold sg hi lo at *; split at h <;> split <;> omega
theorem narrow_test {m : Int} (h0 : -170141183460469231731687303715884105728 ≤ m) (h1 : m < 170141183460469231731687303715884105728) : (hi (sg (lo m)) == hi m) = fits m := by
  cases hf : fits m
  · rw [beq_eq_false_iff_ne]
    intro h
    have e := back_of h0 h1 h
    have := sg_fits m
    rw [e, hf] at this
    cases this
  · rw [sg_of hf]; simp

/-- A product of two numbers of 64 bits has room in 128. -/
theorem mul_bd {a b : Int} (ha : fits a = true) (hb : fits b = true) : -170141183460469231731687303715884105728 ≤ a * b ∧ a * b < 170141183460469231731687303715884105728 := by
  obtain ⟨a1, a2⟩ := (fits_iff a).1 ha
  obtain ⟨b1, b2⟩ := (fits_iff b).1 hb
  have h : (a * b).natAbs ≤ 9223372036854775808 * 9223372036854775808 := by
    rw [Int.natAbs_mul]
    exact Nat.mul_le_mul (by omega) (by omega)
  omega

/-! ### Two numbers of 64 bits multiplied by their halves of 32 -/
theorem half_le {a b : Nat} (ha : a < 4294967296) (hb : b < 4294967296) : a * b ≤ 18446744065119617025 := Nat.mul_le_mul (Nat.le_of_lt_succ ha) (Nat.le_of_lt_succ hb)
theorem school_eq (x y : Nat) : x * y = x / 4294967296 * (y / 4294967296) * 18446744073709551616 + (x / 4294967296 * (y % 4294967296) + x % 4294967296 * (y / 4294967296)) * 4294967296 + x % 4294967296 * (y % 4294967296) := by
  have hx : x = 4294967296 * (x / 4294967296) + x % 4294967296 := (Nat.div_add_mod x 4294967296).symm
  have hy : y = 4294967296 * (y / 4294967296) + y % 4294967296 := (Nat.div_add_mod y 4294967296).symm
  conv => lhs; rw [hx, hy]
  generalize x / 4294967296 = a
  generalize x % 4294967296 = b
  generalize y / 4294967296 = c
  generalize y % 4294967296 = d
  have e1 : 4294967296 * a * (4294967296 * c) = a * c * 18446744073709551616 := by
    rw [Nat.mul_mul_mul_comm, Nat.mul_comm]
  have e2 : 4294967296 * a * d = a * d * 4294967296 := by rw [Nat.mul_assoc, Nat.mul_comm]
  have e3 : b * (4294967296 * c) = b * c * 4294967296 := by rw [Nat.mul_left_comm, Nat.mul_comm]
  rw [Nat.add_mul, Nat.mul_add, Nat.mul_add, e1, e2, e3]
  omega

/-! ### Quotients, what is behind the point left out -/
theorem tdiv_fits {a b : Int} (ha : fits a = true) (h0 : ¬ b = 0) (h1 : ¬ b = -1) : fits (a.tdiv b) = true := by
  obtain ⟨a1, a2⟩ := (fits_iff a).1 ha
  rw [fits_iff]
  by_cases hb : b = 1
  · subst hb; rw [Int.tdiv_one]; omega
  · have h : (a.tdiv b).natAbs = a.natAbs / b.natAbs := Int.natAbs_tdiv a b
    have g : a.natAbs / b.natAbs ≤ a.natAbs / 2 := Nat.div_le_div_left (by omega) (by omega)
    omega
theorem tdiv_minus (a : Int) : a.tdiv (-1) = -a := by rw [Int.tdiv_neg, Int.tdiv_one]
end Go.Proofs.Ytkalbincljpceaa
