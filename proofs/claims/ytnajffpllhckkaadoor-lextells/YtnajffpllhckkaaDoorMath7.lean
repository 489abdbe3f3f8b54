/-
  ONE TOKEN: digits, a name, a constructor are one token of themselves; the digits of a number say it.
-/
import Derived.Test.YtnajffpllhckkaaDoorMath6
import Derived.Test.YtnajffpllhckkaaDoorToken
namespace Go.Proofs.YtnajffpllhckkaaDoor

theorem tw_full (p : UInt8 → Bool) : ∀ r : List UInt8, r.all p = true → r.takeWhile p = r
  | [], _ => rfl
  | a :: r, h => by
    simp only [List.all_cons, Bool.and_eq_true] at h
    rw [List.takeWhile_cons, if_pos h.1, tw_full p r h.2]
theorem dg_n32 {c : UInt8} (h : 48 ≤ c.toNat) : c ≠ 32 ∧ c ≠ 45 ∧ c ≠ 10 := by
  refine ⟨?_, ?_, ?_⟩ <;> (rintro rfl; revert h; decide)
theorem vt_mk (c : UInt8) (r : List UInt8) (k n : Int) (h : 48 ≤ c.toNat) (hl : tl (c :: r) = r.length + 1) (ht : tk (c :: r) = some (k, n)) : Vt ⟨k, c :: r, n, 0, 0⟩ := by
  obtain ⟨h1, h2, _⟩ := dg_n32 h
  refine ⟨c, r, sk_tok c r h1 (fun h => h2 h.1), ?_, ht⟩
  show c :: r = _
  rw [hl, ← List.length_cons (a := c), List.take_length]
theorem dig_vt {l : List UInt8} (h0 : l ≠ []) (h : l.all dg = true) (hb : nv l ≤ big) : Vt ⟨1, l, (nv l : Int), 0, 0⟩ := by
  cases l with
  | nil => exact absurd rfl h0
  | cons c r =>
    have ha := h
    simp only [List.all_cons, Bool.and_eq_true] at ha
    have hc := (dg_iff c).1 ha.1
    refine vt_mk c r _ _ hc.1 ?_ ?_
    · simp only [tl, ha.1, if_true]; rw [tw_full _ _ ha.2]; omega
    · unfold tk; simp only [List.headD_cons, ha.1, if_true]; rw [if_pos hb]
theorem sm_iff (c : UInt8) : sm c = true ↔ 97 ≤ c.toNat ∧ c.toNat ≤ 122 := by unfold sm; simp; omega
theorem gr_iff (c : UInt8) : gr c = true ↔ 65 ≤ c.toNat ∧ c.toNat ≤ 90 := by unfold gr; simp; omega
theorem dg_off {c : UInt8} (h : 58 ≤ c.toNat) : dg c = false := by
  rw [Bool.eq_false_iff]; intro hd; have := (dg_iff c).1 hd; omega
theorem sg_off {c : UInt8} {r : List UInt8} (h : (97 ≤ c.toNat ∧ c.toNat ≤ 122) ∨ (65 ≤ c.toNat ∧ c.toNat ≤ 90)) : sg (c :: r) = false := by
  have k : ∀ x : UInt8, (x.toNat < 65 ∨ (90 < x.toNat ∧ x.toNat < 97) ∨ 122 < x.toNat) → ∀ y, (c :: r == x :: y) = false := by
    intro x hx y
    rw [beq_eq_false_iff_ne]; intro e; cases e; omega
  unfold sg
  simp only [k 45 (by decide), k 60 (by decide), k 61 (by decide), k 43 (by decide), k 42 (by decide), k 47 (by decide), k 92 (by decide), k 40 (by decide), k 41 (by decide), k 123 (by decide), k 125 (by decide), k 59 (by decide), k 124 (by decide), Bool.or_self]
theorem kw_off {c : UInt8} {r : List UInt8} (h : 65 ≤ c.toNat ∧ c.toNat ≤ 90) : kw (c :: r) = false := by
  have k : ∀ x : UInt8, 90 < x.toNat → ∀ y, (c :: r == x :: y) = false := by
    intro x hx y
    rw [beq_eq_false_iff_ne]; intro e; cases e; omega
  unfold kw
  simp only [k 99 (by decide), k 111 (by decide), k 108 (by decide), k 105 (by decide), k 100 (by decide), k 116 (by decide), k 101 (by decide), Bool.or_self]
theorem wd_all {c : UInt8} {r : List UInt8} (h : wd (c :: r) = true) : pt c = true ∧ r.all pt = true := by
  unfold wd at h
  simp only [Bool.and_eq_true, List.all_cons] at h
  exact h.2
theorem name_vt {l : List UInt8} (h : nm l = true) : Vt ⟨2, l, 0, 0, 0⟩ := by
  have h' := h
  unfold nm at h'
  simp only [Bool.and_eq_true, Bool.not_eq_true'] at h'
  obtain ⟨⟨hw, hs⟩, hk⟩ := h'
  cases l with
  | nil => simp [wd] at hw
  | cons c r =>
    have hs2 := (sm_iff c).1 hs
    have hd := dg_off (c := c) (by omega)
    obtain ⟨hp, ha⟩ := wd_all hw
    refine vt_mk c r _ _ (by omega) ?_ ?_
    · simp only [tl, hd, hp, if_true]; rw [tw_full _ _ ha]; simp; omega
    · unfold tk ky
      simp only [List.headD_cons, hd, hk, sg_off (r := r) (.inl hs2), h, if_true, Bool.or_self]
      rfl
theorem con_vt {l : List UInt8} (h : cn l = true) : Vt ⟨3, l, 0, 0, 0⟩ := by
  have h' := h
  unfold cn at h'
  simp only [Bool.and_eq_true] at h'
  obtain ⟨hw, hs⟩ := h'
  cases l with
  | nil => simp [wd] at hw
  | cons c r =>
    have hs2 := (gr_iff c).1 hs
    have hd := dg_off (c := c) (by omega)
    obtain ⟨hp, ha⟩ := wd_all hw
    have hsm : sm c = false := by rw [Bool.eq_false_iff]; intro hd; have := (sm_iff c).1 hd; omega
    have hn : nm (c :: r) = false := by unfold nm; simp only [List.headD_cons, hsm, Bool.and_false, Bool.false_and]
    refine vt_mk c r _ _ (by omega) ?_ ?_
    · simp only [tl, hd, hp, if_true]; rw [tw_full _ _ ha]; simp; omega
    · unfold tk ky
      simp only [List.headD_cons, hd, kw_off (r := r) hs2, sg_off (r := r) (.inr hs2), hn, h, if_true, Bool.or_self]
      rfl
theorem nm_cn (l : List UInt8) (h : nm l = true) : cn l = false := by
  unfold nm at h
  simp only [Bool.and_eq_true, Bool.not_eq_true'] at h
  have h1 := (sm_iff _).1 h.1.2
  have : gr (l.headD 0) = false := by rw [Bool.eq_false_iff]; intro hd; have := (gr_iff _).1 hd; omega
  unfold cn; rw [this, Bool.and_false]
theorem one_tok {t : Tok} (h : Vt t) : lexM t.tx = ([⟨t.kd, t.tx, t.nu, 1, 1⟩], none) := by
  rw [lexM_O, vt_end h, cap_of_ok (by simp) rfl]; rfl
theorem nv_zeros (e : List UInt8) : ∀ k : Nat, nv (List.replicate k 48 ++ e) = nv e
  | 0 => rfl
  | k + 1 => by
    have := nv_zeros e k
    unfold nv at this ⊢
    rw [List.replicate_succ, List.cons_append, List.foldl_cons]
    exact this
/-- What the digits of a number are, when some are written and the rest is left. -/
structure Dgs (n left : Nat) (e : List UInt8) : Prop where
  all : e.all dg = true
  say : nvA left e = n
  len : e.length ≤ 19
  lt : left < 10 ^ (19 - e.length)
theorem Dgs.start {n : Nat} (h : n < 10000000000000000000) : Dgs n n [] := ⟨rfl, rfl, by simp, h⟩
def dgB (left : Nat) : UInt8 := UInt8.ofNat (48 + left % 10)
theorem dgB_nat (left : Nat) : (dgB left).toNat = 48 + left % 10 := by
  unfold dgB; rw [UInt8.toNat_ofNat']; omega
theorem Dgs.step {n left : Nat} {e : List UInt8} (h : Dgs n left e) (h0 : 0 < left ∨ e = []) : Dgs n (left / 10) (dgB left :: e) := by
  have hb := dgB_nat left
  have hl : e.length ≤ 18 := by
    rcases h0 with h0 | rfl
    · have := h.lt
      have h2 := h.len
      apply Classical.byContradiction; intro hn
      have h3 : e.length = 19 := by omega
      rw [h3] at this; simp at this; omega
    · simp
  refine ⟨?_, ?_, by simp; omega, ?_⟩
  · rw [List.all_cons, h.all, Bool.and_true]; exact (dg_iff _).2 (by omega)
  · have : nvA (left / 10) (dgB left :: e) = nvA (left / 10 * 10 + ((dgB left).toNat - 48)) e := rfl
    rw [this, hb, show left / 10 * 10 + (48 + left % 10 - 48) = left by omega]
    exact h.say
  · have h1 := h.lt
    rw [show 19 - e.length = (19 - (e.length + 1)) + 1 by omega, Nat.pow_succ] at h1
    rw [List.length_cons]
    omega
theorem Dgs.done {n : Nat} {e : List UInt8} (h : Dgs n 0 e) : nv e = n := h.say
end Go.Proofs.YtnajffpllhckkaaDoor
