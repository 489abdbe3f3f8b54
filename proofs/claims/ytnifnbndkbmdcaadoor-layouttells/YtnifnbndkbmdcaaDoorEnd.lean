/-
  THE WALKS OF lex.skip, lex.goesOn, its closure, and of lex.end where the token is of digits, or of letters and digits.
-/
import Derived.Test.YtnifnbndkbmdcaaDoorMem
import Derived.RangeFuncNested
import Derived.Maps.AppendAt
namespace Go.Proofs.YtnifnbndkbmdcaaDoor
open Go.RowKit
set_option linter.unusedVariables false

theorem gp_space {l : List UInt8} {j : Nat} (h : j < l.length) (h32 : ((l[j].toNat : Int) == 32) = true) : gp (l.drop j) = gp (l.drop (j + 1)) := by
  rw [List.drop_eq_getElem_cons h]; unfold gp
  rw [List.dropWhile_cons, if_pos]
  simp only [beq_iff_eq] at h32 ⊢
  have : l[j].toNat = 32 := by omega
  exact UInt8.toNat_inj.1 this
theorem gp_other {l : List UInt8} {j : Nat} (h : j < l.length) (h32 : ((l[j].toNat : Int) == 32) = false) : gp (l.drop j) = l.drop j := by
  rw [List.drop_eq_getElem_cons h]; unfold gp
  rw [List.dropWhile_cons, if_neg]
  intro hc
  simp only [beq_iff_eq] at hc
  rw [hc] at h32
  simp at h32
theorem skip_end (l : List UInt8) (j n : Nat) (hn : l.length = n) (hj : j ≤ n) (h : gp (l.drop j) = l.drop j) : (n : Int) - (sk (l.drop j)).length = if ((l.drop j).take 2 == [45, 45]) = true then (n : Int) else (j : Int) := by
  unfold sk; rw [h]
  split
  · simp
  · simp; omega
theorem Mem.dropAt {w : World} {b o : Nat} {l : List UInt8} (h : Mem w (some ⟨b, o, none⟩) l) (j : Nat) : Mem w (some ⟨b, o + j, none⟩) (l.drop j) := by
  rcases h with rfl | ⟨b', o', he, hb, hm⟩
  · exact .inl (by simp)
  · cases he
    exact .inr ⟨b, o + j, rfl, hb, fun i x hx => by rw [Nat.add_assoc]; exact hm (j + i) x (by rw [← List.getElem?_drop]; exact hx)⟩
theorem skip_at (b o n c k : Nat) (l : List UInt8) (w : World) (hl : l.length = n) (hn : n ≤ 2147483647) (hc : n ≤ c) (hk : k ≤ n) (hb : b < w.heap.size)
    (hm : ∀ i x, l[i]? = some x → w.cell? ⟨b, o + i, none⟩ = some (.int .u8 x.toNat)) :
    Calls Tryd.prog 31 #[.slice (some ⟨b, o, none⟩) n c, .int .i64 k] w fun e w' => e = .returned (.int .i64 (n - (sk (l.drop k)).length)) ∧ Below w.heap.size w w' := by
  have M0 : Mem w (some ⟨b, o, none⟩) l := .inr ⟨b, o, rfl, hb, hm⟩
  have kc := fun (w : World) (C : Array Value) (n c : Nat) => Lib.run_convert_bytes_const (P := Tryd.prog) w 34 5 C n c Tryd.underlying34 Tryd.underlying5
  go_enter Tryd.func31, Tryd.ntmps31
  go_wp2
  go_loop [1] (fun i => ∃ j : Nat, k ≤ j ∧ j ≤ n ∧ i = .int .i64 j ∧ gp (l.drop k) = gp (l.drop j)) (fun i => n - (intOf i).toNat)
  case atStart => exact ⟨k, Nat.le_refl _, hk, rfl, rfl⟩
  case round =>
    obtain ⟨j, hkj, hjn, rfl, hg⟩ := hrel
    have HG := hide hg
    clear hg
    have HM := hide hm
    clear hm
    have HK : Hid (sk (l.drop k) = sk (l.drop j)) := by show sk (l.drop k) = sk (l.drop j); unfold sk; rw [HG.out]
    have HX := hide (M0.dropAt j)
    by_cases hlt : j < n
    · have hcell := HM.out j l[j] (by simp)
      by_cases h32 : ((l[j].toNat : Int) == 32) = true
      · have H3 := hide (gp_space (l := l) (j := j) (by omega) h32)
        go_wp2
        exact ⟨⟨j + 1, by omega, by omega, by go_num, by rw [HG.out, H3.out]⟩, by simp [intOf]; omega⟩
      · have h32' : ((l[j].toNat : Int) == 32) = false := by simpa using h32
        have HE := hide (skip_end l j n hl hjn (gp_other (by omega) h32'))
        clear h32
        cases hpre : ((l.drop j).take 2 == [45, 45])
        all_goals
          rw [hpre] at HE
          have HPRE := hide hpre
          clear hpre
          go_wp2_with fail
          · refine (hasPre w _ (n - j) (c - j) (l.drop j) (by rw [List.length_drop, hl]) (by omega) HX.out).mono ?_
            rintro e w' ⟨rfl, rfl⟩
            rw [HPRE.out]
            go_wp2_with fail
            go_ret
            exact ⟨by rw [HK.out, HE.out]; rfl, (Below.refl _ _).alloc (Nat.le_refl _) _⟩
    · have HE := hide (skip_end l j n hl hjn (by rw [List.drop_eq_nil_of_le (by omega)]; rfl))
      have hd : l.drop j = [] := List.drop_eq_nil_of_le (by omega)
      have HPRE : Hid (((l.drop j).take 2 == [45, 45]) = false) := by show ((l.drop j).take 2 == [45, 45]) = false; rw [hd]; rfl
      rw [HPRE.out] at HE
      clear hd
      go_wp2_with fail
      all_goals
        refine (hasPre w _ _ _ (l.drop j) (by rw [List.length_drop, hl]) (by omega) (by rw [List.drop_eq_nil_of_le (by omega)]; exact Mem.nil _ _)).mono ?_
        rintro e w' ⟨rfl, rfl⟩
        rw [HPRE.out]
        go_wp2_with fail
        go_ret
        exact ⟨by rw [HK.out, HE.out]; rfl, (Below.refl _ _).alloc (Nat.le_refl _) _⟩
theorem skip_none (n c : Nat) (p : Option Addr) (w : World) (hp : p = none → c = 0) :
    Calls Tryd.prog 31 #[.slice p 0 c, .int .i64 0] w fun e w' => e = .returned (.int .i64 0) ∧ Below w.heap.size w w' := by
  have kc := fun (w : World) (C : Array Value) (n c : Nat) => Lib.run_convert_bytes_const (P := Tryd.prog) w 34 5 C n c Tryd.underlying34 Tryd.underlying5
  cases p with
  | none =>
    obtain rfl := hp rfl
    go_enter Tryd.func31, Tryd.ntmps31
    go_wp2
    go_loop [1] (fun i => i = .int .i64 0) (fun i => 0)
    case atStart => rfl
    case round =>
      subst hrel
      go_wp2_with fail
      refine (hasPre w _ 0 0 [] rfl (Nat.zero_le _) (Mem.nil _ _)).mono ?_
      rintro e w' ⟨rfl, rfl⟩
      go_wp2_with fail
      go_ret
      exact ⟨rfl, (Below.refl _ _).alloc (Nat.le_refl _) _⟩
  | some a =>
    go_enter Tryd.func31, Tryd.ntmps31
    go_wp2
    go_loop [1] (fun i => i = .int .i64 0) (fun i => 0)
    case atStart => rfl
    case round =>
      subst hrel
      go_wp2_with fail
      all_goals
        refine (hasPre w _ 0 c [] rfl (Nat.zero_le _) (Mem.nil _ _)).mono ?_
        rintro e w' ⟨rfl, rfl⟩
        go_wp2_with fail
        go_ret
        exact ⟨rfl, (Below.refl _ _).alloc (Nat.le_refl _) _⟩
def cl (x : UInt8) : Value := .int .u8 x.toNat
theorem info5 : (Tryd.prog.info? 5).map (fun i => (i.zero, i.size, i.bytes)) = some (some (.int .u8 0), 1, 1) := by kernel_rfl
theorem row_mem {W : World} {n₀ n c : Nat} {p : Option Addr} {l : List UInt8} (h : W.ownsRow n₀ 5 1 (.slice p n c) n (l.map cl)) : Mem W p l := by
  rcases h.2 with ⟨hv, h0⟩ | ⟨g, cap, cur, hv, hb, hg, h1, h2, h3, h4⟩
  · have := h.1; simp [h0] at this; exact .inl this
  · cases hv
    have hl := h.1
    simp only [List.length_map, Nat.mul_one] at hl h4
    refine .inr ⟨g, 0, rfl, (Array.getElem?_eq_some_iff.1 hg).1, fun i x hx => ?_⟩
    have hi : i < n := by have := (List.getElem?_eq_some_iff.1 hx).1; omega
    have e : cur.toList[i]? = some (cl x) := by
      have := congrArg (fun y => y[i]?) h4
      simp only [List.getElem?_take, if_pos hi, List.getElem?_map, hx, Option.map_some] at this
      exact this
    simp only [World.cell?, hg, Nat.zero_add]
    rw [← Array.getElem?_toList]; exact e
theorem row_str {W : World} {n₀ c : Nat} {p : Option Addr} {l : List UInt8} (hl : l ≠ []) (n : Nat) (hn : l.length = n) (h : W.ownsRow n₀ 5 1 (.slice p n c) n (l.map cl)) :
    (convert 34 9 (.slice p n c)).run Tryd.prog W = .ok (.string (S l)) W := by
  subst hn; exact (row_mem h).str hl c
theorem map_snoc (l : List UInt8) (x : UInt8) : l.map cl ++ [cl x] = (l ++ [x]).map cl := by simp
theorem grow_any (B n₀ g cap : Nat) (l : List UInt8) (x : UInt8) (W : World) (hl0 : l ≠ []) (hlen : l.length ≤ 100) (hB : Boxed W B 34 (.slice (some ⟨g, 0, none⟩) l.length cap)) (hrow : W.ownsRow n₀ 5 1 (.slice (some ⟨g, 0, none⟩) l.length cap) l.length (l.map cl)) (hn : n₀ ≤ W.heap.size) (hnB : n₀ ≤ B) :
    Calls Tryd.prog 67 #[.int .u8 x.toNat, .pointer (some ⟨B, 0, none⟩)] W fun e W' => ∃ g' cap', e = .returned (.bool (sg (l ++ [x]))) ∧ Boxed W' B 34 (.slice (some ⟨g', 0, none⟩) (l.length + 1) cap') ∧ W'.ownsRow n₀ 5 1 (.slice (some ⟨g', 0, none⟩) (l.length + 1) cap') (l.length + 1) ((l ++ [x]).map cl) ∧ Below n₀ W W' := by
  obtain ⟨i0, hi, hz0, hz1, hz2⟩ := info_parts info5
  have hc := hB.cell
  have hf := hB.frozen
  go_enter Tryd.func67, Tryd.ntmps67
  go_wp2_with (at_builtin; refine wpList_append_own _ rfl _ _ 34 rfl n₀ 5 i0 (.int .u8 0) 1 1 Tryd.underlying34 hi hz0 hz1 hz2 rfl (by decide) _ _ _ rfl (hrow.alloc _) ⟨W.heap.size, 0, none⟩ 1 1 [cl x] rfl rfl (cell_one_new _ _ _) (by simp [Value.oneCell', cl]) (by unfold maxLen; omega) (by omega) (by simp; omega) ?_; intro v' w1 hown' hgrow _; obtain ⟨g', cap', rfl⟩ := ownsRow_succ hown'; obtain ⟨hv1, hv2, hr2, hk2, hb2⟩ := hB.appended (by decide) hrow hn hnB hown' hgrow; have hc1 := hv1.cell; have hf1 := hv1.frozen; have hc2 := hv2.cell; have hf2 := hv2.frozen; rw [map_snoc] at hr2; have hcv := row_str (l := l ++ [x]) (by simp) (l.length + 1) (by simp) hr2)
  refine (sign_any _ _).mono ?_
  rintro e w' ⟨rfl, rfl⟩
  go_wp2_with fail
  go_ret
  exact ⟨g', cap', rfl, hv2, hr2, hb2⟩

theorem ret_int {k : IntKind} {a b : Int} (h : a = b) : Ending.returned (.int k a) = .returned (.int k b) := by rw [h]
theorem tw_at (p : UInt8 → Bool) : ∀ (r : List UInt8) (k : Nat), k ≤ r.length → (r.take k).all p = true → (∀ h : k < r.length, p r[k] = false) → (r.takeWhile p).length = k
  | [], k, hk, _, _ => by simp at hk; simp [hk]
  | a :: r, 0, _, _, hs => by have := hs (by simp); simp at this; simp [this]
  | a :: r, k + 1, hk, ha, hs => by
    simp only [List.take_succ_cons, List.all_cons, Bool.and_eq_true] at ha
    simp only [List.takeWhile_cons, ha.1, if_true, List.length_cons]
    rw [tw_at p r k (by simpa using hk) ha.2 (fun h => by have := hs (by simp; omega); simpa using this)]

set_option maxHeartbeats 1000000 in
theorem end_run (x : UInt8) (f : Nat) (p : UInt8 → Bool) (hf : f = 50 ∨ f = 66) (hp : ∀ (c : UInt8) (w : World), Calls Tryd.prog f #[.int .u8 c.toNat] w fun e w' => e = .returned (.bool (p c)) ∧ w' = w)
    (hgo : ∀ w : World, Calls Tryd.prog 55 #[.int .u8 x.toNat] w fun e w' => e = .returned (.func (.func f) #[] #[]) ∧ w' = w)
    (b o c : Nat) (r : List UInt8) (w : World) (hn : r.length + 1 ≤ 2147483647)
    (hm : ∀ i y, (x :: r)[i]? = some y → w.cell? ⟨b, o + i, none⟩ = some (.int .u8 y.toNat)) :
    Calls Tryd.prog 33 #[.slice (some ⟨b, o, none⟩) (r.length + 1) c] w fun e w' => e = .returned (.int .i64 (1 + (r.takeWhile p).length : Nat)) ∧ w' = w := by
  have hx := hm 0 x rfl
  rw [Nat.add_zero] at hx
  have HM := hide hm
  have HP := hide hp
  have HGO := hide hgo
  clear hm hp hgo
  rcases hf with rfl | rfl
  all_goals
    go_enter Tryd.func33, Tryd.ntmps33
    go_wp2_with fail
    refine (HGO.out _).mono ?_
    rintro e w' ⟨rfl, rfl⟩
    go_wp2_with fail
    go_loop [4] (fun i => ∃ k : Nat, k ≤ r.length ∧ i = .int .i64 (k + 1 : Nat) ∧ (r.take k).all p = true) (fun i => r.length + 1 - (intOf i).toNat)
    case atStart => exact ⟨0, Nat.zero_le _, rfl, rfl⟩
    case round =>
      obtain ⟨k, hk, rfl, hall⟩ := hrel
      have HA := hide hall
      clear hall
      by_cases hlt : k < r.length
      · have hcell := HM.out (k + 1) r[k] (by simp [hlt])
        have HT := hide (all_take_succ p r k hlt)
        cases hq : p r[k]
        · have HE := hide (tw_at p r k hk HA.out (fun _ => hq))
          have HQ := hide hq
          clear hq
          go_wp2_with fail
          refine (HP.out _ _).mono ?_
          rintro e w' ⟨rfl, rfl⟩
          rw [HQ.out]
          go_wp2_with fail
          go_ret
          exact ⟨by show Ending.returned (Value.int .i64 ((k : Int) + 1)) = _; exact ret_int (by rw [HE.out]; omega), rfl⟩
        · have HQ := hide hq
          clear hq
          go_wp2_with fail
          refine (HP.out _ _).mono ?_
          rintro e w' ⟨rfl, rfl⟩
          rw [HQ.out]
          go_wp2_with fail
          go_round
          case rel => exact ⟨k + 1, by omega, by go_num, by rw [HT.out, HA.out, HQ.out]; rfl⟩
          case measure => simp [intOf]; omega
      · have HE := hide (tw_at p r k hk HA.out (fun h => absurd h hlt))
        go_wp2
        go_ret
        exact ⟨by show Ending.returned (Value.int .i64 ((k : Int) + 1)) = _; exact ret_int (by rw [HE.out]; omega), rfl⟩

theorem goesOn_dig (x : UInt8) (h : dg x = true) (w : World) : Calls Tryd.prog 55 #[.int .u8 x.toNat] w fun e w' => e = .returned (.func (.func 50) #[] #[]) ∧ w' = w := by
  go_enter Tryd.func55, Tryd.ntmps55
  go_wp2_with fail
  refine (digit_any _ _).mono ?_; rintro e w' ⟨rfl, rfl⟩; rw [h]
  go_wp2_with fail
  go_ret
  exact ⟨rfl, rfl⟩
theorem goesOn_word (x : UInt8) (h : dg x = false) (h2 : pt x = true) (w : World) : Calls Tryd.prog 55 #[.int .u8 x.toNat] w fun e w' => e = .returned (.func (.func 66) #[] #[]) ∧ w' = w := by
  go_enter Tryd.func55, Tryd.ntmps55
  go_wp2_with fail
  refine (digit_any _ _).mono ?_; rintro e w' ⟨rfl, rfl⟩; rw [h]
  go_wp2_with fail
  refine (inWord_any _ _).mono ?_; rintro e w' ⟨rfl, rfl⟩; rw [h2]
  go_wp2_with fail
  go_ret
  exact ⟨rfl, rfl⟩
theorem goesOn_sign (x : UInt8) (h : dg x = false) (h2 : pt x = false) (w : World) : Calls Tryd.prog 55 #[.int .u8 x.toNat] w fun e w' =>
    e = .returned (.func (.func 67) #[] #[.pointer (some ⟨w.heap.size + 1, 0, none⟩)]) ∧ w' = (w.alloc (.cells #[cl x] 5)).alloc (.cells #[.slice (some ⟨w.heap.size, 0, none⟩) 1 1] 34) := by
  unfold cl
  go_enter Tryd.func55, Tryd.ntmps55
  go_wp2_with fail
  refine (digit_any _ _).mono ?_; rintro e w' ⟨rfl, rfl⟩; rw [h]
  go_wp2_with fail
  refine (inWord_any _ _).mono ?_; rintro e w' ⟨rfl, rfl⟩; rw [h2]
  go_wp2_with fail
  go_ret
  exact ⟨rfl, rfl⟩
end Go.Proofs.YtnifnbndkbmdcaaDoor
