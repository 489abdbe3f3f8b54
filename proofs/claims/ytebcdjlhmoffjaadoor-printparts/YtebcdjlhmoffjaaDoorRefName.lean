/-
  THE WALKS OF dawdlerref02's SMALL FUNCTIONS.
-/
import Derived.Test.YtebcdjlhmoffjaaDoorBase
namespace Go.Proofs.YtebcdjlhmoffjaaDoor
open Go.RowKit
set_option linter.unusedVariables false
variable {b : Nat}

theorem rdigit_any (c : UInt8) (w : World) : Calls Tryd.prog 88 #[.int .u8 c.toNat] w fun e w' => e = .returned (.bool (dg c)) ∧ w' = w := by
  unfold dg
  generalize (c.toNat : Int) = n
  by_cases h : 48 ≤ n <;>
  · go_enter Tryd.func88, Tryd.ntmps88
    go_wp2
    go_ret
    exact ⟨by simp; try omega, rfl⟩
theorem rsmall_any (c : UInt8) (w : World) : Calls Tryd.prog 78 #[.int .u8 c.toNat] w fun e w' => e = .returned (.bool (sm c)) ∧ w' = w := by
  unfold sm
  generalize (c.toNat : Int) = n
  by_cases h : 97 ≤ n <;>
  · go_enter Tryd.func78, Tryd.ntmps78
    go_wp2
    go_ret
    exact ⟨by simp; try omega, rfl⟩
theorem rgreat_any (c : UInt8) (w : World) : Calls Tryd.prog 65 #[.int .u8 c.toNat] w fun e w' => e = .returned (.bool (gr c)) ∧ w' = w := by
  unfold gr
  generalize (c.toNat : Int) = n
  by_cases h : 65 ≤ n <;>
  · go_enter Tryd.func65, Tryd.ntmps65
    go_wp2
    go_ret
    exact ⟨by simp; try omega, rfl⟩
theorem rpart_any (c : UInt8) (w : World) : Calls Tryd.prog 81 #[.int .u8 c.toNat] w fun e w' => e = .returned (.bool (pt c)) ∧ w' = w := by
  unfold pt
  cases h1 : dg c
  · cases h2 : sm c
    · go_enter Tryd.func81, Tryd.ntmps81
      go_wp2_with fail
      refine (rdigit_any _ _).mono ?_; rintro e w' ⟨rfl, rfl⟩; rw [h1]
      go_wp2_with fail
      refine (rsmall_any _ _).mono ?_; rintro e w' ⟨rfl, rfl⟩; rw [h2]
      go_wp2_with fail
      refine (rgreat_any _ _).mono ?_; rintro e w' ⟨rfl, rfl⟩
      go_wp2_with fail
      go_ret
      exact ⟨by simp, rfl⟩
    · go_enter Tryd.func81, Tryd.ntmps81
      go_wp2_with fail
      refine (rdigit_any _ _).mono ?_; rintro e w' ⟨rfl, rfl⟩; rw [h1]
      go_wp2_with fail
      refine (rsmall_any _ _).mono ?_; rintro e w' ⟨rfl, rfl⟩; rw [h2]
      go_wp2_with fail
      go_ret
      exact ⟨by simp, rfl⟩
  · go_enter Tryd.func81, Tryd.ntmps81
    go_wp2_with fail
    refine (rdigit_any _ _).mono ?_; rintro e w' ⟨rfl, rfl⟩; rw [h1]
    go_wp2_with fail
    go_ret
    exact ⟨by simp, rfl⟩
/-- The key words, the signs. -/
def kwL : List (List UInt8) := [[99, 97, 115, 101], [111, 102], [108, 101, 116], [105, 110], [100, 111], [100, 111, 115], [105, 102], [116, 104, 101, 110], [101, 108, 115, 101], [100, 97, 116, 97]]
def sgL : List (List UInt8) := [[45, 62], [60, 45], [61, 61], [61], [60], [43], [45], [42], [47], [92], [40], [41], [123], [125], [59], [124]]
theorem kw_L (l : List UInt8) : kw l = kwL.any (l == ·) := by unfold kw kwL; simp only [List.any_cons, List.any_nil, Bool.or_false, Bool.or_assoc]
theorem sg_L (l : List UInt8) : sg l = sgL.any (l == ·) := by unfold sg sgL; simp only [List.any_cons, List.any_nil, Bool.or_false, Bool.or_assoc]
/-- A list of texts in memory. -/
def SMem (w : World) (b : Nat) (L : List (List UInt8)) : Prop := b < w.heap.size ∧ ∀ i s, L[i]? = some s → w.cell? ⟨b, i, none⟩ = some (.string (S s))
theorem SMem.below {w w' : World} {b n : Nat} {L : List (List UInt8)} (h : SMem w b L) (hn : w.heap.size ≤ n) (hb : Below n w w') : SMem w' b L :=
  ⟨Nat.lt_of_lt_of_le h.1 hb.size, fun i s hs => (hb.cell (p := ⟨b, i, none⟩) (Nat.lt_of_lt_of_le h.1 hn)).trans (h.2 i s hs)⟩
theorem smem_const (w : World) (L : List (List UInt8)) (C : Array Value) (hC : C = (L.map fun s => Value.string (S s)).toArray) : SMem (w.alloc (.cells C 9)) w.heap.size L := by
  refine ⟨by simp, fun i x hx => ?_⟩
  rw [World.cell?_alloc_mark, hC]
  simp [hx]
theorem words_any (w : World) : Calls Tryd.prog 80 #[] w fun e w' => e = .returned (.slice (some ⟨w.heap.size, 0, none⟩) 10 10) ∧ SMem w' w.heap.size kwL ∧ Below w.heap.size w w' := by
  go_enter Tryd.func80, Tryd.ntmps80
  go_wp2_with fail
  go_ret
  exact ⟨rfl, smem_const w kwL _ rfl, (Below.refl _ w).alloc (Nat.le_refl _) _⟩
theorem in_any (b n : Nat) (L : List (List UInt8)) (l : List UInt8) (w : World) (hn : L.length = n) (hn2 : n ≤ 100) (hM : SMem w b L) : Calls Tryd.prog 79 #[.slice (some ⟨b, 0, none⟩) n n, .string (S l)] w fun e w' => e = .returned (.bool (L.any (l == ·))) ∧ w' = w := by
  go_enter Tryd.func79, Tryd.ntmps79
  go_wp2_with fail
  go_loop [5] (fun i => ∃ k : Nat, k ≤ n ∧ i = .int .i64 k ∧ (L.take k).any (l == ·) = false) (fun i => n - (intOf i).toNat)
  case atStart => exact ⟨0, Nat.zero_le _, rfl, rfl⟩
  case round =>
    obtain ⟨k, hk, rfl, hall⟩ := hrel
    by_cases hlt : k < n
    · have hkl : k < L.length := by omega
      have hc := hM.2 k L[k] (by simp)
      have HT : Hid ((L.take (k + 1)).any (l == ·) = ((L.take k).any (l == ·) || (l == L[k]))) := by
        show (L.take (k + 1)).any (l == ·) = ((L.take k).any (l == ·) || (l == L[k]))
        rw [List.take_succ_eq_append_getElem hkl, List.any_append]; simp
      have HI : Hid ((l == L[k]) = true → L.any (l == ·) = true) := by
        intro h; exact List.any_eq_true.2 ⟨L[k], List.getElem_mem hkl, h⟩
      have HA := hide hall
      clear hall
      have hS1 := S_list l
      have hS2 := S_list L[k]
      generalize L[k] = x at *
      cases hq : (l == x)
      · have hq2 : (x == l) = false := by rw [Bool.beq_comm]; exact hq
        go_wp2_with fail
        go_round
        case rel => exact ⟨k + 1, by omega, by go_num, by rw [HT.out, HA.out, hq]; rfl⟩
        case measure => simp [intOf]; omega
      · have hq2 : (x == l) = true := by rw [Bool.beq_comm]; exact hq
        have HQ := HI.out hq
        clear HI
        go_wp2_with fail
        go_ret
        exact ⟨rfl, rfl⟩
    · have HX : Hid (L.any (l == ·) = false) := by
        show L.any (l == ·) = false
        rw [← hall, List.take_of_length_le (by omega)]
      go_wp2_with fail
      go_ret
      exact ⟨by rw [HX.out]; rfl, rfl⟩
theorem parts_str (s : ByteArray) (w : World) (hl : s.size ≤ 281474976710656) : Calls Tryd.prog 64 #[.string s] w fun e w' => e = .returned (.bool (wd s.data.toList)) ∧ w' = w := by
  have hz := dlen s
  by_cases h0 : s.size = 0
  · have e0 : s.data.toList = [] := List.length_eq_zero_iff.1 (by omega)
    have H : Hid (wd s.data.toList = false) := by show wd s.data.toList = false; rw [e0]; rfl
    have h1 : (s.size : Int) < 1 := by omega
    clear h0 e0 hz
    go_enter Tryd.func64, Tryd.ntmps64
    go_wp2
    go_ret
    exact ⟨by rw [H.out]; rfl, rfl⟩
  · have hne : s.data.toList.isEmpty = false := by cases h : s.data.toList with | nil => rw [h] at hz; simp at hz; omega | cons a b => rfl
    have h1 : ¬ (s.size : Int) < 1 := by omega
    by_cases h20 : 20 < (s.size : Int)
    · have H : Hid (wd s.data.toList = false) := by show wd s.data.toList = false; unfold wd; rw [hz, show decide (s.size ≤ 20) = false from by simp; omega]; simp
      clear h0 hne hz
      go_enter Tryd.func64, Tryd.ntmps64
      go_wp2
      go_ret
      exact ⟨by rw [H.out]; rfl, rfl⟩
    · have H : Hid (wd s.data.toList = s.data.toList.all pt) := by
        show wd s.data.toList = s.data.toList.all pt; unfold wd; rw [hne, hz, show decide (s.size ≤ 20) = true from by simp; omega]; simp
      have HZ := hide hz
      clear h0 hne hz
      go_enter Tryd.func64, Tryd.ntmps64
      go_wp2
      go_loop [3] (fun i => ∃ k : Nat, k ≤ s.size ∧ i = .int .i64 k ∧ (s.data.toList.take k).all pt = true) (fun i => s.size - (intOf i).toNat)
      case atStart => exact ⟨0, Nat.zero_le _, rfl, rfl⟩
      case round =>
        obtain ⟨k, hk, rfl, hall⟩ := hrel
        have HA := hide hall
        clear hall
        by_cases hlt : k < s.size
        · have hlt' : k < s.data.toList.length := by rw [HZ.out]; exact hlt
          have HT := hide (all_take_succ pt _ k hlt')
          have hb := all_of_bad pt _ k hlt'
          have HD := hide (dget s k hlt hlt')
          cases hq : pt s[k]
          · have HB := hide (hb hq)
            clear hb
            go_wp2_with fail
            refine (rpart_any _ _).mono ?_; rintro e w' ⟨rfl, rfl⟩; rw [hq]
            go_wp2_with fail
            go_ret
            exact ⟨by rw [H.out, HB.out]; rfl, rfl⟩
          · clear hb
            have HQ := hide hq
            go_wp2_with fail
            refine (rpart_any _ _).mono ?_; rintro e w' ⟨rfl, rfl⟩; rw [HQ.out]
            go_wp2_with fail
            go_round
            case rel => exact ⟨k + 1, by omega, by go_num, by rw [HT.out, HA.out, ← HD.out, HQ.out]; rfl⟩
            case measure => simp [intOf]; omega
        · go_wp2
          go_ret
          exact ⟨by rw [H.out, ← HA.out, List.take_of_length_le (by rw [HZ.out]; omega)]; rfl, rfl⟩
theorem in_words (l : List UInt8) (w : World) (hM : SMem w b kwL) : Calls Tryd.prog 79 #[.slice (some ⟨b, 0, none⟩) 10 10, .string (S l)] w fun e w' => e = .returned (.bool (kw l)) ∧ w' = w := by
  rw [kw_L]; exact in_any b 10 kwL l w rfl (by omega) hM
theorem rcon_any (l : List UInt8) (w : World) (hl : l.length ≤ 281474976710656) : Calls Tryd.prog 43 #[.string (S l)] w fun e w' => e = .returned (.bool (cn l)) ∧ w' = w := by
  have HP := hide (fun w => parts_str (S l) w (by rw [S_size]; exact hl))
  rw [S_data] at HP
  cases hw : wd l
  · have H : Hid (cn l = false) := by show cn l = false; unfold cn; rw [hw]; rfl
    rw [hw] at HP
    go_enter Tryd.func43, Tryd.ntmps43
    go_wp2_with fail
    refine (HP.out _).mono ?_; rintro e w' ⟨rfl, rfl⟩
    go_wp2_with fail
    go_ret
    exact ⟨by rw [H.out]; rfl, rfl⟩
  · cases l with
    | nil => simp [wd] at hw
    | cons c r =>
      have H : Hid (cn (c :: r) = gr c) := by show cn (c :: r) = gr c; unfold cn; rw [hw, Bool.true_and]; rfl
      rw [hw] at HP
      have HG : ∀ h, (S (c :: r))[0]'h = c := fun h => rfl
      have hz : 0 < (S (c :: r)).size := by rw [S_size]; simp
      have HG' := hide HG
      generalize S (c :: r) = s at *
      clear HG
      go_enter Tryd.func43, Tryd.ntmps43
      go_wp2_with fail
      refine (HP.out _).mono ?_; rintro e w' ⟨rfl, rfl⟩
      go_wp2_with fail
      rw [HG'.out]
      refine (rgreat_any _ _).mono ?_; rintro e w' ⟨rfl, rfl⟩
      go_wp2_with fail
      go_ret
      exact ⟨by rw [H.out]; rfl, rfl⟩
theorem rname_any (l : List UInt8) (w : World) (hl : l.length ≤ 281474976710656) : Calls Tryd.prog 63 #[.string (S l)] w fun e w' => e = .returned (.bool (nm l)) ∧ Below w.heap.size w w' := by
  have HP := hide (fun w => parts_str (S l) w (by rw [S_size]; exact hl))
  have HI := hide (fun (b : Nat) w hM => in_words (b := b) l w hM)
  rw [S_data] at HP
  cases hw : wd l
  · have H : Hid (nm l = false) := by show nm l = false; unfold nm; rw [hw]; rfl
    rw [hw] at HP
    go_enter Tryd.func63, Tryd.ntmps63
    go_wp2_with fail
    refine (HP.out _).mono ?_; rintro e w' ⟨rfl, rfl⟩
    go_wp2_with fail
    go_ret
    exact ⟨by rw [H.out]; rfl, Below.refl _ _⟩
  · cases l with
    | nil => simp [wd] at hw
    | cons c r =>
      have H : Hid (nm (c :: r) = (sm c && !kw (c :: r))) := by show nm (c :: r) = (sm c && !kw (c :: r)); unfold nm; rw [hw, Bool.true_and]; rfl
      rw [hw] at HP
      have HG : ∀ h, (S (c :: r))[0]'h = c := fun h => rfl
      have hz : 0 < (S (c :: r)).size := by rw [S_size]; simp
      have HG' := hide HG
      generalize S (c :: r) = s at *
      clear HG
      cases hs : sm c
      · go_enter Tryd.func63, Tryd.ntmps63
        go_wp2_with fail
        refine (HP.out _).mono ?_; rintro e w' ⟨rfl, rfl⟩
        go_wp2_with fail
        rw [HG'.out]
        refine (rsmall_any _ _).mono ?_; rintro e w' ⟨rfl, rfl⟩; rw [hs]
        go_wp2_with fail
        go_ret
        exact ⟨by rw [H.out, hs]; rfl, Below.refl _ _⟩
      · go_enter Tryd.func63, Tryd.ntmps63
        go_wp2_with fail
        refine (HP.out _).mono ?_; rintro e w' ⟨rfl, rfl⟩
        go_wp2_with fail
        rw [HG'.out]
        refine (rsmall_any _ _).mono ?_; rintro e w' ⟨rfl, rfl⟩; rw [hs]
        go_wp2_with fail
        refine (words_any _).mono ?_; rintro e w1 ⟨rfl, h1, b1⟩
        go_wp2_with fail
        refine (HI.out _ _ h1).mono ?_; rintro e w2 ⟨rfl, rfl⟩
        go_wp2_with fail
        go_ret
        exact ⟨by rw [H.out, hs]; rfl, b1⟩
end Go.Proofs.YtebcdjlhmoffjaaDoor
