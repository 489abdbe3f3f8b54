/-
  THE WALKS OF lex's SMALL FUNCTIONS: kinds of bytes, key words, signs, names, constructors.
-/
import Derived.Test.YtebcdjlhmoffjaaDoorRows
import Derived.Test.YtebcdjlhmoffjaaDoorMath
import Derived.WalkKit
import Derived.WalkSpells
import Derived.StillTactics
import Derived.Laws.Pointers
import Derived.Laws.StructEq
import Derived.RowKit3
import Derived.Deep.RegionWith
import Derived.BigQuiet
import Derived.Deep.QuietTactic
namespace Go.Proofs.YtebcdjlhmoffjaaDoor
open Go.RowKit

set_option linter.unusedVariables false
theorem hide {p : Prop} (h : p) : Hid p := h
/-- A text of these bytes. -/
def S (l : List UInt8) : ByteArray := ⟨l.toArray⟩
theorem S_data (l : List UInt8) : (S l).data.toList = l := rfl
theorem S_list (l : List UInt8) : (S l).toList = l := by rw [ByteArray.toList_eq]; rfl
theorem S_size (l : List UInt8) : (S l).size = l.length := by simp [S, ByteArray.size]
theorem S_of (s : ByteArray) : S s.data.toList = s := by cases s; simp [S]
theorem S_get (l : List UInt8) (i : Nat) (h : i < (S l).size) (h' : i < l.length) : (S l)[i] = l[i] := by
  simp [S, ByteArray.getElem_eq_getElem_data]

theorem digit_any (c : UInt8) (w : World) : Calls Tryd.prog 84 #[.int .u8 c.toNat] w fun e w' => e = .returned (.bool (dg c)) ∧ w' = w := by
  unfold dg
  generalize (c.toNat : Int) = n
  by_cases h : 48 ≤ n <;>
  · go_enter Tryd.func84, Tryd.ntmps84
    go_wp2
    go_ret
    exact ⟨by simp; try omega, rfl⟩
theorem small_any (c : UInt8) (w : World) : Calls Tryd.prog 50 #[.int .u8 c.toNat] w fun e w' => e = .returned (.bool (sm c)) ∧ w' = w := by
  unfold sm
  generalize (c.toNat : Int) = n
  by_cases h : 97 ≤ n <;>
  · go_enter Tryd.func50, Tryd.ntmps50
    go_wp2
    go_ret
    exact ⟨by simp; try omega, rfl⟩
theorem great_any (c : UInt8) (w : World) : Calls Tryd.prog 71 #[.int .u8 c.toNat] w fun e w' => e = .returned (.bool (gr c)) ∧ w' = w := by
  unfold gr
  generalize (c.toNat : Int) = n
  by_cases h : 65 ≤ n <;>
  · go_enter Tryd.func71, Tryd.ntmps71
    go_wp2
    go_ret
    exact ⟨by simp; try omega, rfl⟩
theorem inWord_any (c : UInt8) (w : World) : Calls Tryd.prog 74 #[.int .u8 c.toNat] w fun e w' => e = .returned (.bool (pt c)) ∧ w' = w := by
  unfold pt
  cases h1 : sm c
  · cases h2 : gr c
    · go_enter Tryd.func74, Tryd.ntmps74
      go_wp2_with fail
      refine (small_any _ _).mono ?_; rintro e w' ⟨rfl, rfl⟩; rw [h1]
      go_wp2_with fail
      refine (great_any _ _).mono ?_; rintro e w' ⟨rfl, rfl⟩; rw [h2]
      go_wp2_with fail
      refine (digit_any _ _).mono ?_; rintro e w' ⟨rfl, rfl⟩
      go_wp2_with fail
      go_ret
      exact ⟨by simp, rfl⟩
    · go_enter Tryd.func74, Tryd.ntmps74
      go_wp2_with fail
      refine (small_any _ _).mono ?_; rintro e w' ⟨rfl, rfl⟩; rw [h1]
      go_wp2_with fail
      refine (great_any _ _).mono ?_; rintro e w' ⟨rfl, rfl⟩; rw [h2]
      go_wp2_with fail
      go_ret
      exact ⟨by simp, rfl⟩
  · go_enter Tryd.func74, Tryd.ntmps74
    go_wp2_with fail
    refine (small_any _ _).mono ?_; rintro e w' ⟨rfl, rfl⟩; rw [h1]
    go_wp2_with fail
    go_ret
    exact ⟨by simp, rfl⟩

theorem keyWord_any (l : List UInt8) (w : World) : Calls Tryd.prog 51 #[.string (S l)] w fun e w' => e = .returned (.bool (kw l)) ∧ w' = w := by
  have hl := S_list l
  unfold kw
  generalize S l = s at *
  subst hl
  go_enter Tryd.func51, Tryd.ntmps51
  go_wp2
  all_goals first | (exfalso; simp_all; done) | skip
  all_goals go_ret
  all_goals exact ⟨by simp_all, rfl⟩
theorem all_take_succ (p : UInt8 → Bool) (l : List UInt8) (k : Nat) (h : k < l.length) : (l.take (k + 1)).all p = ((l.take k).all p && p l[k]) := by
  rw [List.take_succ_eq_append_getElem h, List.all_append]; simp
theorem all_of_bad (p : UInt8 → Bool) (l : List UInt8) (k : Nat) (h : k < l.length) (hb : p l[k] = false) : l.all p = false := by
  rw [List.all_eq_false]; exact ⟨l[k], List.getElem_mem h, by simp [hb]⟩
theorem dget (s : ByteArray) (k : Nat) (h : k < s.size) (h' : k < s.data.toList.length) : s[k] = s.data.toList[k] := rfl
theorem dlen (s : ByteArray) : s.data.toList.length = s.size := Array.length_toList
theorem word_str (s : ByteArray) (w : World) (hl : s.size ≤ 281474976710656) : Calls Tryd.prog 49 #[.string s] w fun e w' => e = .returned (.bool (wd s.data.toList)) ∧ w' = w := by
  have hs := ByteArray.toList_eq s
  have hz := dlen s
  by_cases h0 : s.size = 0
  · have e0 : s.data.toList = [] := List.length_eq_zero_iff.1 (by omega)
    have H : Hid (wd s.data.toList = false) := by show wd s.data.toList = false; rw [e0]; rfl
    have h1 : (s.toList == []) = true := by rw [hs, e0]; rfl
    clear h0 hs e0 hz
    go_enter Tryd.func49, Tryd.ntmps49
    go_wp2
    go_ret
    exact ⟨by rw [H.out]; rfl, rfl⟩
  · have h1 : (s.toList == []) = false := by
      rw [hs]; cases h : s.data.toList with | nil => rw [h] at hz; simp at hz; omega | cons a b => rfl
    have hne : s.data.toList.isEmpty = false := by cases h : s.data.toList with | nil => rw [h] at hz; simp at hz; omega | cons a b => rfl
    by_cases h20 : 20 < (s.size : Int)
    · have H : Hid (wd s.data.toList = false) := by show wd s.data.toList = false; unfold wd; rw [hz, show decide (s.size ≤ 20) = false from by simp; omega]; simp
      clear h0 hs hne hz
      go_enter Tryd.func49, Tryd.ntmps49
      go_wp2
      go_ret
      exact ⟨by rw [H.out]; rfl, rfl⟩
    · have H : Hid (wd s.data.toList = s.data.toList.all pt) := by
        show wd s.data.toList = s.data.toList.all pt; unfold wd; rw [hne, hz, show decide (s.size ≤ 20) = true from by simp; omega]; simp
      have HZ := hide hz
      clear h0 hs hne hz
      go_enter Tryd.func49, Tryd.ntmps49
      go_wp2
      go_loop [13] (fun i => ∃ k : Nat, k ≤ s.size ∧ i = .int .i64 k ∧ (s.data.toList.take k).all pt = true) (fun i => s.size - (intOf i).toNat)
      case atStart => exact ⟨0, Nat.zero_le _, rfl, rfl⟩
      case round =>
        obtain ⟨k, hk, rfl, hall⟩ := hrel
        have HA := hide hall
        clear hall
        by_cases hlt : k < s.size
        · have hlt' : k < s.data.toList.length := by rw [HZ.out]; exact hlt
          have HT := hide (all_take_succ pt _ k hlt')
          have hb := all_of_bad pt _ k hlt'
          have HD := hide (dget s k hlt hlt')
          cases hq : pt s[k]
          · have HB := hide (hb hq)
            clear hb
            go_wp2_with fail
            refine (inWord_any _ _).mono ?_; rintro e w' ⟨rfl, rfl⟩; rw [hq]
            go_wp2_with fail
            go_ret
            exact ⟨by rw [H.out, HB.out]; rfl, rfl⟩
          · clear hb
            have HQ := hide hq
            go_wp2_with fail
            refine (inWord_any _ _).mono ?_; rintro e w' ⟨rfl, rfl⟩; rw [HQ.out]
            go_wp2_with fail
            go_round
            case rel => exact ⟨k + 1, by omega, by go_num, by rw [HT.out, HA.out, ← HD.out, HQ.out]; rfl⟩
            case measure => simp [intOf]; omega
        · go_wp2
          go_ret
          exact ⟨by rw [H.out, ← HA.out, List.take_of_length_le (by rw [HZ.out]; omega)]; rfl, rfl⟩
theorem word_any (l : List UInt8) (w : World) (hl : l.length ≤ 281474976710656) : Calls Tryd.prog 49 #[.string (S l)] w fun e w' => e = .returned (.bool (wd l)) ∧ w' = w := word_str (S l) w (by rw [S_size]; exact hl)
theorem name_str (s : ByteArray) (w : World) (hl : s.size ≤ 281474976710656) : Calls Tryd.prog 31 #[.string s] w fun e w' => e = .returned (.bool (nm s.data.toList)) ∧ w' = w := by
  have hz := dlen s
  cases hw : wd s.data.toList
  · have H : Hid (nm s.data.toList = false) := by show nm s.data.toList = false; unfold nm; rw [hw]; rfl
    go_enter Tryd.func31, Tryd.ntmps31
    go_wp2_with fail
    refine (word_str s _ hl).mono ?_; rintro e w' ⟨rfl, rfl⟩; rw [hw]
    go_wp2_with fail
    go_ret
    exact ⟨by rw [H.out]; rfl, rfl⟩
  · have h0 : 0 < s.size := by
      cases h : s.data.toList with | nil => rw [h] at hw; simp [wd] at hw | cons a b => rw [h] at hz; simp at hz; omega
    have hh : s.data.toList.headD 0 = s[0] := by
      cases s with | mk d => cases d with | mk l => cases l with | nil => simp [ByteArray.size] at h0 | cons a b => rfl
    cases hq : sm s[0]
    · have H : Hid (nm s.data.toList = false) := by show nm s.data.toList = false; unfold nm; rw [hh, hq, Bool.and_false, Bool.false_and]
      have HQ := hide hq
      have HW := hide hw
      clear hh hq hw hz
      go_enter Tryd.func31, Tryd.ntmps31
      go_wp2_with fail
      refine (word_str s _ hl).mono ?_; rintro e w' ⟨rfl, rfl⟩; rw [HW.out]
      go_wp2_with fail
      refine (small_any _ _).mono ?_; rintro e w' ⟨rfl, rfl⟩; rw [HQ.out]
      go_wp2_with fail
      go_ret
      exact ⟨by rw [H.out]; rfl, rfl⟩
    · have H : Hid (nm s.data.toList = !kw s.data.toList) := by show nm s.data.toList = !kw s.data.toList; unfold nm; rw [hh, hq, hw, Bool.and_true, Bool.true_and]
      have HQ := hide hq
      have HW := hide hw
      have HS := hide (S_of s)
      clear hh hq hw hz
      go_enter Tryd.func31, Tryd.ntmps31
      go_wp2_with fail
      refine (word_str s _ hl).mono ?_; rintro e w' ⟨rfl, rfl⟩; rw [HW.out]
      go_wp2_with fail
      refine (small_any _ _).mono ?_; rintro e w' ⟨rfl, rfl⟩; rw [HQ.out]
      go_wp2_with fail
      have hk := keyWord_any s.data.toList w'
      rw [HS.out] at hk
      refine hk.mono ?_; rintro e w' ⟨rfl, rfl⟩
      clear hk
      go_wp2_with fail
      go_ret
      exact ⟨by rw [H.out]; rfl, rfl⟩
theorem con_str (s : ByteArray) (w : World) (hl : s.size ≤ 281474976710656) : Calls Tryd.prog 46 #[.string s] w fun e w' => e = .returned (.bool (cn s.data.toList)) ∧ w' = w := by
  have hz := dlen s
  cases hw : wd s.data.toList
  · have H : Hid (cn s.data.toList = false) := by show cn s.data.toList = false; unfold cn; rw [hw]; rfl
    go_enter Tryd.func46, Tryd.ntmps46
    go_wp2_with fail
    refine (word_str s _ hl).mono ?_; rintro e w' ⟨rfl, rfl⟩; rw [hw]
    go_wp2_with fail
    go_ret
    exact ⟨by rw [H.out]; rfl, rfl⟩
  · have h0 : 0 < s.size := by
      cases h : s.data.toList with | nil => rw [h] at hw; simp [wd] at hw | cons a b => rw [h] at hz; simp at hz; omega
    have hh : s.data.toList.headD 0 = s[0] := by
      cases s with | mk d => cases d with | mk l => cases l with | nil => simp [ByteArray.size] at h0 | cons a b => rfl
    have H : Hid (cn s.data.toList = gr s[0]) := by show cn s.data.toList = gr s[0]; unfold cn; rw [hh, hw, Bool.true_and]
    have HW := hide hw
    clear hh hw hz
    go_enter Tryd.func46, Tryd.ntmps46
    go_wp2_with fail
    refine (word_str s _ hl).mono ?_; rintro e w' ⟨rfl, rfl⟩; rw [HW.out]
    go_wp2_with fail
    refine (great_any _ _).mono ?_; rintro e w' ⟨rfl, rfl⟩
    go_wp2_with fail
    go_ret
    exact ⟨by rw [H.out]; rfl, rfl⟩
theorem name_any (l : List UInt8) (w : World) (hl : l.length ≤ 281474976710656) : Calls Tryd.prog 31 #[.string (S l)] w fun e w' => e = .returned (.bool (nm l)) ∧ w' = w := name_str (S l) w (by rw [S_size]; exact hl)
theorem con_any (l : List UInt8) (w : World) (hl : l.length ≤ 281474976710656) : Calls Tryd.prog 46 #[.string (S l)] w fun e w' => e = .returned (.bool (cn l)) ∧ w' = w := con_str (S l) w (by rw [S_size]; exact hl)

end Go.Proofs.YtebcdjlhmoffjaaDoor
