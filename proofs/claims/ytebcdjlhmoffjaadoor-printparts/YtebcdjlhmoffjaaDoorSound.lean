/-
  THE WALKS OF tree's SMALL FUNCTIONS: what a tree of a kind has.
-/
import Derived.Test.YtebcdjlhmoffjaaDoorBase
namespace Go.Proofs.YtebcdjlhmoffjaaDoor
open Go.RowKit
set_option linter.unusedVariables false
set_option linter.unusedSimpArgs false
def isOp (l : List UInt8) : Bool := l == [43] || l == [45] || l == [42] || l == [47]
def isCmp (l : List UInt8) : Bool := l == [61, 61] || l == [60]
def cs5 (e : Tr) (pn : Option Addr) (cn : Nat) (pk : Option Addr) (ck : Nat) : Array Value := #[.int .i64 e.kd, .string (S e.nm), .int .i64 e.nu, .slice pn e.ns.length cn, .slice pk e.ks.length ck]
def hasNumM (e : Tr) : Bool := decide (e.nu = 0) || (decide (e.kd = 1) && decide (0 < e.nu))
def hasNameM (e : Tr) : Bool := if e.kd = 2 then nm e.nm else if e.kd = 3 ∨ e.kd = 8 then cn e.nm else if e.kd = 9 then isOp e.nm || isCmp e.nm else e.nm == []
def hasKidsM (e : Tr) : Bool := if e.kd = 10 then decide (e.ks.length = 3) else if e.kd = 5 ∨ e.kd = 6 ∨ e.kd = 9 then decide (e.ks.length = 2) else if e.kd = 4 ∨ e.kd = 8 ∨ e.kd = 13 then decide (e.ks.length = 1) else if e.kd = 1 ∨ e.kd = 2 ∨ e.kd = 3 then decide (e.ks.length = 0) else if e.kd = 7 then decide (1 < e.ks.length) else if e.kd = 11 ∨ e.kd = 12 then decide (0 < e.ks.length) else false
theorem is_any (l : List UInt8) (w : World) : Calls Tryd.prog 82 #[.string (S l)] w fun e w' => e = .returned (.tuple #[.bool (isOp l), .bool (isCmp l)]) ∧ w' = w := by
  have hl := S_list l
  unfold isOp isCmp
  generalize S l = s at *
  subst hl
  go_enter Tryd.func82, Tryd.ntmps82
  go_wp2
  all_goals first | (exfalso; simp_all; done) | skip
  all_goals go_ret2
  all_goals exact ⟨by simp_all, rfl⟩
theorem isDo_any (e : Tr) (pn : Option Addr) (cn : Nat) (pk : Option Addr) (ck : Nat) (w : World) : Calls Tryd.prog 83 #[.agg (cs5 e pn cn pk ck)] w fun r w' => r = .returned (.bool (e.kd == 11 || e.kd == 12)) ∧ w' = w.alloc (.cells (cs5 e pn cn pk ck) 25) := by
  unfold cs5
  by_cases h : e.kd = 11
  · go_enter Tryd.func83, Tryd.ntmps83
    go_wp2_with fail
    go_ret
    exact ⟨by simp [h], by simp [h]⟩
  · go_enter Tryd.func83, Tryd.ntmps83
    go_wp2_with fail
    go_ret
    exact ⟨by simp [h], rfl⟩
theorem hasNum_any (e : Tr) (pn : Option Addr) (cn : Nat) (pk : Option Addr) (ck : Nat) (w : World) : Calls Tryd.prog 66 #[.agg (cs5 e pn cn pk ck)] w fun r w' => r = .returned (.bool (hasNumM e)) ∧ w' = w.alloc (.cells (cs5 e pn cn pk ck) 25) := by
  unfold cs5 hasNumM
  by_cases h : e.nu = 0
  · go_enter Tryd.func66, Tryd.ntmps66
    go_wp2_with fail
    go_ret
    exact ⟨by simp [h], by simp [h]⟩
  · by_cases h1 : e.kd = 1
    · go_enter Tryd.func66, Tryd.ntmps66
      go_wp2_with fail
      go_ret
      exact ⟨by simp [h, h1], by simp [h1]⟩
    · go_enter Tryd.func66, Tryd.ntmps66
      go_wp2_with fail
      go_ret
      exact ⟨by simp [h, h1], rfl⟩
theorem hasName_any (e : Tr) (pn : Option Addr) (cn : Nat) (pk : Option Addr) (ck : Nat) (w : World) (hl : e.nm.length ≤ 281474976710656) : Calls Tryd.prog 67 #[.agg (cs5 e pn cn pk ck)] w fun r w' => r = .returned (.bool (hasNameM e)) ∧ w' = w.alloc (.cells (cs5 e pn cn pk ck) 25) := by
  unfold cs5 hasNameM
  obtain ⟨kd, nm', nu, ns, ks⟩ := e
  simp only at *
  by_cases h2 : kd = 2
  · subst h2
    go_enter Tryd.func67, Tryd.ntmps67
    go_wp2_with fail
    refine (name_any nm' _ hl).mono ?_; rintro r w' ⟨rfl, rfl⟩
    go_wp2_with fail
    go_ret
    exact ⟨by simp, rfl⟩
  by_cases h3 : kd = 3
  · subst h3
    go_enter Tryd.func67, Tryd.ntmps67
    go_wp2_with fail
    refine (con_any nm' _ hl).mono ?_; rintro r w' ⟨rfl, rfl⟩
    go_wp2_with fail
    go_ret
    exact ⟨by simp, rfl⟩
  by_cases h8 : kd = 8
  · subst h8
    go_enter Tryd.func67, Tryd.ntmps67
    go_wp2_with fail
    refine (con_any nm' _ hl).mono ?_; rintro r w' ⟨rfl, rfl⟩
    go_wp2_with fail
    go_ret
    exact ⟨by simp, rfl⟩
  by_cases h9 : kd = 9
  · subst h9
    cases hq : isOp nm'
    · go_enter Tryd.func67, Tryd.ntmps67
      go_wp2_with fail
      refine (is_any nm' _).mono ?_; rintro r w' ⟨rfl, rfl⟩; rw [hq]
      go_wp2_with fail
      go_ret
      exact ⟨by simp, rfl⟩
    · go_enter Tryd.func67, Tryd.ntmps67
      go_wp2_with fail
      refine (is_any nm' _).mono ?_; rintro r w' ⟨rfl, rfl⟩; rw [hq]
      go_wp2_with fail
      go_ret
      exact ⟨by simp, rfl⟩
  have hsl := S_list nm'
  rw [if_neg h2, if_neg (by simp [h3, h8]), if_neg h9]
  generalize S nm' = sb at *
  subst hsl
  go_enter Tryd.func67, Tryd.ntmps67
  go_wp2_with fail
  go_ret
  exact ⟨by simp, rfl⟩
set_option maxHeartbeats 1000000 in
theorem hasKids_any (e : Tr) (pn : Option Addr) (cn : Nat) (pk : Option Addr) (ck : Nat) (w : World) : Calls Tryd.prog 69 #[.agg (cs5 e pn cn pk ck)] w fun r w' => r = .returned (.bool (hasKidsM e)) ∧ w' = w.alloc (.cells (cs5 e pn cn pk ck) 25) := by
  unfold cs5 hasKidsM
  obtain ⟨kd, nm', nu, ns, ks⟩ := e
  simp only at *
  generalize ks.length = nk
  by_cases h : kd = 10 ∨ kd = 5 ∨ kd = 6 ∨ kd = 9 ∨ kd = 4 ∨ kd = 8 ∨ kd = 13 ∨ kd = 1 ∨ kd = 2 ∨ kd = 3 ∨ kd = 7 ∨ kd = 11 ∨ kd = 12
  · rcases h with rfl | rfl | rfl | rfl | rfl | rfl | rfl | rfl | rfl | rfl | rfl | rfl | rfl <;>
    · go_enter Tryd.func69, Tryd.ntmps69
      go_wp2_with fail
      all_goals go_ret
      all_goals refine ⟨?_, rfl⟩
      all_goals show Ending.returned (Value.bool _) = Ending.returned (Value.bool _)
      all_goals refine congrArg (fun b => Ending.returned (Value.bool b)) ?_
      all_goals rw [Bool.eq_iff_iff]
      all_goals simp
      all_goals first | done | omega
  · simp only [not_or] at h
    obtain ⟨h1, h2, h3, h4, h5, h6, h7, h8, h9, h10, h11, h12, h13⟩ := h
    go_enter Tryd.func69, Tryd.ntmps69
    go_wp2_with fail
    go_ret
    exact ⟨by simp [*], rfl⟩
end Go.Proofs.YtebcdjlhmoffjaaDoor
