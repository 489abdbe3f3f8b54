/-
  THE WALKS OF tree's hasNames, fits AND sound.
-/
import Derived.Test.YtebcdjlhmoffjaaDoorNames
namespace Go.Proofs.YtebcdjlhmoffjaaDoor
open Go.RowKit
set_option linter.unusedVariables false
set_option linter.unusedSimpArgs false
def hasNamesM (e : Tr) : Bool := if e.kd = 4 ∨ e.kd = 6 ∨ e.kd = 13 then decide (e.ns.length = 1) && namesM e.ns else if e.kd = 8 then namesM e.ns else decide (e.ns.length = 0)
/-- May the Kid of a place be of its kind there? -/
def fitsM (e : Tr) (i : Nat) (k : Tr) : Bool := if k.kd = 8 then decide (e.kd = 7) && decide (0 < i) else if k.kd = 13 then (e.kd == 11 || e.kd == 12) && decide (i + 1 < e.ks.length) else !(decide (e.kd = 7) && decide (0 < i))
def fitsAll (e : Tr) : Bool := (List.range e.ks.length).all fun i => fitsM e i (e.ks.getD i ⟨0, [], 0, [], []⟩)
def soundM (e : Tr) : Bool := hasNumM e && hasNameM e && hasNamesM e && hasKidsM e && fitsAll e
theorem hasNames_any {P : Nat → Prop} {e : Tr} {pn : Option Addr} {cn : Nat} {pk : Option Addr} {ck : Nat} {w : World} (hn : e.ns.length ≤ 9223372036854775807) (hP : ∀ b, P b → b < w.heap.size) (hM : SM P w pn e.ns) :
    Calls Tryd.prog 68 #[.agg (cs5 e pn cn pk ck)] w fun r w' => r = .returned (.bool (hasNamesM e)) ∧ Below w.heap.size w w' := by
  have hB : Below w.heap.size w (w.alloc (.cells (cs5 e pn cn pk ck) 25)) := (Below.refl _ w).alloc (Nat.le_refl _) _
  have HC := hide (names_any (c := cn) hn (fun b hb => Nat.lt_of_lt_of_le (hP b hb) hB.size) (hM.keep (KP.of_below hB hP)))
  have HB := hide hB
  unfold cs5 at *
  unfold hasNamesM
  clear hM hB
  obtain ⟨kd, nm', nu, ns, ks⟩ := e
  simp only at *
  generalize hln : ns.length = nn at *
  have e1 : Hid (((nn : Int) == 1) = decide (nn = 1)) := by show _ = _; rw [Bool.eq_iff_iff]; simp; omega
  by_cases h : kd = 4 ∨ kd = 6 ∨ kd = 13
  · rw [if_pos h]
    by_cases h1 : nn = 1
    · subst h1
      rcases h with rfl | rfl | rfl <;>
      · go_enter Tryd.func68, Tryd.ntmps68
        go_wp2_with fail
        refine HC.out.mono ?_
        rintro r w' ⟨rfl, hB2⟩
        have HB2 := hide hB2
        clear hB2
        go_wp2_with fail
        go_ret
        exact ⟨by simp, HB.out.trans (HB2.out.mono HB.out.size)⟩
    · have h1i : ¬ (nn : Int) = 1 := by omega
      rcases h with rfl | rfl | rfl <;>
      · go_enter Tryd.func68, Tryd.ntmps68
        go_wp2_with fail
        go_ret
        exact ⟨by simp [h1], HB.out⟩
  · rw [if_neg h]
    simp only [not_or] at h
    obtain ⟨h4, h6, h13⟩ := h
    by_cases h8 : kd = 8
    · subst h8
      go_enter Tryd.func68, Tryd.ntmps68
      go_wp2_with fail
      refine HC.out.mono ?_
      rintro r w' ⟨rfl, hB2⟩
      have HB2 := hide hB2
      clear hB2
      go_wp2_with fail
      go_ret
      exact ⟨by simp, HB.out.trans (HB2.out.mono HB.out.size)⟩
    · rw [if_neg h8]
      go_enter Tryd.func68, Tryd.ntmps68
      go_wp2_with fail
      go_ret
      refine ⟨?_, HB.out⟩
      show Ending.returned (Value.bool _) = Ending.returned (Value.bool _)
      refine congrArg (fun b => Ending.returned (Value.bool b)) ?_
      rw [Bool.eq_iff_iff]
      simp
set_option maxHeartbeats 1000000 in
theorem fits_any {P : Nat → Prop} {e : Tr} {pn : Option Addr} {cn : Nat} {pk : Option Addr} {ck : Nat} {w : World} {i : Nat} {k : Tr} (hk : e.ks[i]? = some k) (hn : e.ks.length ≤ 9223372036854775807) (hP : ∀ b, P b → b < w.heap.size) (hM : EM P w pk e.ks) :
    Calls Tryd.prog 70 #[.agg (cs5 e pn cn pk ck), .int .i64 i] w fun r w' => r = .returned (.bool (fitsM e i k)) ∧ Below w.heap.size w w' := by
  have hB : Below w.heap.size w (w.alloc (.cells (cs5 e pn cn pk ck) 25)) := (Below.refl _ w).alloc (Nat.le_refl _) _
  have hil : i < e.ks.length := (List.getElem?_eq_some_iff.1 hk).1
  obtain ⟨b, o, hp, hb, hc0⟩ : ∃ b o, pk = some ⟨b, o, none⟩ ∧ b < w.heap.size ∧ w.cell? ⟨b, o + i * 5, none⟩ = some (.int .i64 k.kd) := by
    rcases hM with h | ⟨b, o, hp, hb, hm⟩
    · rw [h] at hil; simp at hil
    · obtain ⟨ds, h1, h2, h3⟩ := hm i k hk
      obtain ⟨pn', cn', pk', ck', rfl, _⟩ := (TrIn_iff _ _ _ _).1 h3
      exact ⟨b, o, hp, hP b hb, h2 0 _ rfl⟩
  subst hp
  have hc1 := (hB.cell (p := ⟨b, o + i * 5, none⟩) hb).trans hc0
  have HD := hide fun W => isDo_any e pn cn (some ⟨b, o, none⟩) ck W
  have HB := hide hB
  unfold cs5 at *
  unfold fitsM
  obtain ⟨kd, nm', nu, ns, ks⟩ := e
  simp only at *
  clear hB hM hk hc0
  generalize ks.length = nk at *
  generalize k.kd = kk at *
  have hii : (i : Int) < nk := by omega
  by_cases h7 : kd = 7
  · subst h7
    by_cases h8 : kk = 8
    · subst h8
      go_enter Tryd.func70, Tryd.ntmps70
      go_wp2_with fail
      all_goals go_ret
      all_goals refine ⟨?_, HB.out⟩
      all_goals show Ending.returned (Value.bool _) = Ending.returned (Value.bool _)
      all_goals refine congrArg (fun b => Ending.returned (Value.bool b)) ?_
      all_goals simp
    · by_cases h13 : kk = 13
      · subst h13
        go_enter Tryd.func70, Tryd.ntmps70
        go_wp2_with fail
        refine (HD.out _).mono ?_
        rintro r w' ⟨rfl, rfl⟩
        go_wp2_with fail
        go_ret
        exact ⟨by simp, HB.out.trans (((Below.refl _ _).alloc (Nat.le_refl _) _).mono HB.out.size)⟩
      · go_enter Tryd.func70, Tryd.ntmps70
        go_wp2_with fail
        all_goals go_ret
        all_goals refine ⟨?_, HB.out⟩
        all_goals show Ending.returned (Value.bool _) = Ending.returned (Value.bool _)
        all_goals refine congrArg (fun b => Ending.returned (Value.bool b)) ?_
        all_goals simp [h8, h13]
  · by_cases h8 : kk = 8
    · subst h8
      go_enter Tryd.func70, Tryd.ntmps70
      go_wp2_with fail
      go_ret
      exact ⟨by simp [h7], HB.out⟩
    · by_cases h13 : kk = 13
      · subst h13
        cases hd : (kd == 11 || kd == 12)
        · go_enter Tryd.func70, Tryd.ntmps70
          go_wp2_with fail
          refine (HD.out _).mono ?_
          rintro r w' ⟨rfl, rfl⟩
          rw [hd]
          go_wp2_with fail
          go_ret
          exact ⟨by simp, HB.out.trans (((Below.refl _ _).alloc (Nat.le_refl _) _).mono HB.out.size)⟩
        · go_enter Tryd.func70, Tryd.ntmps70
          go_wp2_with fail
          refine (HD.out _).mono ?_
          rintro r w' ⟨rfl, rfl⟩
          rw [hd]
          go_wp2_with fail
          go_ret
          refine ⟨?_, HB.out.trans (((Below.refl _ _).alloc (Nat.le_refl _) _).mono HB.out.size)⟩
          show Ending.returned (Value.bool _) = Ending.returned (Value.bool _)
          refine congrArg (fun b => Ending.returned (Value.bool b)) ?_
          rw [Bool.eq_iff_iff]
          simp
          omega
      · go_enter Tryd.func70, Tryd.ntmps70
        go_wp2_with fail
        go_ret
        exact ⟨by simp [h7, h8, h13], HB.out⟩
end Go.Proofs.YtebcdjlhmoffjaaDoor
