/-
  THE WALKS OF tree's heads, same AND written: which written types may be.
-/
import Derived.Test.YtebcdjlhmoffjaaDoorNames
import Derived.Deep.RegionHeld3
import Derived.LaidEqlPtr
namespace Go.Proofs.YtebcdjlhmoffjaaDoor
open Go.RowKit
set_option linter.unusedVariables false
set_option linter.unusedSimpArgs false
def headsM (s : Sg) : Bool := if cn s.nm then true else if nm s.nm then decide (s.ar.length = 0) else (s.nm == [45, 62]) && decide (s.ar.length = 2)
theorem heads_any {s : Sg} {pk : Option Addr} {ck : Nat} {w : World} (hn : s.nm.length ≤ 281474976710656) (ha : s.ar.length ≤ 9223372036854775807) :
    Calls Tryd.prog 73 #[.agg #[.string (S s.nm), .slice pk s.ar.length ck]] w fun r w' => r = .returned (.bool (headsM s)) ∧ Below w.heap.size w w' := by
  have HC := hide fun W => con_any s.nm W hn
  have HN := hide fun W => name_any s.nm W hn
  have hB : Below w.heap.size w (w.alloc (.cells #[.string (S s.nm), .slice pk s.ar.length ck] 46)) := (Below.refl _ w).alloc (Nat.le_refl _) _
  have HB := hide hB
  unfold headsM
  obtain ⟨snm, ar⟩ := s
  simp only at *
  generalize ar.length = n at *
  have hq : (S snm).toList = snm := S_list snm
  have e0 : Hid (((n : Int) == 0) = decide (n = 0)) := by show _ = _; rw [Bool.eq_iff_iff]; simp
  have e2 : Hid (((n : Int) == 2) = decide (n = 2)) := by show _ = _; rw [Bool.eq_iff_iff]; simp; omega
  clear hB
  cases hc : cn snm
  · rw [hc] at HC
    cases hm : nm snm
    · rw [hm] at HN
      rw [if_neg (by simp), if_neg (by simp)]
      have HQ := hide hq
      cases ht : (snm == [45, 62])
      · have h2 : ((S snm).toList == [45, 62]) = false := by rw [hq]; exact ht
        clear ht hq
        generalize S snm = sb at *
        go_enter Tryd.func73, Tryd.ntmps73
        go_wp2_with fail
        refine (HC.out _).mono ?_
        rintro r w' ⟨rfl, rfl⟩
        go_wp2_with fail
        refine (HN.out _).mono ?_
        rintro r w' ⟨rfl, rfl⟩
        go_wp2_with fail
        go_ret
        exact ⟨rfl, HB.out⟩
      · have h2 : ((S snm).toList == [45, 62]) = true := by rw [hq]; exact ht
        clear ht hq
        generalize S snm = sb at *
        go_enter Tryd.func73, Tryd.ntmps73
        go_wp2_with fail
        refine (HC.out _).mono ?_
        rintro r w' ⟨rfl, rfl⟩
        go_wp2_with fail
        refine (HN.out _).mono ?_
        rintro r w' ⟨rfl, rfl⟩
        go_wp2_with fail
        go_ret
        refine ⟨?_, HB.out⟩
        show Ending.returned (Value.bool _) = Ending.returned (Value.bool _)
        refine congrArg (fun b => Ending.returned (Value.bool b)) ?_
        rw [Bool.true_and]
        exact e2.out
    · rw [hm] at HN
      rw [if_neg (by simp), if_pos rfl]
      go_enter Tryd.func73, Tryd.ntmps73
      go_wp2_with fail
      refine (HC.out _).mono ?_
      rintro r w' ⟨rfl, rfl⟩
      go_wp2_with fail
      refine (HN.out _).mono ?_
      rintro r w' ⟨rfl, rfl⟩
      go_wp2_with fail
      go_ret
      refine ⟨?_, HB.out⟩
      show Ending.returned (Value.bool _) = Ending.returned (Value.bool _)
      refine congrArg (fun b => Ending.returned (Value.bool b)) ?_
      rw [Bool.eq_iff_iff]
      simp
  · rw [hc] at HC
    rw [if_pos rfl]
    go_enter Tryd.func73, Tryd.ntmps73
    go_wp2_with fail
    refine (HC.out _).mono ?_
    rintro r w' ⟨rfl, rfl⟩
    go_wp2_with fail
    go_ret
    exact ⟨rfl, HB.out⟩
theorem same_ne {p q : Option Addr} {n m c d : Nat} {w : World} (h : n ≠ m) (hn : n ≤ 9223372036854775807) (hm : m ≤ 9223372036854775807) : Calls Tryd.prog 72 #[.slice p n c, .slice q m d] w fun r w' => r = .returned (.bool false) ∧ ∃ k, w' = w.drewN k := by
  have h1 : ¬ (n : Int) = m := by omega
  have h2 : ((n : Int) == m) = false := by simp; omega
  go_enter Tryd.func72, Tryd.ntmps72
  go_wp2_with fail
  go_quiet (fail)
  go_wp2_with fail
  go_ret
  exact ⟨rfl, _, rfl⟩
theorem same_nil {p q : Option Addr} {c d : Nat} {w : World} : Calls Tryd.prog 72 #[.slice p 0 c, .slice q 0 d] w fun r w' => r = .returned (.bool true) ∧ ∃ k, w' = w.drewN k := by
  go_enter Tryd.func72, Tryd.ntmps72
  go_wp2_with fail
  go_quiet (fail)
  go_wp2_with fail
  go_ret
  exact ⟨rfl, _, rfl⟩
theorem und117 : Tryd.prog.underlying 117 = some (.pointer 46) := by kernel_rfl
theorem inf46 : ∃ j, Tryd.prog.info? 46 = some j ∧ j.size ≠ 0 := by
  have h : ((Tryd.prog.info? 46).map fun j => decide (j.size ≠ 0)) = some true := by kernel_rfl
  obtain ⟨j, hj, h2⟩ := Option.map_eq_some_iff.1 h
  exact ⟨j, hj, by simpa using h2⟩
theorem same_at {b o b' o' n c d : Nat} {w : World} {ca cb : Array Value} {ta tb : TypeId} (ha : w.heap[b]? = some (.cells ca ta (0, 0))) (hb : w.heap[b']? = some (.cells cb tb (0, 0))) (hn : n ≤ 9223372036854775807) (h0 : 0 < n) : Calls Tryd.prog 72 #[.slice (some ⟨b, o, none⟩) n c, .slice (some ⟨b', o', none⟩) n d] w fun r w' => r = .returned (.bool (decide ((⟨b, o, none⟩ : Addr) = ⟨b', o', none⟩))) ∧ ∃ k, w' = w.drewN k := by
  have h1 : ¬ (n : Int) = 0 := by omega
  have h2 : (0 : Int) < n := by omega
  have h3 : ((n : Int) == 0) = false := by simp; omega
  obtain ⟨j, hj, hjs⟩ := inf46
  have he : ∀ k, (binOp .eql 117 (.pointer (some ⟨b, o, none⟩)) (.pointer (some ⟨b', o', none⟩))).run Tryd.prog (w.drewN k) = .ok (.bool (decide ((⟨b, o, none⟩ : Addr) = ⟨b', o', none⟩))) (w.drewN k) := by
    intro k
    by_cases hab : (⟨b, o, none⟩ : Addr) = ⟨b', o', none⟩
    · rw [← hab, run_eql_ptr_same _ _ und117 hj]; simp
    · rw [run_eql_ptr_other (ca := ca) (cb := cb) (ta := ta) (tb := tb) (w.drewN k) und117 hj hjs hab (by simpa using ha) (by simpa using hb)]; simp [hab]
  clear hj hjs
  generalize decide ((⟨b, o, none⟩ : Addr) = ⟨b', o', none⟩) = r at *
  clear ha hb
  go_enter Tryd.func72, Tryd.ntmps72
  go_wp2_with fail
  go_quiet (fail)
  go_wp2_with fail
  go_ret
  exact ⟨rfl, _, rfl⟩
end Go.Proofs.YtebcdjlhmoffjaaDoor
