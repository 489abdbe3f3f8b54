/-
  THE WALKS OF ty's isHole, sound, fits AND Check, AND OF dawdlerref08's hole.
-/
import Derived.Test.YteoflpalmckikaaDoorRefA
namespace Go.Proofs.YteoflpalmckikaaDoor
open Go.RowKit
set_option linter.unusedVariables false
set_option linter.unusedSimpArgs false
theorem nil_str (l : List UInt8) : ((S l).toList == []) = l.isEmpty := by rw [S_list]; cases l <;> rfl
theorem isHole_any (e : Ty) (w : World) (pk : Option Addr) (ck : Nat) : Calls Tryd.prog 50 #[.agg (cs3 e pk ck)] w fun r w' => r = .returned (.bool e.nm.isEmpty) ∧ Below w.heap.size w w' := by
  have h := nil_str e.nm
  have hB0 : Below w.heap.size w (w.alloc (.cells (cs3 e pk ck) 24)) := (Below.refl _ w).alloc (Nat.le_refl _) _
  have HB0 := hide hB0
  unfold cs3 at *
  generalize S e.nm = s at *
  generalize e.nm.isEmpty = b at *
  clear hB0
  cases b <;>
  · go_enter Tryd.func50, Tryd.ntmps50
    go_wp2_with fail
    go_ret
    exact ⟨rfl, HB0.out⟩
theorem rhole_any (e : Ty) (w : World) (pk : Option Addr) (ck : Nat) : Calls Tryd.prog 51 #[.agg (cs3 e pk ck)] w fun r w' => r = .returned (.bool e.nm.isEmpty) ∧ Below w.heap.size w w' := by
  have h := nil_str e.nm
  have hB0 : Below w.heap.size w (w.alloc (.cells (cs3 e pk ck) 24)) := (Below.refl _ w).alloc (Nat.le_refl _) _
  have HB0 := hide hB0
  unfold cs3 at *
  generalize S e.nm = s at *
  generalize e.nm.isEmpty = b at *
  clear hB0
  cases b <;>
  · go_enter Tryd.func51, Tryd.ntmps51
    go_wp2_with fail
    go_ret
    exact ⟨rfl, HB0.out⟩
theorem ok1_t (e : Ty) (h : e.nm.isEmpty = true) : ok1 e = (decide (0 ≤ e.n) && e.ar.isEmpty) := by unfold ok1; rw [h]; rfl
theorem ok1_f (e : Ty) (h : e.nm.isEmpty = false) : ok1 e = (decide (e.nm.length ≤ 20) && decide (e.n = 0)) := by unfold ok1; rw [h]; rfl
set_option maxHeartbeats 2000000 in
theorem sound_any (e : Ty) {P : Nat → Prop} {w : World} {pk : Option Addr} {ck : Nat} (hE : TyIn P w e [.string (S e.nm), .int .i64 e.n, .slice pk e.ar.length ck]) : Calls Tryd.prog 53 #[.agg (cs3 e pk ck)] w fun r w' => r = .returned (.bool (ok1 e)) ∧ Below w.heap.size w w' := by
  have hkl := hE.len
  obtain ⟨hnl, hn1, hn2⟩ := hE.bds
  have hsz := S_size e.nm
  have hB0 : Below w.heap.size w (w.alloc (.cells (cs3 e pk ck) 24)) := (Below.refl _ w).alloc (Nat.le_refl _) _
  have hW : Hold w.heap.size (cs3 e pk ck) 24 (w.alloc (.cells (cs3 e pk ck) 24)) := Hold.new w _ 24
  have HI := hide fun W => isHole_any e W pk ck
  have HB0 := hide hB0
  have HW := hide hW
  clear hE hB0 hW
  cases hh : e.nm.isEmpty
  · have HR := hide (ok1_f e hh)
    rw [hh] at HI
    unfold cs3 at *
    generalize S e.nm = s at *
    generalize ok1 e = bb at *
    clear hh
    rw [← hsz] at HR
    generalize e.ar.length = nk at *
    by_cases h1 : s.size ≤ 20
    · have h1i : (s.size : Int) ≤ 20 := by omega
      rw [decide_eq_true h1] at HR
      clear h1 hsz hnl
      by_cases h2 : e.n = 0
      · rw [decide_eq_true h2] at HR
        have h3 : (e.n == 0) = true := by simpa using h2
        generalize e.n = n at *
        clear h2
        go_enter Tryd.func53, Tryd.ntmps53
        go_wp2_with fail
        refine (HI.out _).mono ?_
        rintro r w1 ⟨rfl, hb1⟩
        have c0 := HW.out.below hb1 HW.out.lt
        have k0 := c0.cell 0
        have k1 := c0.cell 1
        simp only [List.getElem?_toArray, List.getElem?_cons_succ, List.getElem?_cons_zero] at k0 k1
        have HB1 := hide (HB0.out.trans (hb1.mono HB0.out.size))
        clear hb1 c0
        go_wp2_with fail
        go_ret
        exact ⟨by rw [HR.out]; rfl, HB1.out⟩
      · rw [decide_eq_false h2] at HR
        have h3 : (e.n == 0) = false := by simpa using h2
        generalize e.n = n at *
        clear h2
        go_enter Tryd.func53, Tryd.ntmps53
        go_wp2_with fail
        refine (HI.out _).mono ?_
        rintro r w1 ⟨rfl, hb1⟩
        have c0 := HW.out.below hb1 HW.out.lt
        have k0 := c0.cell 0
        have k1 := c0.cell 1
        simp only [List.getElem?_toArray, List.getElem?_cons_succ, List.getElem?_cons_zero] at k0 k1
        have HB1 := hide (HB0.out.trans (hb1.mono HB0.out.size))
        clear hb1 c0
        go_wp2_with fail
        go_ret
        exact ⟨by rw [HR.out]; rfl, HB1.out⟩
    · have h1i : ¬ (s.size : Int) ≤ 20 := by omega
      rw [decide_eq_false h1] at HR
      rw [← hsz] at hnl
      generalize e.n = n at *
      clear h1 hsz
      go_enter Tryd.func53, Tryd.ntmps53
      go_wp2_with fail
      refine (HI.out _).mono ?_
      rintro r w1 ⟨rfl, hb1⟩
      have c0 := HW.out.below hb1 HW.out.lt
      have k0 := c0.cell 0
      have k1 := c0.cell 1
      simp only [List.getElem?_toArray, List.getElem?_cons_succ, List.getElem?_cons_zero] at k0 k1
      have HB1 := hide (HB0.out.trans (hb1.mono HB0.out.size))
      clear hb1 c0
      go_wp2_with fail
      go_ret
      exact ⟨by rw [HR.out]; rfl, HB1.out⟩
  · have HR := hide (ok1_t e hh)
    rw [hh] at HI
    have hem : e.ar.isEmpty = decide (e.ar.length = 0) := by cases e.ar <;> simp
    rw [hem] at HR
    unfold cs3 at *
    generalize S e.nm = s at *
    generalize ok1 e = bb at *
    clear hh hem hsz hnl
    generalize e.ar.length = nk at *
    generalize e.n = n at *
    by_cases h1 : 0 ≤ n
    · rw [decide_eq_true h1] at HR
      by_cases h2 : nk = 0
      · subst h2
        rw [decide_eq_true rfl] at HR
        go_enter Tryd.func53, Tryd.ntmps53
        go_wp2_with fail
        refine (HI.out _).mono ?_
        rintro r w1 ⟨rfl, hb1⟩
        have c0 := HW.out.below hb1 HW.out.lt
        have k1 := c0.cell 1
        have k2 := c0.cell 2
        simp only [List.getElem?_toArray, List.getElem?_cons_succ, List.getElem?_cons_zero] at k1 k2
        have HB1 := hide (HB0.out.trans (hb1.mono HB0.out.size))
        clear hb1 c0
        go_wp2_with fail
        go_ret
        exact ⟨by rw [HR.out]; rfl, HB1.out⟩
      · rw [decide_eq_false h2] at HR
        have h3 : ((nk : Int) == 0) = false := by simp; omega
        clear h2
        go_enter Tryd.func53, Tryd.ntmps53
        go_wp2_with fail
        refine (HI.out _).mono ?_
        rintro r w1 ⟨rfl, hb1⟩
        have c0 := HW.out.below hb1 HW.out.lt
        have k1 := c0.cell 1
        have k2 := c0.cell 2
        simp only [List.getElem?_toArray, List.getElem?_cons_succ, List.getElem?_cons_zero] at k1 k2
        have HB1 := hide (HB0.out.trans (hb1.mono HB0.out.size))
        clear hb1 c0
        go_wp2_with fail
        go_ret
        exact ⟨by rw [HR.out]; rfl, HB1.out⟩
    · rw [decide_eq_false h1] at HR
      go_enter Tryd.func53, Tryd.ntmps53
      go_wp2_with fail
      refine (HI.out _).mono ?_
      rintro r w1 ⟨rfl, hb1⟩
      have c0 := HW.out.below hb1 HW.out.lt
      have k1 := c0.cell 1
      have k2 := c0.cell 2
      simp only [List.getElem?_toArray, List.getElem?_cons_succ, List.getElem?_cons_zero] at k1 k2
      have HB1 := hide (HB0.out.trans (hb1.mono HB0.out.size))
      clear hb1 c0
      go_wp2_with fail
      go_ret
      exact ⟨by rw [HR.out]; rfl, HB1.out⟩
end Go.Proofs.YteoflpalmckikaaDoor
