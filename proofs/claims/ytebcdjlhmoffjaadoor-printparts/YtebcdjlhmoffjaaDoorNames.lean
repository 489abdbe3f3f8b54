/-
  THE WALK OF tree's names: names, no two alike.
-/
import Derived.Test.YtebcdjlhmoffjaaDoorSound
import Derived.Maps.OwnSet
import Derived.StringKeys
import Derived.Deep.LoopGhost
namespace Go.Proofs.YtebcdjlhmoffjaaDoor
open Go.RowKit
set_option linter.unusedVariables false
set_option linter.unusedSimpArgs false
def namesM (l : List (List UInt8)) : Bool := l.all nm && decide l.Nodup
def setS (l : List (List UInt8)) : DataW Unit := Maps.setOf (.agg []) (l.map Lit.string)
theorem any_str (x : List UInt8) : ∀ l : List (List UInt8), l.any ((fun y : Lit => y.sameKey (.string x)) ∘ Lit.string) = l.contains x
  | [] => rfl
  | a :: r => by
    rw [List.any_cons, List.contains_cons, any_str x r]
    congr 1
    show (a == x) = (x == a)
    rw [Bool.eq_iff_iff, beq_iff_eq, beq_iff_eq]
    exact eq_comm
theorem has_setS (l : List (List UInt8)) (x : List UInt8) : Maps.has (setS l) (.string x) = l.contains x := by
  unfold setS
  rw [Maps.has_setOf _ _ _ (fun y hy => by obtain ⟨_, _, rfl⟩ := List.mem_map.1 hy; trivial), List.any_map]
  exact any_str x _
theorem setS_snoc (l : List (List UInt8)) (x : List UInt8) : setS (l ++ [x]) = (setS l).put (.string x) (.agg []) := by
  unfold setS; rw [List.map_append]; exact Maps.setOf_snoc _ _ _
theorem law9 : Maps.Keyed Tryd.prog 9 := Maps.string_keyed Tryd.underlying9
theorem zero105 (w : World) : (zeroValue 105).run Tryd.prog w = .ok (.agg #[]) w := by kernel_rfl
set_option maxHeartbeats 1000000 in
set_option maxRecDepth 100000 in
theorem names_any {P : Nat → Prop} {p : Option Addr} {c : Nat} {l : List (List UInt8)} {w : World} (hn : l.length ≤ 9223372036854775807) (hP : ∀ b, P b → b < w.heap.size) (hM : SM P w p l) :
    Calls Tryd.prog 47 #[.slice p l.length c] w fun e w' => e = .returned (.bool (namesM l)) ∧ Below w.heap.size w w' := by
  have hmm := @run_makeMap Tryd.prog
  generalize hm : l.length = m at *
  have HM := hide hM
  clear hM
  go_enter Tryd.func47, Tryd.ntmps47
  go_wp2_with fail
  go_loopg [11] m (fun k s11 wr => ∃ i : Nat, i ≤ m ∧ k = m - i ∧ s11 = .int .i64 i ∧ wr.ownsMap Tryd.prog 9 (unitElem (H := Unit)) w.heap.size i (setS (l.take i)) ∧ Below w.heap.size w wr ∧ w.heap.size + 1 ≤ wr.heap.size ∧ (l.take i).all nm = true ∧ (l.take i).Nodup)
  case atStart => exact ⟨0, Nat.zero_le _, by omega, rfl, World.ownsMap_made _ _ _ _, (Below.refl _ _).alloc (Nat.le_refl _) _, by simp, rfl, List.nodup_nil⟩
  case round =>
    obtain ⟨i, hi1, rfl, rfl, hown, hB, hws, hall, hnd⟩ := hrel
    have HB := hide hB
    have HALL := hide hall
    have HND := hide hnd
    by_cases hlt : i < m
    · have hil : i < l.length := by omega
      rcases HM.out with he | ⟨ba, oa, rfl, hba, hma⟩
      · rw [he] at hil; simp at hil
      have a1 : wr.cell? ⟨ba, oa + i, none⟩ = some (.string (S l[i])) := (hB.cell (p := ⟨ba, oa + i, none⟩) (hP ba hba)).trans (hma i l[i] (by simp)).2
      have hsz := (hma i l[i] (by simp)).1
      have htk : l.take (i + 1) = l.take i ++ [l[i]] := List.take_succ_eq_append_getElem hil
      have hmem : l[i] ∈ l := by simp
      have hsp : l = l.take i ++ (l[i] :: l.drop (i + 1)) := by rw [← List.drop_eq_getElem_cons hil, List.take_append_drop]
      have hkey : keyOf Tryd.prog 9 (.string (S l[i])) = some (.string l[i]) := by rw [WideMaps.keyOf_string_mk Tryd.underlying9 (by rw [S_size]; unfold maxLen; omega)]; rfl
      have hhas := has_setS (l.take i) l[i]
      have HN := hide (name_any l[i] wr hsz)
      have HN2 := hide fun W => name_any l[i] W hsz
      have hsn := setS_snoc (l.take i) l[i]
      rw [← htk] at hsn
      generalize l[i] = s at *
      have HSP := hide hsp
      have HTK := hide htk
      have HSN := hide hsn
      cases hc : (l.take i).contains s
      · have hh : Maps.has (setS (l.take i)) (.string s) = false := by rw [hhas, hc]
        cases hq : nm s
        · have HQ := hide hq
          generalize S s = sb at *
          clear hma hB hall hnd hhas hc hsp htk hsn hmem hq HN hsz
          go_wp2_with (at_lookup; refine wpList_lookup_own_unit _ rfl _ _ 104 rfl 9 105 law9 Tryd.underlying104 (zero105 _) w.heap.size i _ rfl hown _ _ rfl hkey ?_)
          refine (HN2.out _).mono ?_
          rintro e w' ⟨rfl, rfl⟩
          rw [HQ.out]
          go_wp2_with fail
          go_ret
          refine ⟨?_, HB.out.alloc (by omega) _⟩
          have : namesM l = false := by
            unfold namesM
            rw [HSP.out, List.all_append, List.all_cons, HQ.out]; simp
          rw [this]; rfl
        · have HQ := hide hq
          have HC := hide hc
          generalize S s = sb at *
          clear hma hB hall hnd hhas hc hsp htk hsn hmem hq HN hsz
          go_wp2_with (at_lookup; refine wpList_lookup_own_unit _ rfl _ _ 104 rfl 9 105 law9 Tryd.underlying104 (zero105 _) w.heap.size i _ rfl hown _ _ rfl hkey ?_)
          refine (HN2.out _).mono ?_
          rintro e w' ⟨rfl, rfl⟩
          rw [HQ.out]
          go_wp2_with (at_mapUpdate; refine wpList_mapUpdate_own _ rfl _ _ _ 104 rfl 9 105 law9 Tryd.underlying104 (unitElem (H := Unit)) w.heap.size i _ rfl (hown.alloc _) (by unfold maxLen; omega) _ _ _ rfl rfl hkey _ [] unitElem_mk ?_; intro w1 hown1 hgrow1)
          have HO1 := hide hown1
          have HG1 := hide hgrow1
          clear hown1 hgrow1
          go_roundg (m - (i + 1))
          case measure => omega
          case rel =>
            refine ⟨i + 1, by omega, rfl, by go_num, by rw [HSN.out]; exact HO1.out, ?_, ?_, ?_, ?_⟩
            · exact (HB.out.alloc (by omega) _).trans ⟨HG1.out.os, HG1.out.tape, HG1.out.output, HG1.out.size, fun k hk => HG1.out.block k (by simp; omega) (by simp; omega)⟩
            · have := HG1.out.size; simp at this; omega
            · rw [HTK.out, List.all_append, HALL.out]; simp [HQ.out]
            · rw [HTK.out, List.nodup_append]
              refine ⟨HND.out, by simp, ?_⟩
              intro a ha b hb
              simp at hb
              subst hb
              intro e
              subst e
              have := HC.out
              simp at this
              exact this ha
      · have hh : Maps.has (setS (l.take i)) (.string s) = true := by rw [hhas, hc]
        have HC := hide hc
        generalize S s = sb at *
        clear hma hB hall hnd hhas hc hsp htk hsn hmem HN hsz
        go_wp2_with (at_lookup; refine wpList_lookup_own_unit _ rfl _ _ 104 rfl 9 105 law9 Tryd.underlying104 (zero105 _) w.heap.size i _ rfl hown _ _ rfl hkey ?_)
        go_ret
        refine ⟨?_, HB.out.alloc (by omega) _⟩
        have : namesM l = false := by
          unfold namesM
          have : ¬ l.Nodup := by
            intro h
            rw [HSP.out, List.nodup_append] at h
            exact h.2.2 s (by have := HC.out; simpa using this) s (by simp) rfl
          simp [this]
        rw [this]; rfl
    · have HX : Hid (l.take i = l) := by show l.take i = l; rw [List.take_of_length_le (by omega)]
      clear hall hnd hB
      go_wp2_with fail
      go_ret
      refine ⟨?_, HB.out⟩
      have h1 := HALL.out
      have h2 := HND.out
      rw [HX.out] at h1 h2
      simp [namesM, h1, h2]
end Go.Proofs.YtebcdjlhmoffjaaDoor
