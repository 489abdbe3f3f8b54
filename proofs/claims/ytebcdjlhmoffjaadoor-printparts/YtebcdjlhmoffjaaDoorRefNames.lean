/-
  THE WALK OF dawdlerref04's names.
-/
import Derived.Test.YtebcdjlhmoffjaaDoorRefName
import Derived.Test.YtebcdjlhmoffjaaDoorNames
namespace Go.Proofs.YtebcdjlhmoffjaaDoor
open Go.RowKit
set_option linter.unusedVariables false
set_option linter.unusedSimpArgs false
def rnamesM (l : List (List UInt8)) (k : Int) : Bool := !(decide (0 ≤ k) && !decide ((l.length : Int) = k)) && namesM l
set_option maxHeartbeats 4000000 in
set_option maxRecDepth 100000 in
theorem rnames_any {P : Nat → Prop} {p : Option Addr} {c : Nat} {l : List (List UInt8)} {w : World} {mk : Int} (hn : l.length ≤ 9223372036854775807) (hP : ∀ b, P b → b < w.heap.size) (hM : SM P w p l) :
    Calls Tryd.prog 42 #[.slice p l.length c, .int .i64 mk] w fun e w' => e = .returned (.bool (rnamesM l mk)) ∧ Below w.heap.size w w' := by
  have HR : Hid (rnamesM l mk = (!(decide (0 ≤ mk) && !decide ((l.length : Int) = mk)) && namesM l)) := rfl
  have HN : Hid (namesM l = (l.all nm && decide l.Nodup)) := rfl
  generalize hm : l.length = m at *
  have HLM := hide hm
  have HM := hide hM
  clear hM hm
  by_cases hbad : 0 ≤ mk ∧ ¬ (m : Int) = mk
  · obtain ⟨h1, h2⟩ := hbad
    have HF : Hid (rnamesM l mk = false) := by show _ = _; rw [HR.out]; simp [h1, h2]
    have h3 : ((m : Int) == mk) = false := by simpa using h2
    go_enter Tryd.func42, Tryd.ntmps42
    go_wp2_with fail
    go_ret
    exact ⟨by rw [HF.out]; rfl, Below.refl _ _⟩
  · have HR2 : Hid (rnamesM l mk = (l.all nm && decide l.Nodup)) := by
      show _ = _
      rw [HR.out, HN.out]
      by_cases h1 : 0 ≤ mk
      · have h2 : (m : Int) = mk := by
          by_cases h2 : (m : Int) = mk
          · exact h2
          · exact absurd ⟨h1, h2⟩ hbad
        simp [h1, h2]
      · simp [h1]
    have hcase : ¬ 0 ≤ mk ∨ (0 ≤ mk ∧ (m : Int) = mk) := by
      by_cases h1 : 0 ≤ mk
      · refine .inr ⟨h1, ?_⟩
        by_cases h2 : (m : Int) = mk
        · exact h2
        · exact absurd ⟨h1, h2⟩ hbad
      · exact .inl h1
    clear hbad HR HN
    generalize rnamesM l mk = rv at *
    rcases hcase with h1 | ⟨h1, h2⟩ <;>
    · try subst h2
      go_enter Tryd.func42, Tryd.ntmps42
      go_wp2_with fail
      go_loopg [5] m (fun k s5 wr => ∃ i : Nat, i ≤ m ∧ k = m - i ∧ s5 = .int .i64 i ∧ Below w.heap.size w wr ∧ (l.take i).all nm = true ∧ (l.take i).Nodup)
      case atStart => exact ⟨0, Nat.zero_le _, by omega, rfl, Below.refl _ _, rfl, List.nodup_nil⟩
      case round =>
        obtain ⟨i, hi1, rfl, rfl, hbr, hall, hnd⟩ := hrel
        have HBR := hide hbr
        have HALL := hide hall
        have HND := hide hnd
        by_cases hlt : i < m
        · have hil : i < l.length := by rw [HLM.out]; exact hlt
          rcases HM.out with he | ⟨b, o, rfl, hPb, hma⟩
          · rw [he] at hil; simp at hil
          have hbw := hP b hPb
          have a1 : wr.cell? ⟨b, o + i, none⟩ = some (.string (S l[i])) := (hbr.cell (p := ⟨b, o + i, none⟩) hbw).trans (hma i l[i] (by simp)).2
          have hsz := (hma i l[i] (by simp)).1
          have hci := (hma i l[i] (by simp)).2
          have htk : l.take (i + 1) = l.take i ++ [l[i]] := List.take_succ_eq_append_getElem hil
          have hmem : l[i] ∈ l := by simp
          have hNM := fun W => rname_any l[i] W hsz
          have hnodup : l[i] ∈ l.take i → ¬ l.Nodup := fun h hd => by
            have h2 : (l.take i ++ l.drop i).Nodup := by rw [List.take_append_drop]; exact hd
            rw [List.drop_eq_getElem_cons hil] at h2
            exact (List.nodup_append.1 h2).2.2 l[i] h l[i] List.mem_cons_self rfl
          have hii : (i : Int) < m := by omega
          have hsl : (S l[i]).toList = l[i] := S_list _
          generalize l[i] = s at *
          have HSL := hide hsl
          have HNM := hide hNM
          have HTK := hide htk
          have HMEM := hide hmem
          have HNO := hide hnodup
          have HMA := hide hma
          have HCI := hide hci
          clear hNM htk hmem hnodup hma hci hall hnd hbr hsz hsl
          cases hq : nm s
          · have HF : Hid (rv = false) := by
              show rv = false
              rw [HR2.out]
              have : l.all nm = false := by rw [List.all_eq_false]; exact ⟨s, HMEM.out, by simp [hq]⟩
              rw [this]; rfl
            rw [hq] at HNM
            clear hq
            go_wp2_with fail
            refine (HNM.out _).mono ?_
            rintro r w1 ⟨rfl, hb1⟩
            have HB1 := hide (HBR.out.trans (hb1.mono HBR.out.size))
            clear hb1
            go_wp2_with fail
            go_ret
            exact ⟨by rw [HF.out]; rfl, HB1.out⟩
          · have HQ := hide hq
            rw [hq] at HNM
            clear hq
            go_wp2_with fail
            refine (HNM.out _).mono ?_
            rintro r w1 ⟨rfl, hb1⟩
            have HB1 := hide (HBR.out.trans (hb1.mono HBR.out.size))
            clear hb1
            go_wp2_with fail
            go_loopg [7] i (fun k s7 wx => ∃ j : Nat, j ≤ i ∧ k = i - j ∧ s7 = .int .i64 j ∧ Below w.heap.size w wx ∧ ∀ x ∈ l.take j, x ≠ s)
            case atStart => exact ⟨0, Nat.zero_le _, by omega, rfl, HB1.out, by simp⟩
            case round =>
              obtain ⟨j, hj1, rfl, rfl, hbx, hnot⟩ := hrel
              have HBX := hide hbx
              have HNOT := hide hnot
              clear a1
              by_cases hjt : j < i
              · have hjl : j < l.length := by omega
                have c1 := (hbx.cell (p := ⟨b, o + j, none⟩) hbw).trans (HMA.out j l[j] (by simp)).2
                have d1 := (hbx.cell (p := ⟨b, o + i, none⟩) hbw).trans (HCI.out)
                have htj : l.take (j + 1) = l.take j ++ [l[j]] := List.take_succ_eq_append_getElem hjl
                have hmj : l[j] ∈ l.take i := List.mem_take_iff_getElem.2 ⟨j, by omega, rfl⟩
                have hjj : (j : Int) < i := by omega
                have hjm : j < m := by omega
                have hjn : (j : Int) < m := by omega
                have hsj : (S l[j]).toList = l[j] := S_list _
                have hsl := HSL.out
                generalize l[j] = v at *
                have HTJ := hide htj
                have HMJ := hide hmj
                clear htj hmj hbx hnot
                by_cases hvs : v = s
                · subst hvs
                  have hqq : ((S v).toList == (S v).toList) = true := by simp
                  have HF : Hid (rv = false) := by
                    show rv = false
                    rw [HR2.out]
                    simp [HNO.out HMJ.out]
                  clear hsj hsl
                  go_wp2_with fail
                  go_quiet (fail)
                  go_wp2_with fail
                  go_ret
                  exact ⟨by rw [HF.out]; rfl, ⟨HBX.out.os, HBX.out.tape, HBX.out.output, HBX.out.size, HBX.out.block⟩⟩
                · have hqq : ((S v).toList == (S s).toList) = false := by rw [hsj, hsl]; simpa using hvs
                  have HVS := hide hvs
                  clear hsj hsl hvs
                  go_wp2_with fail
                  go_quiet (fail)
                  go_wp2_with fail
                  go_roundg (i - (j + 1))
                  case measure => omega
                  case rel =>
                    refine ⟨j + 1, by omega, rfl, by go_num, ⟨HBX.out.os, HBX.out.tape, HBX.out.output, HBX.out.size, HBX.out.block⟩, ?_⟩
                    intro x hx
                    rw [HTJ.out] at hx
                    rcases List.mem_append.1 hx with hx | hx
                    · exact HNOT.out x hx
                    · simp at hx
                      subst hx
                      exact HVS.out
              · have hjj : ¬ (j : Int) < i := by omega
                have hji : j = i := by omega
                clear hbx hnot
                go_wp2_with fail
                go_roundg (m - (i + 1))
                case measure => omega
                case rel =>
                  refine ⟨i + 1, by omega, rfl, by go_num, HBX.out, ?_, ?_⟩
                  · rw [HTK.out, List.all_append, HALL.out]; simp [HQ.out]
                  · rw [HTK.out, List.nodup_append]
                    refine ⟨HND.out, by simp, ?_⟩
                    intro a ha b' hb'
                    simp at hb'
                    subst hb'
                    exact HNOT.out a (by rw [hji]; exact ha)
        · have h1 : l.take i = l := List.take_of_length_le (by rw [HLM.out]; omega)
          have HT : Hid (rv = true) := by
            show rv = true
            rw [HR2.out, ← h1, HALL.out]
            simp [HND.out]
          have hii : ¬ (i : Int) < m := by omega
          clear h1 hall hnd hbr
          go_wp2_with fail
          go_ret
          exact ⟨by rw [HT.out]; rfl, HBR.out⟩
end Go.Proofs.YtebcdjlhmoffjaaDoor
