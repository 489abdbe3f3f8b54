/-
  LayoutPlain's walk.
-/
import Derived.Test.YtnifnbndkbmdcaaDoorPlainMath
import Derived.Test.YtnifnbndkbmdcaaDoorSame
namespace Go.Proofs.YtnifnbndkbmdcaaDoor
open Go.RowKit
set_option linter.unusedVariables false
theorem plain_of (l : List Tok) (h : ∀ j t, l[j]? = some t → beginsK t = true → ∃ n, l[j + 1]? = some n ∧ isK n [123] = true) : plainL l := by
  induction l with
  | nil => trivial
  | cons t r ih =>
    refine ⟨fun hb => ?_, ih fun j u hu hbu => h (j + 1) u (by simpa using hu) hbu⟩
    obtain ⟨n, hn, hk⟩ := h 0 t rfl hb
    cases r with
    | nil => simp at hn
    | cons y r' => exact ⟨y, r', rfl, by simp at hn; rw [hn]; exact hk⟩
theorem isK_of {t : Tok} {l : List UInt8} (h1 : t.kd = 4) (h2 : t.tx = l) : isK t l = true := by unfold isK; rw [h1, h2]; simp
theorem up_short (w : World) (hg : Glob w) (p : Option Addr) (m c : Nat) (ts : List Tok) (hl : ts.length = m) (hm : m = 0 ∨ 500 < m) : Calls Tryd.prog 7 #[.slice p m c] w fun e w' => e = .returned (.bool true) ∧ Below w.heap.size w w' := by
  rcases hm with rfl | hm
  · go_enter Tryd.func7, Tryd.ntmps7
    go_wp2_with fail
    refine (awake_any w hg).mono ?_
    rintro e w1 ⟨rfl, hb⟩
    go_wp2_with fail
    go_ret
    exact ⟨rfl, hb⟩
  · have hm1 : ((m : Int) == 0) = false := by rw [beq_eq_false_iff_ne]; omega
    have hm2 : (500 : Int) < m := by omega
    go_enter Tryd.func7, Tryd.ntmps7
    go_wp2_with fail
    refine (awake_any w hg).mono ?_
    rintro e w1 ⟨rfl, hb⟩
    go_wp2_with fail
    go_ret
    exact ⟨rfl, hb⟩
set_option maxRecDepth 20000 in
set_option maxHeartbeats 4000000 in
theorem plain_walk (p : Option Addr) (m c : Nat) (l : List Tok) (w : World) (hg : Glob w) (hm0 : m ≠ 0) (hm : m ≤ 500) (hmc : m ≤ c) (hl : l.length = m) (hM : TMem w p l) :
    Calls Tryd.prog 7 #[.slice p m c] w fun e w' => e = .returned (.bool true) ∧ Below w.heap.size w w' := by
  cases l with
  | nil => exact absurd hl.symm hm0
  | cons t r =>
  have hm1 : ((m : Int) == 0) = false := by rw [beq_eq_false_iff_ne]; omega
  have hm2 : ¬ (500 : Int) < m := by omega
  have hm3 : 0 < m := by omega
  go_enter Tryd.func7, Tryd.ntmps7
  go_wp2_with fail
  refine (awake_any w hg).mono ?_
  rintro e w1 ⟨rfl, hb⟩
  have M1 := hM.below (Nat.le_refl _) hb
  have N1 := hb.size
  clear hM
  rcases M1 with he | ⟨g, og, rfl, hgl, hgm⟩
  · cases he
  obtain ⟨n0, n1, n2, n3, n4⟩ := hgm 0 t rfl
  simp only [Nat.zero_mul, Nat.add_zero] at n0 n1 n2 n3 n4
  have HGM := hide hgm
  clear hgm
  have hs := S_list t.tx
  generalize S t.tx = s at *
  by_cases hk : t.kd = 4
  · by_cases htx : t.tx = [123]
    · rw [htx] at hs
      rw [hk] at n0
      go_wp2_with fail
      have ht : isK t [123] = true := isK_of hk htx
      have hk2 := hide hk
      clear hk hs n0 n1 n2 n3 n4
      have hp := hide (fun h => lay_plain t r ht (plain_of (t :: r) h))
      generalize t :: r = l at *
      go_loopw [4] (fun i wr => ∃ j : Nat, j ≤ m ∧ i = .int .i64 j ∧ w1 = wr ∧ ∀ j' t, j' < j → l[j']? = some t → beginsK t = true → ∃ n, l[j' + 1]? = some n ∧ isK n [123] = true) (fun i _ => m - (intOf i).toNat)
      case atStart => exact ⟨0, Nat.zero_le _, rfl, rfl, fun j' t h => by omega⟩
      case round =>
        obtain ⟨j, hj, rfl, rfl, hall⟩ := hrel
        have HA := hide hall
        clear hall
        by_cases hlt : j < m
        · have hjl : j < l.length := by omega
          obtain ⟨u, hu⟩ : ∃ u, l[j]? = some u := ⟨_, List.getElem?_eq_getElem hjl⟩
          obtain ⟨a0, a1, _, _, _⟩ := HGM.out j u hu
          have HNX : Hid ((beginsK u = true → ∃ n, l[j + 1]? = some n ∧ isK n [123] = true) → ∀ j' t, j' < j + 1 → l[j']? = some t → beginsK t = true → ∃ n, l[j' + 1]? = some n ∧ isK n [123] = true) := by
            intro h j' t hj' ht' hb'
            by_cases e : j' = j
            · subst e; rw [hu] at ht'; cases ht'; exact h hb'
            · exact HA.out j' t (by omega) ht' hb'
          clear hu
          have hsu := S_list u.tx
          by_cases hku : u.kd = 4
          · rw [hku] at a0
            by_cases hbu : beginsK u = true
            · have hor : u.tx = [111, 102] ∨ u.tx = [100, 111] ∨ u.tx = [100, 111, 115] := by
                unfold beginsK isK at hbu; simp at hbu
                rcases hbu with (h | h) | h
                · exact .inl h.2
                · exact .inr (.inl h.2)
                · exact .inr (.inr h.2)
              clear hbu
              generalize S u.tx = su at *
              have hcase : (j + 1 = m) ∨ (j + 1 < m ∧ ∃ v, l[j + 1]? = some v ∧ v.kd ≠ 4) ∨ (j + 1 < m ∧ ∃ v, l[j + 1]? = some v ∧ v.kd = 4 ∧ v.tx ≠ [123]) ∨ (j + 1 < m ∧ ∃ v, l[j + 1]? = some v ∧ v.kd = 4 ∧ v.tx = [123]) := by
                by_cases e : j + 1 = m
                · exact .inl e
                · obtain ⟨v, hv⟩ : ∃ v, l[j + 1]? = some v := ⟨_, List.getElem?_eq_getElem (by omega)⟩
                  have h1 : j + 1 < m := by omega
                  by_cases e1 : v.kd = 4
                  · by_cases e2 : v.tx = [123]
                    · exact .inr (.inr (.inr ⟨h1, v, hv, e1, e2⟩))
                    · exact .inr (.inr (.inl ⟨h1, v, hv, e1, e2⟩))
                  · exact .inr (.inl ⟨h1, v, hv, e1⟩)
              rcases hor with e | e | e
              all_goals
                rw [e] at hsu
                clear e hku
                rcases hcase with h1 | ⟨h1, v, hv, e1⟩ | ⟨h1, v, hv, e1, e2⟩ | ⟨h1, v, hv, e1, e2⟩
                · have h1b : ((j : Int) + 1 == (m : Int)) = true := by simp; omega
                  clear h1 HNX
                  go_wp2_with fail
                  go_ret
                  exact ⟨rfl, hb⟩
                · obtain ⟨v0, v1, _, _, _⟩ := HGM.out (j + 1) v hv
                  have h1b : ((j : Int) + 1 == (m : Int)) = false := by simp; omega
                  have h1c : ¬ (j : Int) + 1 = (m : Int) := by omega
                  have e1b : (v.kd == 4) = false := by simpa using e1
                  clear HNX hv
                  generalize v.kd = kv at *
                  go_wp2_with fail
                  go_ret
                  exact ⟨rfl, hb⟩
                · obtain ⟨v0, v1, _, _, _⟩ := HGM.out (j + 1) v hv
                  have h1b : ((j : Int) + 1 == (m : Int)) = false := by simp; omega
                  have h1c : ¬ (j : Int) + 1 = (m : Int) := by omega
                  have hsv := S_list v.tx
                  rw [e1] at v0
                  generalize S v.tx = sv at *
                  have e2b : ¬ sv.toList = [123] := by rw [hsv]; exact e2
                  have e2c : (sv.toList == [123]) = false := by simpa using e2b
                  clear HNX hv hsv e2 e1
                  go_wp2_with fail
                  go_ret
                  exact ⟨rfl, hb⟩
                · obtain ⟨v0, v1, _, _, _⟩ := HGM.out (j + 1) v hv
                  have h1b : ((j : Int) + 1 == (m : Int)) = false := by simp; omega
                  have h1c : ¬ (j : Int) + 1 = (m : Int) := by omega
                  have HN2 := hide (HNX.out (fun _ => ⟨v, hv, isK_of e1 e2⟩))
                  have hsv := S_list v.tx
                  rw [e1] at v0
                  rw [e2] at hsv
                  generalize S v.tx = sv at *
                  clear HNX hv e2 e1
                  go_wp2_with fail
                  all_goals first | exact ⟨⟨j + 1, by omega, by go_num, trivial, HN2.out⟩, by simp [intOf]; omega⟩ | (go_ret; exact ⟨rfl, hb⟩)
            · have HN2 := hide (HNX.out (fun hb => absurd hb hbu))
              have h3 : ¬ u.tx = [111, 102] ∧ ¬ u.tx = [100, 111] ∧ ¬ u.tx = [100, 111, 115] := by
                refine ⟨fun e => hbu ?_, fun e => hbu ?_, fun e => hbu ?_⟩ <;> (unfold beginsK isK; rw [hku, e]; decide)
              rw [← hsu] at h3
              obtain ⟨h31, h32, h33⟩ := h3
              have b31 : ((S u.tx).toList == [111, 102]) = false := by simpa using h31
              have b32 : ((S u.tx).toList == [100, 111]) = false := by simpa using h32
              have b33 : ((S u.tx).toList == [100, 111, 115]) = false := by simpa using h33
              clear HNX hbu hku
              generalize S u.tx = su at *
              clear hsu
              go_wp2_with fail
              go_roundw
              case rel => exact ⟨j + 1, by omega, by go_num, by first | rfl | trivial, HN2.out⟩
              case measure => simp [intOf]; omega
          · have hkb : (u.kd == 4) = false := by simpa using hku
            have HN2 := hide (HNX.out (fun hb => absurd hb (by unfold beginsK isK; rw [hkb]; simp)))
            clear HNX
            generalize S u.tx = su at *
            generalize u.kd = ku at *
            clear hsu hku
            go_wp2_with fail
            go_roundw
            case rel => exact ⟨j + 1, by omega, by go_num, by first | rfl | trivial, HN2.out⟩
            case measure => simp [intOf]; omega
        · have hjm : j = m := by omega
          have HP := hide (hp.out (fun j' t' h1 h2 => HA.out j' t' (by have := (List.getElem?_eq_some_iff.1 h1).1; omega) h1 h2))
          have hTM : TMem w1 (some ⟨g, og, none⟩) l := .inr ⟨g, og, rfl, hgl, HGM.out⟩
          have LY := hide (lay_any (some ⟨g, og, none⟩) m c l w1 hl (by omega) hmc hTM)
          clear HA hp
          rcases HP.out with ⟨a, b, hx⟩ | hx
          · rw [hx] at LY
            go_wp2_with fail
            refine LY.out.mono ?_
            rintro e w2 ⟨pa, ca, rfl, _, b2⟩
            have B2 := hb.trans (b2.mono N1)
            go_wp2_with fail
            go_ret
            exact ⟨rfl, B2.alloc B2.size _⟩
          · rw [hx] at LY
            simp only [hl] at LY
            go_wp2_with fail
            refine LY.out.mono ?_
            rintro e w2 ⟨pa, ca, rfl, TM2, b2⟩
            have hT2 := hTM.below (Nat.le_refl _) b2
            have B2 := hb.trans (b2.mono N1)
            have SM := hide (fun w h1 h2 => same_eq pa (some ⟨g, og, none⟩) ca c m l w hl (by omega) h1 h2)
            go_wp2_with fail
            have A2 := (Below.refl _ w2).alloc (Nat.le_refl _) (.cells #[.int .i64 0, .int .i64 0] 25)
            refine (SM.out _ (TM2.below (Nat.le_refl _) A2) (hT2.below (Nat.le_refl _) A2)).mono ?_
            rintro e w3 ⟨rfl, b3⟩
            go_wp2_with fail
            go_ret
            exact ⟨rfl, (B2.alloc B2.size _).trans (b3.mono (by have := B2.size; simp; omega))⟩
    · have htb : (s.toList == [123]) = false := by rw [hs]; simpa using htx
      have htc : ¬ s.toList = [123] := by rw [hs]; exact htx
      rw [hk] at n0
      clear hs htx
      go_wp2_with fail
      go_ret
      exact ⟨rfl, hb⟩
  · have hkb : (t.kd == 4) = false := by simpa using hk
    go_wp2_with fail
    go_ret
    exact ⟨rfl, hb⟩
end Go.Proofs.YtnifnbndkbmdcaaDoor
