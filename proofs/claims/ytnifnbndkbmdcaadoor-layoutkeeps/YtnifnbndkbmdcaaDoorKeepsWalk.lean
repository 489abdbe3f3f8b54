/-
  LayoutKeeps's walk.
-/
import Derived.Test.YtnifnbndkbmdcaaDoorKeepMath
import Derived.Test.YtnifnbndkbmdcaaDoorFitsWalk
namespace Go.Proofs.YtnifnbndkbmdcaaDoor
open Go.RowKit
set_option linter.unusedVariables false
theorem keeps_long (w : World) (hg : Glob w) (p : Option Addr) (m c : Nat) (hm : 500 < m) : Calls Tryd.prog 4 #[.slice p m c] w fun e w' => e = .returned (.bool true) ∧ Below w.heap.size w w' := by
  have hm2 : (500 : Int) < m := by omega
  go_enter Tryd.func4, Tryd.ntmps4
  go_wp2_with fail
  refine (awake_any w hg).mono ?_
  rintro e w1 ⟨rfl, hb⟩
  go_wp2_with fail
  go_ret
  exact ⟨rfl, hb⟩
set_option maxRecDepth 20000 in
set_option maxHeartbeats 4000000 in
theorem keeps_walk (p : Option Addr) (m c : Nat) (l : List Tok) (w : World) (hg : Glob w) (hm : m ≤ 500) (hmc : m ≤ c) (hl : l.length = m) (hM : TMem w p l) :
    Calls Tryd.prog 4 #[.slice p m c] w fun e w' => e = .returned (.bool true) ∧ Below w.heap.size w w' := by
  have hm2 : ¬ (500 : Int) < m := by omega
  go_enter Tryd.func4, Tryd.ntmps4
  go_wp2_with fail
  refine (awake_any w hg).mono ?_
  rintro e w1 ⟨rfl, hb⟩
  have M1 := hM.below (Nat.le_refl _) hb
  have N1 := hb.size
  clear hM
  go_wp2_with fail
  go_loopw [4] (fun i wr => ∃ j : Nat, j ≤ m ∧ i = .int .i64 j ∧ w1 = wr ∧ ∀ j' t, j' < j → l[j']? = some t → nobr t) (fun i _ => m - (intOf i).toNat)
  case atStart => exact ⟨0, Nat.zero_le _, rfl, rfl, fun j' t h => by omega⟩
  case round =>
    obtain ⟨j, hj, rfl, rfl, hall⟩ := hrel
    have HA := hide hall
    clear hall
    by_cases hlt : j < m
    · have hjl : j < l.length := by omega
      obtain ⟨u, hu⟩ : ∃ u, l[j]? = some u := ⟨_, List.getElem?_eq_getElem hjl⟩
      rcases M1 with he | ⟨g, og, rfl, hgl, hgm⟩
      · rw [he] at hjl; simp at hjl
      obtain ⟨a0, a1, _, _, _⟩ := hgm j u hu
      have HNX : Hid (nobr u → ∀ j' t, j' < j + 1 → l[j']? = some t → nobr t) := by
        intro h j' t hj' ht'
        by_cases e : j' = j
        · subst e; rw [hu] at ht'; cases ht'; exact h
        · exact HA.out j' t (by omega) ht'
      clear hgm hu HA
      have hsu := S_list u.tx
      by_cases hku : u.kd = 4
      · rw [hku] at a0
        by_cases hbr : u.tx = [123] ∨ u.tx = [125] ∨ u.tx = [59] ∨ u.tx = [40] ∨ u.tx = [41]
        · generalize S u.tx = su at *
          clear HNX
          rcases hbr with e | e | e | e | e
          all_goals
            rw [e] at hsu
            clear e hku
            go_wp2_with fail
            go_ret
            exact ⟨rfl, hb⟩
        · have h1 : ¬ u.tx = [123] := fun e => hbr (.inl e)
          have h2 : ¬ u.tx = [125] := fun e => hbr (.inr (.inl e))
          have h3 : ¬ u.tx = [59] := fun e => hbr (.inr (.inr (.inl e)))
          have h4 : ¬ u.tx = [40] := fun e => hbr (.inr (.inr (.inr (.inl e))))
          have h5 : ¬ u.tx = [41] := fun e => hbr (.inr (.inr (.inr (.inr e))))
          have HN2 := hide (HNX.out (fun e => hbr e.2))
          rw [← hsu] at h1 h2 h3 h4 h5
          generalize S u.tx = su at *
          have q1 : (su.toList == [123]) = false := by simpa using h1
          have q2 : (su.toList == [125]) = false := by simpa using h2
          have q3 : (su.toList == [59]) = false := by simpa using h3
          have q4 : (su.toList == [40]) = false := by simpa using h4
          have q5 : (su.toList == [41]) = false := by simpa using h5
          clear HNX hsu hbr hku
          go_wp2_with fail
          all_goals first | exact ⟨⟨j + 1, by omega, by go_num, trivial, HN2.out⟩, by simp [intOf]; omega⟩ | (go_roundw; case rel => exact ⟨j + 1, by omega, by go_num, by first | rfl | trivial, HN2.out⟩; case measure => simp [intOf]; omega)
      · have hkb : (u.kd == 4) = false := by simpa using hku
        have HN2 := hide (HNX.out (fun e => hku e.1))
        clear HNX hsu hku
        generalize u.kd = ku at *
        go_wp2_with fail
        all_goals first | exact ⟨⟨j + 1, by omega, by go_num, trivial, HN2.out⟩, by simp [intOf]; omega⟩ | (go_roundw; case rel => exact ⟨j + 1, by omega, by go_num, by first | rfl | trivial, HN2.out⟩; case measure => simp [intOf]; omega)
    · have hall : ∀ t ∈ l, nobr t := fun t ht => by
        obtain ⟨i, hi⟩ := List.getElem?_of_mem ht
        exact HA.out i t (by have := (List.getElem?_eq_some_iff.1 hi).1; omega) hi
      obtain ⟨o, ho, hf, hch⟩ := lay_keeps l hall
      have LY := hide (lay_any p m c l w1 hl (by omega) hmc M1)
      have hob : o.length ≤ 500000 := by have := lay_len l; rw [ho] at this; simp only at this; omega
      rw [ho] at LY
      simp only at LY
      clear HA ho
      go_wp2_with fail
      refine LY.out.mono ?_
      rintro e w2 ⟨pa, ca, rfl, TM, b2⟩
      clear LY
      have B2 := hb.trans (b2.mono N1)
      have B3 := B2.alloc B2.size (.cells #[.int .i64 0, .int .i64 0] 25)
      have TM3 := TM.below (Nat.le_refl _) ((Below.refl _ w2).alloc (Nat.le_refl _) (.cells #[.int .i64 0, .int .i64 0] 25))
      have ML3 := (M1.below (Nat.le_refl _) b2).below (Nat.le_refl _) ((Below.refl _ w2).alloc (Nat.le_refl _) (.cells #[.int .i64 0, .int .i64 0] 25))
      have PL3 := Hold.new w2 #[.int .i64 0, .int .i64 0] 25
      go_wp2_with fail
      have p0 : (w2.alloc (.cells #[.int .i64 0, .int .i64 0] 25)).cell? ⟨w2.heap.size, 0, none⟩ = some (.int .i64 0) := PL3.cell 0
      have p1 : (w2.alloc (.cells #[.int .i64 0, .int .i64 0] 25)).cell? ⟨w2.heap.size, 1, none⟩ = some (.int .i64 0) := PL3.cell 1
      have hpl := PL3.lt
      have hpar : ∀ t ∈ o, ¬ (t.kd = 4 ∧ (t.tx = [40] ∨ t.tx = [41])) := by
        intro t ht e
        have hk : keepT t = true := by
          unfold keepT
          rcases e.2 with h | h <;> simp [h]
        have : t ∈ l := by rw [← hf]; exact List.mem_filter.2 ⟨ht, hk⟩
        refine hall t this ⟨e.1, ?_⟩
        rcases e.2 with h | h
        · exact .inr (.inr (.inr (.inl h)))
        · exact .inr (.inr (.inr (.inr h)))
      generalize hW : w2.alloc (.cells #[.int .i64 0, .int .i64 0] 25) = W0 at *
      obtain ⟨i0, hi, hz0, hz1, hz2⟩ := info_parts info32
      have HW : Hid (Below w.heap.size w W0) := B3
      have hN : w.heap.size ≤ W0.heap.size := B3.size
      have HP := hide hpar
      clear B2 B3 TM hW hall hpar PL3
      go_loopg [9, 10, 11] o.length (fun gk v d i wr => ∃ (k : Nat) (stk : List (List UInt8)) (po : Option Addr) (co : Nat), k ≤ o.length ∧ gk = o.length - k ∧ i = .int .i64 k ∧ d = .int .i64 stk.length ∧ v = .slice po ((o.take k).filter keepT).length co ∧ wr.ownsRow W0.heap.size 32 5 (.slice po ((o.take k).filter keepT).length co) ((o.take k).filter keepT).length (tcs ((o.take k).filter keepT)) ∧ Below W0.heap.size W0 wr ∧ chk stk (o.drop k) = some [] ∧ stk.length ≤ k)
      case atStart => exact ⟨0, [], none, 0, Nat.zero_le _, rfl, rfl, rfl, rfl, ⟨rfl, .inl ⟨rfl, rfl⟩⟩, Below.refl _ _, hch, Nat.le_refl _⟩
      case round =>
        obtain ⟨k, stk, po, co, hk, hgk, rfl, rfl, rfl, hrow, hB, hcs, hsk⟩ := hrel
        by_cases hlt : k < o.length
        · have TMR := TM3.below (Nat.le_refl _) hB
          rcases TMR with he | ⟨g, og, rfl, hgl, hgm⟩
          · rw [he] at hlt; simp at hlt
          obtain ⟨x, hx⟩ : ∃ x, o[k]? = some x := ⟨_, List.getElem?_eq_getElem hlt⟩
          obtain ⟨a0, a1, a2, a3, a4⟩ := hgm k x hx
          have hox : o[k] = x := by rw [List.getElem?_eq_getElem hlt] at hx; exact Option.some.inj hx
          have hdr : o.drop k = x :: o.drop (k + 1) := by
            rw [List.drop_eq_getElem_cons hlt, hox]
          have htk : (o.take (k + 1)).filter keepT = (o.take k).filter keepT ++ (if keepT x then [x] else []) := by
            rw [List.take_succ_eq_append_getElem hlt, hox, filt_snoc]
          have hxm := HP.out x (List.mem_of_getElem? hx)
          rw [hdr] at hcs
          obtain ⟨stk', h1, h2⟩ : ∃ s', chk1 stk x = some s' ∧ chk s' (o.drop (k + 1)) = some [] := by
            have : (chk1 stk x).bind (fun s => chk s (o.drop (k + 1))) = some [] := hcs
            cases hc : chk1 stk x with
            | none => rw [hc] at this; cases this
            | some s' => rw [hc] at this; exact ⟨s', rfl, this⟩
          have hfl : ((o.take k).filter keepT).length ≤ k := by
            have := List.length_filter_le keepT (o.take k)
            rw [List.length_take] at this; omega
          have HB := hide hB
          have HCC := hide h2
          have hsx := S_list x.tx
          clear hcs hdr hx h2 hgm hch hox
          generalize (o.take k).filter keepT = fl at *
          unfold chk1 at h1
          by_cases hk4 : x.kd = 4
          · rw [if_pos hk4] at h1
            have n40 : ¬ x.tx = [40] := fun e => hxm ⟨hk4, .inl e⟩
            have n41 : ¬ x.tx = [41] := fun e => hxm ⟨hk4, .inr e⟩
            by_cases h123 : x.tx = [123]
            · rw [if_pos (.inr h123)] at h1
              have e := Option.some.inj h1
              subst e
              have hkp : keepT x = false := by unfold keepT; rw [hk4, h123]; rfl
              rw [hkp] at htk
              have HTK : Hid ((o.take (k + 1)).filter keepT = fl) := by show _ = fl; rw [htk]; simp
              replace hsx := hsx.trans h123
              rw [hk4] at a0
              generalize S x.tx = sx at *
              clear h1 hxm hkp htk
              go_wp2_with fail
              go_roundg (o.length - (k + 1))
              case measure => omega
              case rel => exact ⟨k + 1, x.tx :: stk, po, co, by omega, rfl, by go_num, by rw [List.length_cons]; go_num, by rw [HTK.out], by rw [HTK.out]; exact hrow, HB.out, HCC.out, by simp; omega⟩
            · rw [if_neg (by intro e; rcases e with e | e; exact n40 e; exact h123 e), if_neg n41] at h1
              by_cases h125 : x.tx = [125]
              · rw [if_pos h125] at h1
                cases stk with
                | nil => cases h1
                | cons s r =>
                  simp only at h1
                  split at h1
                  · cases h1
                  · have e := Option.some.inj h1
                    subst e
                    have hkp : keepT x = false := by unfold keepT; rw [hk4, h125]; rfl
                    rw [hkp] at htk
                    have HTK : Hid ((o.take (k + 1)).filter keepT = fl) := by show _ = fl; rw [htk]; simp
                    replace hsx := hsx.trans h125
                    rw [hk4] at a0
                    simp only [List.length_cons] at hsk
                    generalize S x.tx = sx at *
                    have y1 : (sx.toList == [123]) = false := by rw [hsx]; rfl
                    generalize hrn : r.length = rn at *
                    clear h1 hxm hkp htk
                    go_wp2_with fail
                    go_roundg (o.length - (k + 1))
                    case measure => omega
                    case rel => exact ⟨k + 1, r, po, co, by omega, rfl, by go_num, by rw [hrn], by rw [HTK.out], by rw [HTK.out]; exact hrow, HB.out, HCC.out, by omega⟩
              · rw [if_neg h125] at h1
                have e := Option.some.inj h1
                subst e
                by_cases h59 : x.tx = [59]
                · have hkp : keepT x = false := by unfold keepT; rw [hk4, h59]; rfl
                  rw [hkp] at htk
                  have HTK : Hid ((o.take (k + 1)).filter keepT = fl) := by show _ = fl; rw [htk]; simp
                  replace hsx := hsx.trans h59
                  rw [hk4] at a0
                  generalize S x.tx = sx at *
                  have y1 : (sx.toList == [123]) = false := by rw [hsx]; rfl
                  have y2 : (sx.toList == [125]) = false := by rw [hsx]; rfl
                  clear h1 hxm hkp htk
                  go_wp2_with fail
                  go_roundg (o.length - (k + 1))
                  case measure => omega
                  case rel => exact ⟨k + 1, stk, po, co, by omega, rfl, by go_num, rfl, by rw [HTK.out], by rw [HTK.out]; exact hrow, HB.out, HCC.out, by omega⟩
                · have hkp : keepT x = true := by unfold keepT; simp [h123, h125, h59]
                  rw [hkp, if_pos rfl] at htk
                  have HTK := hide htk
                  have HNC : Hid (∀ v' w', w'.ownsRow W0.heap.size 32 5 v' (fl.length + 1) (tcs fl ++ tc x) → (wr.alloc (.cells #[.int .i64 x.kd, .string (S x.tx), .int .i64 x.nu, .int .i64 x.ln, .int .i64 x.co] 32)).grownBy w' (Value.slice po fl.length co).ownBlock → w'.ownsRow W0.heap.size 32 5 v' ((o.take (k + 1)).filter keepT).length (tcs ((o.take (k + 1)).filter keepT)) ∧ Below W0.heap.size W0 w') := by
                    intro v' w' h1 h2
                    refine ⟨by rw [HTK.out, List.length_append, tcs_snoc]; exact h1, ?_⟩
                    have hz := HB.out.size
                    exact (HB.out.alloc hz _).trans (below_row (hrow.alloc _) (by simp; omega) h2)
                  have HX := hide (fun ops rest o' a Q hgd s' x' ho hs hx => @wpList_append_lies Tryd.prog (wr.alloc (.cells #[.int .i64 x.kd, .string (S x.tx), .int .i64 x.nu, .int .i64 x.ln, .int .i64 x.co] 32)) ops rest o' a Q hgd s' x' 22 ho W0.heap.size 32 i0 _ 5 48 Tryd.underlying22 hi hz0 hz1 hz2 rfl (by omega) (.slice po fl.length co) fl.length (tcs fl) hs (hrow.alloc _) ⟨wr.heap.size, 0, none⟩ 1 1 [.int .i64 x.kd, .string (S x.tx), .int .i64 x.nu, .int .i64 x.ln, .int .i64 x.co] hx rfl (cell_five_new wr (.int .i64 x.kd) (.string (S x.tx)) (.int .i64 x.nu) (.int .i64 x.ln) (.int .i64 x.co) 32) (by simp [Value.oneCell']) (by omega) (by unfold maxLen; omega) (by omega) (by have := HB.out.size; simp; omega) (wr.heap.size + 1) (by simp))
                  unfold tc at HNC
                  rw [hk4] at a0 HX HNC
                  have z1 : ¬ (S x.tx).toList = [123] := by rw [hsx]; exact h123
                  have z2 : ¬ (S x.tx).toList = [125] := by rw [hsx]; exact h125
                  have z3 : ¬ (S x.tx).toList = [59] := by rw [hsx]; exact h59
                  clear hsx
                  generalize S x.tx = sx at *
                  have y1 : (sx.toList == [123]) = false := by simpa using z1
                  have y2 : (sx.toList == [125]) = false := by simpa using z2
                  have y3 : (sx.toList == [59]) = false := by simpa using z3
                  clear h1 hxm hkp htk
                  go_wp2_with (at_builtin; have HY := HX.out; refine HY _ _ _ _ _ rfl _ _ rfl rfl rfl ?_; clear HY; intro gg cap W2 hown1 hgrow hat hlt2; have HN2 := hide (HNC.out _ _ hown1 hgrow); clear hown1 hgrow hat)
                  go_roundg (o.length - (k + 1))
                  case measure => omega
                  case rel => exact ⟨k + 1, stk, some ⟨gg, 0, none⟩, cap, by omega, rfl, by go_num, rfl, by rw [HTK.out, List.length_append]; rfl, by have h9 := HN2.out.1; have h8 : ((o.take (k + 1)).filter keepT).length = fl.length + 1 := by { rw [HTK.out, List.length_append]; rfl }; rw [h8] at h9 ⊢; exact h9, HN2.out.2, HCC.out, by omega⟩
          · rw [if_neg hk4] at h1
            have e := Option.some.inj h1
            subst e
            have hkp : keepT x = true := by unfold keepT; simp [hk4]
            rw [hkp, if_pos rfl] at htk
            have HTK := hide htk
            have HNC : Hid (∀ v' w', w'.ownsRow W0.heap.size 32 5 v' (fl.length + 1) (tcs fl ++ tc x) → (wr.alloc (.cells #[.int .i64 x.kd, .string (S x.tx), .int .i64 x.nu, .int .i64 x.ln, .int .i64 x.co] 32)).grownBy w' (Value.slice po fl.length co).ownBlock → w'.ownsRow W0.heap.size 32 5 v' ((o.take (k + 1)).filter keepT).length (tcs ((o.take (k + 1)).filter keepT)) ∧ Below W0.heap.size W0 w') := by
              intro v' w' h1 h2
              refine ⟨by rw [HTK.out, List.length_append, tcs_snoc]; exact h1, ?_⟩
              have hz := HB.out.size
              exact (HB.out.alloc hz _).trans (below_row (hrow.alloc _) (by simp; omega) h2)
            have HX := hide (fun ops rest o' a Q hgd s' x' ho hs hx => @wpList_append_lies Tryd.prog (wr.alloc (.cells #[.int .i64 x.kd, .string (S x.tx), .int .i64 x.nu, .int .i64 x.ln, .int .i64 x.co] 32)) ops rest o' a Q hgd s' x' 22 ho W0.heap.size 32 i0 _ 5 48 Tryd.underlying22 hi hz0 hz1 hz2 rfl (by omega) (.slice po fl.length co) fl.length (tcs fl) hs (hrow.alloc _) ⟨wr.heap.size, 0, none⟩ 1 1 [.int .i64 x.kd, .string (S x.tx), .int .i64 x.nu, .int .i64 x.ln, .int .i64 x.co] hx rfl (cell_five_new wr (.int .i64 x.kd) (.string (S x.tx)) (.int .i64 x.nu) (.int .i64 x.ln) (.int .i64 x.co) 32) (by simp [Value.oneCell']) (by omega) (by unfold maxLen; omega) (by omega) (by have := HB.out.size; simp; omega) (wr.heap.size + 1) (by simp))
            unfold tc at HNC
            have hkb : (x.kd == 4) = false := by simpa using hk4
            clear h1 hxm hkp htk hsx
            generalize S x.tx = sx at *
            generalize x.kd = kx at *
            go_wp2_with (at_builtin; have HY := HX.out; refine HY _ _ _ _ _ rfl _ _ rfl rfl rfl ?_; clear HY; intro gg cap W2 hown1 hgrow hat hlt2; have HN2 := hide (HNC.out _ _ hown1 hgrow); clear hown1 hgrow hat)
            go_roundg (o.length - (k + 1))
            case measure => omega
            case rel => exact ⟨k + 1, stk, some ⟨gg, 0, none⟩, cap, by omega, rfl, by go_num, rfl, by rw [HTK.out, List.length_append]; rfl, by have h9 := HN2.out.1; have h8 : ((o.take (k + 1)).filter keepT).length = fl.length + 1 := by { rw [HTK.out, List.length_append]; rfl }; rw [h8] at h9 ⊢; exact h9, HN2.out.2, HCC.out, by omega⟩
        · have hst : stk = [] := by
            rw [List.drop_eq_nil_of_le (by omega)] at hcs
            exact Option.some.inj hcs
          subst hst
          rw [List.take_of_length_le (by omega), hf] at hrow
          have hfo : (o.take k).filter keepT = l := by rw [List.take_of_length_le (by omega), hf]
          have HFO := hide hfo
          rw [hl] at hrow
          obtain ⟨TR, _⟩ := row_tmem hrow
          have MR := ML3.below (Nat.le_refl _) hB
          have SM := hide (same_eq po p co c m l wr hl (by omega) TR MR)
          have p0' : wr.cell? ⟨w2.heap.size, 0, none⟩ = some (.int .i64 0) := (hB.cell (p := ⟨w2.heap.size, 0, none⟩) hpl).trans p0
          have p1' : wr.cell? ⟨w2.heap.size, 1, none⟩ = some (.int .i64 0) := (hB.cell (p := ⟨w2.heap.size, 1, none⟩) hpl).trans p1
          rw [hfo, hl]
          clear p0 p1 hfo hf HP hrow
          have HBB := hide (HW.out.trans (hB.mono hN))
          go_wp2_with fail
          refine SM.out.mono ?_
          rintro e w4 ⟨rfl, b4⟩
          have p0'' : w4.cell? ⟨w2.heap.size, 0, none⟩ = some (.int .i64 0) := (b4.cell (p := ⟨w2.heap.size, 0, none⟩) (Nat.lt_of_lt_of_le hpl hB.size)).trans p0'
          have p1'' : w4.cell? ⟨w2.heap.size, 1, none⟩ = some (.int .i64 0) := (b4.cell (p := ⟨w2.heap.size, 1, none⟩) (Nat.lt_of_lt_of_le hpl hB.size)).trans p1'
          clear p0' p1'
          go_wp2_with fail
          go_ret
          exact ⟨rfl, HBB.out.trans (b4.mono HBB.out.size)⟩
end Go.Proofs.YtnifnbndkbmdcaaDoor
