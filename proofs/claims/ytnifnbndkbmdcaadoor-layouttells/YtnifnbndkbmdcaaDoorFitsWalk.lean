/-
  LayoutFits's walk.
-/
import Derived.Test.YtnifnbndkbmdcaaDoorFitMath
import Derived.Test.YtnifnbndkbmdcaaDoorSame
namespace Go.Proofs.YtnifnbndkbmdcaaDoor
open Go.RowKit
set_option linter.unusedVariables false
theorem fits_long (w : World) (hg : Glob w) (p : Option Addr) (m c : Nat) (hm : 500 < m) : Calls Tryd.prog 5 #[.slice p m c] w fun e w' => e = .returned (.bool true) ∧ Below w.heap.size w w' := by
  have hm2 : (500 : Int) < m := by omega
  go_enter Tryd.func5, Tryd.ntmps5
  go_wp2_with fail
  refine (awake_any w hg).mono ?_
  rintro e w1 ⟨rfl, hb⟩
  go_wp2_with fail
  go_ret
  exact ⟨rfl, hb⟩
def ss (l : List (List UInt8)) : List Value := l.map fun s => .string (S s)
theorem info9 : (Tryd.prog.info? 9).map (fun i => (i.zero, i.size, i.bytes)) = some (some (.string ⟨#[]⟩), 1, 16) := by kernel_rfl
theorem cell_one_new' (w : World) (a : Value) (t : TypeId) (j : Nat) (u : Value) (h : [a][j]? = some u) : (w.alloc (.cells #[a] t)).cell? ((⟨w.heap.size, 0, none⟩ : Addr).add j) = some u := by
  have hj : j < 1 := by have := (List.getElem?_eq_some_iff.1 h).1; simpa using this
  have e0 : (⟨w.heap.size, 0, none⟩ : Addr).add j = ⟨w.heap.size, j, none⟩ := by unfold Addr.add; split <;> simp_all
  rw [e0, World.cell?_alloc_mark, ← h]
  simp
theorem go_len (r : List Tok) : ∀ (prev : Option Tok) (s s' : Sm), goM prev r s = .ok s' → s'.2.1.length + s'.1.length ≤ s.2.1.length + s.1.length + 4 * r.length := by
  induction r with
  | nil => intro prev s s' hs; cases hs; simp
  | cons t r ih =>
    intro prev s s' hs
    unfold goM at hs
    split at hs
    · cases hs
    · rename_i q hq
      unfold stepM at hq
      split at hq
      · cases hq
      · rename_i x hx
        cases hq
        have h1 := ih _ _ _ hs
        have h2 := mid_sum hx
        have h3 := behM_sum t r x.1 (x.2 ++ [t]) false
        have e1 : (x.2 ++ [t]).length = x.2.length + 1 := by simp
        rw [e1] at h3
        rw [List.length_cons]; omega
theorem lay_len (l : List Tok) : (layM l).1.length ≤ 4 * l.length + 2 := by
  cases l with
  | nil => simp [layM]
  | cons t r =>
    rw [lay_cons]
    generalize (t :: r).getLast (by simp) = u
    cases hg : goM none (t :: r) (start t) with
    | error u => simp [resM]
    | ok s =>
      have h1 := go_len _ _ _ _ hg
      have h0 : (start t).2.1.length + (start t).1.length ≤ 2 := by unfold start; split <;> simp
      have h2 := endM_sum every u s.1 s.2.1
      show (finM u s).1.length ≤ _
      cases he : (endM every u s.1 s.2.1).1 with
      | nil => rw [fin_nil he]; simp only; omega
      | cons b q => rw [fin_cons he]; simp
set_option maxRecDepth 20000 in
set_option maxHeartbeats 4000000 in
theorem fits_walk (p : Option Addr) (m c : Nat) (l : List Tok) (w : World) (hg : Glob w) (hm : m ≤ 500) (hmc : m ≤ c) (hl : l.length = m) (hM : TMem w p l) :
    Calls Tryd.prog 5 #[.slice p m c] w fun e w' => e = .returned (.bool true) ∧ Below w.heap.size w w' := by
  have hm2 : ¬ (500 : Int) < m := by omega
  go_enter Tryd.func5, Tryd.ntmps5
  go_wp2_with fail
  refine (awake_any w hg).mono ?_
  rintro e w1 ⟨rfl, hb⟩
  have M1 := hM.below (Nat.le_refl _) hb
  have N1 := hb.size
  have LY := hide (lay_any p m c l w1 hl (by omega) hmc M1)
  rcases lay_fits l with ⟨o, ho, hch⟩ | ⟨a, b, hx⟩
  · have hlm := lay_more l o ho
    have HO0 : m = 0 → o = [] := fun h0 => by
      have : l = [] := List.length_eq_zero_iff.1 (by omega)
      rw [this] at ho; cases ho; rfl
    have hob : o.length ≤ 500000 := by have := lay_len l; rw [ho] at this; simp only at this; omega
    rw [ho] at LY
    simp only at LY
    clear hM M1 ho
    go_wp2_with fail
    refine LY.out.mono ?_
    rintro e w2 ⟨pa, ca, rfl, TM, b2⟩
    clear LY
    have B2 := hb.trans (b2.mono N1)
    have B3 := B2.alloc B2.size (.cells #[.int .i64 0, .int .i64 0] 25)
    have TM3 := TM.below (Nat.le_refl _) ((Below.refl _ w2).alloc (Nat.le_refl _) (.cells #[.int .i64 0, .int .i64 0] 25))
    go_wp2_with fail
    generalize hW : w2.alloc (.cells #[.int .i64 0, .int .i64 0] 25) = W0 at *
    have hiff : (decide ((0 : Int) < (m : Int)) == decide ((0 : Int) < (o.length : Int))) = true := by
      by_cases h0 : m = 0
      · have : o = [] := HO0 h0
        subst h0; rw [this]; rfl
      · have h1 : (0 : Int) < m := by omega
        have h2 : (0 : Int) < o.length := by omega
        rw [decide_eq_true h1, decide_eq_true h2]; rfl
    have HIF := hide hiff
    clear hiff HO0
    have hol : o.length ≤ 500000 := hob
    obtain ⟨i0, hi, hz0, hz1, hz2⟩ := info_parts info9
    have HW : Hid (Below w.heap.size w W0) := B3
    have hN : w.heap.size ≤ W0.heap.size := B3.size
    clear B2 B3 TM hW
    go_loopg [7, 8] o.length (fun gk v i wr => ∃ (k : Nat) (stk : List (List UInt8)) (po : Option Addr) (co : Nat), k ≤ o.length ∧ gk = o.length - k ∧ i = .int .i64 k ∧ v = .slice po stk.length co ∧ wr.ownsRow W0.heap.size 9 1 (.slice po stk.length co) stk.length (ss stk.reverse) ∧ Below W0.heap.size W0 wr ∧ chk stk (o.drop k) = some [] ∧ stk.length ≤ k)
    case atStart => exact ⟨0, [], none, 0, Nat.zero_le _, rfl, rfl, rfl, ⟨rfl, .inl ⟨rfl, rfl⟩⟩, Below.refl _ _, hch, Nat.le_refl _⟩
    case round =>
      obtain ⟨k, stk, po, co, hk, hgk, rfl, rfl, hrow, hB, hcs, hsk⟩ := hrel
      by_cases hlt : k < o.length
      · have TMR := TM3.below (Nat.le_refl _) hB
        rcases TMR with he | ⟨g, og, rfl, hgl, hgm⟩
        · rw [he] at hlt; simp at hlt
        obtain ⟨x, hx⟩ : ∃ x, o[k]? = some x := ⟨_, List.getElem?_eq_getElem hlt⟩
        obtain ⟨a0, a1, _, _, _⟩ := hgm k x hx
        have hdr : o.drop k = x :: o.drop (k + 1) := by
          rw [List.drop_eq_getElem_cons hlt]; congr 1
          rw [List.getElem?_eq_getElem hlt] at hx; exact Option.some.inj hx
        rw [hdr] at hcs
        obtain ⟨stk', h1, h2⟩ : ∃ s', chk1 stk x = some s' ∧ chk s' (o.drop (k + 1)) = some [] := by
          have : (chk1 stk x).bind (fun s => chk s (o.drop (k + 1))) = some [] := hcs
          cases hc : chk1 stk x with
          | none => rw [hc] at this; cases this
          | some s' => rw [hc] at this; exact ⟨s', rfl, this⟩
        have HB := hide hB
        have HCC := hide h2
        have HGM := hide hgm
        have hsx := S_list x.tx
        clear hcs hdr hx h2 hgm hch
        unfold chk1 at h1
        by_cases hk4 : x.kd = 4
        · rw [if_pos hk4] at h1
          rw [hk4] at a0
          by_cases ho : x.tx = [40] ∨ x.tx = [123]
          · rw [if_pos ho] at h1
            cases h1
            have hst : ss (x.tx :: stk).reverse = ss stk.reverse ++ [.string (S x.tx)] := by simp [ss]
            have HST := hide hst
            clear hst
            have HNC : Hid (∀ v' w', w'.ownsRow W0.heap.size 9 1 v' (stk.length + 1) (ss stk.reverse ++ [.string (S x.tx)]) → (wr.alloc (.cells #[.string (S x.tx)] 9)).grownBy w' (Value.slice po stk.length co).ownBlock → w'.ownsRow W0.heap.size 9 1 v' (x.tx :: stk).length (ss (x.tx :: stk).reverse) ∧ Below W0.heap.size W0 w') := by
              intro v' w' h1 h2
              refine ⟨by rw [HST.out]; exact h1, ?_⟩
              have hz := HB.out.size
              exact (HB.out.alloc hz _).trans (below_row (hrow.alloc _) (by simp; omega) h2)
            have HX := hide (fun ops rest o' a Q hgd s' x' ho hs hx => @wpList_append_lies Tryd.prog (wr.alloc (.cells #[.string (S x.tx)] 9)) ops rest o' a Q hgd s' x' 33 ho W0.heap.size 9 i0 _ 1 16 Tryd.underlying33 hi hz0 hz1 hz2 rfl (by omega) (.slice po stk.length co) stk.length (ss stk.reverse) hs (hrow.alloc _) ⟨wr.heap.size, 0, none⟩ 1 1 [.string (S x.tx)] hx rfl (cell_one_new' wr (.string (S x.tx)) 9) (by simp [Value.oneCell']) (by omega) (by unfold maxLen; omega) (by omega) (by have := HB.out.size; simp; omega) (wr.heap.size + 1) (by simp))
            rcases ho with e | e
            all_goals
              have hsx2 : (S x.tx).toList = _ := hsx.trans e
              clear hsx e HST
              generalize S x.tx = sx at *
              go_wp2_with (at_builtin; have HY := HX.out; refine HY _ _ _ _ _ rfl _ _ rfl rfl rfl ?_; clear HY; intro gg cap W2 hown1 hgrow hat hlt2; have HN2 := hide (HNC.out _ _ hown1 hgrow); clear hown1 hgrow hat)
              go_roundg (o.length - (k + 1))
              case measure => omega
              case rel => exact ⟨k + 1, x.tx :: stk, some ⟨gg, 0, none⟩, cap, by omega, rfl, by go_num, rfl, HN2.out.1, HN2.out.2, HCC.out, by simp; omega⟩
          · rw [if_neg ho] at h1
            have ho1 : ¬ x.tx = [40] := fun e => ho (.inl e)
            have ho2 : ¬ x.tx = [123] := fun e => ho (.inr e)
            by_cases h41 : x.tx = [41]
            · rw [if_pos h41] at h1
              cases stk with
              | nil => cases h1
              | cons s r =>
                simp only at h1
                split at h1
                · rename_i hs
                  have e := Option.some.inj h1
                  subst e
                  subst hs
                  have hcut := row_cut hrow (j := r.length) (by simp)
                  have hcs2 : (ss ([40] :: r).reverse).take (r.length * 1) = ss r.reverse := by
                    rw [List.reverse_cons]; unfold ss; rw [List.map_append, List.take_append_of_le_length (by simp), List.take_of_length_le (by simp)]
                  rw [hcs2] at hcut
                  obtain ⟨gg, cc, he, _, _⟩ := hrow.form (by simp)
                  cases he
                  have hcap : r.length + 1 ≤ co := by
                    rcases hrow.2 with ⟨hv, _⟩ | ⟨g', cap, cur, hv, _, _, h1, _⟩
                    · cases hv
                    · cases hv; exact h1
                  have htop : wr.cell? ⟨gg, r.length, none⟩ = some (.string (S [40])) := row_cell hrow (by simp [ss])
                  have HR := hide hcut
                  simp only [List.length_cons] at hsk
                  replace hsx := hsx.trans h41
                  clear hcut hcs2 hrow ho ho1 ho2 h41
                  have hsz := S_list [40]
                  generalize S x.tx = sx at *
                  have y1 : (sx.toList == [40]) = false := by rw [hsx]; rfl
                  have y2 : (sx.toList == [123]) = false := by rw [hsx]; rfl
                  have y3 : (sx.toList == [41]) = true := by rw [hsx]; rfl
                  have y4 : (sx.toList == [125]) = false := by rw [hsx]; rfl
                  have z1 : ¬ sx.toList = [40] := by rw [hsx]; decide
                  have z2 : ¬ sx.toList = [123] := by rw [hsx]; decide
                  clear hsx
                  generalize S [40] = sp at *
                  skip
                  skip
                  skip
                  generalize hrn : r.length = rn at *
                  go_wp2_with fail
                  go_roundg (o.length - (k + 1))
                  case measure => omega
                  case rel => exact ⟨k + 1, r, some ⟨gg, 0, none⟩, co, by omega, rfl, by go_num, by rw [hrn], by rw [hrn]; exact HR.out, HB.out, HCC.out, by omega⟩
                · cases h1
            · rw [if_neg h41] at h1
              by_cases h125 : x.tx = [125]
              · rw [if_pos h125] at h1
                cases stk with
                | nil => cases h1
                | cons s r =>
                  simp only at h1
                  split at h1
                  · cases h1
                  · rename_i hs
                    have e := Option.some.inj h1
                    subst e
                    have hcut := row_cut hrow (j := r.length) (by simp)
                    have hcs2 : (ss (s :: r).reverse).take (r.length * 1) = ss r.reverse := by
                      rw [List.reverse_cons]; unfold ss; rw [List.map_append, List.take_append_of_le_length (by simp), List.take_of_length_le (by simp)]
                    rw [hcs2] at hcut
                    obtain ⟨gg, cc, he, _, _⟩ := hrow.form (by simp)
                    cases he
                    have hcap : r.length + 1 ≤ co := by
                      rcases hrow.2 with ⟨hv, _⟩ | ⟨g', cap, cur, hv, _, _, h1, _⟩
                      · cases hv
                      · cases hv; exact h1
                    have htop : wr.cell? ⟨gg, r.length, none⟩ = some (.string (S s)) := row_cell hrow (by simp [ss])
                    have HR := hide hcut
                    simp only [List.length_cons] at hsk
                    replace hsx := hsx.trans h125
                    clear hcut hcs2 hrow ho ho1 ho2 h41 h125
                    have hsz := S_list s
                    generalize S x.tx = sx at *
                    have y1 : (sx.toList == [40]) = false := by rw [hsx]; rfl
                    have y2 : (sx.toList == [123]) = false := by rw [hsx]; rfl
                    have y3 : (sx.toList == [41]) = false := by rw [hsx]; rfl
                    have y4 : (sx.toList == [125]) = true := by rw [hsx]; rfl
                    have z1 : ¬ sx.toList = [40] := by rw [hsx]; decide
                    have z2 : ¬ sx.toList = [123] := by rw [hsx]; decide
                    have z3 : ¬ sx.toList = [41] := by rw [hsx]; decide
                    clear hsx
                    generalize S s = sp at *
                    have hsz2 : (sp.toList == [40]) = false := by rw [hsz]; simpa using hs
                    have hsz3 : ¬ sp.toList = [40] := by rw [hsz]; exact hs
                    clear hsz hs
                    generalize hrn : r.length = rn at *
                    go_wp2_with fail
                    go_roundg (o.length - (k + 1))
                    case measure => omega
                    case rel => exact ⟨k + 1, r, some ⟨gg, 0, none⟩, co, by omega, rfl, by go_num, by rw [hrn], by rw [hrn]; exact HR.out, HB.out, HCC.out, by omega⟩
              · rw [if_neg h125] at h1
                cases h1
                rw [← hsx] at ho1 ho2 h41 h125
                generalize S x.tx = sx at *
                have q1 : (sx.toList == [40]) = false := by simpa using ho1
                have q2 : (sx.toList == [123]) = false := by simpa using ho2
                have q3 : (sx.toList == [41]) = false := by simpa using h41
                have q4 : (sx.toList == [125]) = false := by simpa using h125
                clear hsx ho
                go_wp2_with fail
                go_roundg (o.length - (k + 1))
                case measure => omega
                case rel => exact ⟨k + 1, stk, po, co, by omega, rfl, by go_num, rfl, hrow, HB.out, HCC.out, by omega⟩
        · rw [if_neg hk4] at h1
          cases h1
          have hkb : (x.kd == 4) = false := by simpa using hk4
          generalize x.kd = kx at *
          go_wp2_with fail
          go_roundg (o.length - (k + 1))
          case measure => omega
          case rel => exact ⟨k + 1, stk, po, co, by omega, rfl, by go_num, rfl, hrow, HB.out, HCC.out, by omega⟩
      · have hst : stk = [] := by
          rw [List.drop_eq_nil_of_le (by omega)] at hcs
          exact Option.some.inj hcs
        subst hst
        have hif := HIF.out
        simp only [List.length_nil] at hrow
        have hif2 : (decide (0 < m) == decide (0 < o.length)) = true := by
          by_cases h0 : 0 < m
          · have : 0 < o.length := by omega
            rw [decide_eq_true h0, decide_eq_true this]; rfl
          · have : ¬ 0 < o.length := by
              intro h
              have h3 : (0 : Int) < o.length := by omega
              have h4 : ¬ (0 : Int) < m := by omega
              rw [decide_eq_false h4, decide_eq_true h3] at hif; cases hif
            rw [decide_eq_false h0, decide_eq_false this]; rfl
        have hif3 := hide hif2
        clear hif hif2
        go_wp2_with fail
        go_ret
        exact ⟨by simp only; rw [hif3.out]; rfl, HW.out.trans (hB.mono hN)⟩
  · rw [hx] at LY
    clear hx
    go_wp2_with fail
    refine LY.out.mono ?_
    rintro e w2 ⟨pa, ca, rfl, _, b2⟩
    have B2 := hb.trans (b2.mono N1)
    go_wp2_with fail
    go_ret
    exact ⟨rfl, B2.alloc B2.size _⟩
end Go.Proofs.YtnifnbndkbmdcaaDoor
