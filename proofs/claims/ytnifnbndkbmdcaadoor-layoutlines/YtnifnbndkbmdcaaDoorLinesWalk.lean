/-
  LayoutLines's walk.
-/
import Derived.Test.YtnifnbndkbmdcaaDoorLinesMath
import Derived.Test.YtnifnbndkbmdcaaDoorFitsWalk
namespace Go.Proofs.YtnifnbndkbmdcaaDoor
open Go.RowKit
set_option linter.unusedVariables false
/-- Bools from p on. -/
def BMem (w : World) (p : Option Addr) (l : List Bool) : Prop := l = [] ∨ ∃ b o, p = some ⟨b, o, none⟩ ∧ b < w.heap.size ∧ ∀ i x, l[i]? = some x → w.cell? ⟨b, o + i, none⟩ = some (.bool x)
theorem BMem.below {w w' : World} {n : Nat} {p : Option Addr} {l : List Bool} (h : BMem w p l) (hn : w.heap.size ≤ n) (hb : Below n w w') : BMem w' p l := by
  rcases h with rfl | ⟨b, o, hp, hbk, hm⟩
  · exact .inl rfl
  · exact .inr ⟨b, o, hp, Nat.lt_of_lt_of_le hbk hb.size, fun i x hx => (hb.cell (p := ⟨b, o + i, none⟩) (Nat.lt_of_lt_of_le hbk hn)).trans (hm i x hx)⟩
theorem lines_off (w : World) (hg : Glob w) (p q : Option Addr) (m c n d : Nat) (hm : m = 0 ∨ 100 < m ∨ n < m) : Calls Tryd.prog 6 #[.slice p m c, .slice q n d] w fun e w' => e = .returned (.bool true) ∧ Below w.heap.size w w' := by
  by_cases h0 : m = 0
  · subst h0
    go_enter Tryd.func6, Tryd.ntmps6
    go_wp2_with fail
    refine (awake_any w hg).mono ?_
    rintro e w1 ⟨rfl, hb⟩
    go_wp2_with fail
    go_ret
    exact ⟨rfl, hb⟩
  · have hm0 : ((m : Int) == 0) = false := by rw [beq_eq_false_iff_ne]; omega
    by_cases h1 : 100 < m
    · have hm1 : (100 : Int) < m := by omega
      go_enter Tryd.func6, Tryd.ntmps6
      go_wp2_with fail
      refine (awake_any w hg).mono ?_
      rintro e w1 ⟨rfl, hb⟩
      go_wp2_with fail
      go_ret
      exact ⟨rfl, hb⟩
    · have hm1 : ¬ (100 : Int) < m := by omega
      have hm2 : (n : Int) < m := by omega
      go_enter Tryd.func6, Tryd.ntmps6
      go_wp2_with fail
      refine (awake_any w hg).mono ?_
      rintro e w1 ⟨rfl, hb⟩
      go_wp2_with fail
      go_ret
      exact ⟨rfl, hb⟩
set_option maxRecDepth 20000 in
set_option maxHeartbeats 4000000 in
theorem lines_walk (p q : Option Addr) (m c n d : Nat) (cs : List UInt8) (fs : List Bool) (w : World) (hg : Glob w) (hm0 : m ≠ 0) (hm : m ≤ 100) (hmn : m ≤ n) (hlc : cs.length = m) (hlf : fs.length = n) (hC : Mem w p cs) (hF : BMem w q fs) :
    Calls Tryd.prog 6 #[.slice p m c, .slice q n d] w fun e w' => e = .returned (.bool true) ∧ Below w.heap.size w w' := by
  have hm1 : ((m : Int) == 0) = false := by rw [beq_eq_false_iff_ne]; omega
  have hm2 : ¬ (100 : Int) < m := by omega
  have hm3 : ¬ (n : Int) < m := by omega
  have hm4 : 0 < m := by omega
  obtain ⟨xl, hxl⟩ : ∃ xl : List (Bool × UInt8), xl = fs.zip cs := ⟨_, rfl⟩
  have hxlen : xl.length = m := by rw [hxl, List.length_zip]; omega
  go_enter Tryd.func6, Tryd.ntmps6
  go_wp2_with fail
  refine (awake_any w hg).mono ?_
  rintro e w1 ⟨rfl, hb⟩
  have C1 := hC.below (Nat.le_refl _) hb
  have F1 := hF.below (Nat.le_refl _) hb
  have N1 := hb.size
  clear hC hF
  rcases C1 with he | ⟨g, og, rfl, hgl, hgm⟩
  · rw [he] at hlc; simp at hlc; omega
  rcases F1 with he | ⟨gf, of, rfl, hgfl, hgfm⟩
  · rw [he] at hlf; simp at hlf; omega
  obtain ⟨c0, hc0⟩ : ∃ c0, cs[0]? = some c0 := ⟨_, List.getElem?_eq_getElem (by omega)⟩
  have a0 := hgm 0 c0 hc0
  simp only [Nat.add_zero] at a0
  have hc0b : (c0.toNat : Int) < 256 := by have := c0.toNat_lt; omega
  go_wp2_with fail
  have HCM := hide hgm
  have HFM := hide hgfm
  clear hgm hgfm a0
  obtain ⟨b, hbe⟩ : ∃ b : Int, b = 1 + (c0.toNat : Int) := ⟨_, rfl⟩
  have hb1 : 1 ≤ b := by omega
  have hb2 : b ≤ 256 := by omega
  rw [← hbe]
  have HMN := hide hmn
  clear hbe hc0 hc0b hmn hm3
  generalize decide (n < m) = bd
  obtain ⟨i0, hi, hz0, hz1, hz2⟩ := info_parts info32
  go_loopg [6, 8, 9] m (fun gk v pt i wr => ∃ (k : Nat) (po : Option Addr) (co : Nat), k ≤ m ∧ gk = m - k ∧ i = .int .i64 k ∧ pt = .int .i64 (partsL 0 (xl.take k) : Nat) ∧ v = .slice po (2 * k) co ∧ wr.ownsRow w1.heap.size 32 5 (.slice po (2 * k) co) (2 * k) (tcs (toksL b 0 (xl.take k))) ∧ Below w1.heap.size w1 wr)
  case atStart => exact ⟨0, none, 0, Nat.zero_le _, rfl, rfl, rfl, rfl, ⟨rfl, .inl ⟨rfl, rfl⟩⟩, Below.refl _ _⟩
  case round =>
    obtain ⟨k, po, co, hk, hgk, rfl, rfl, rfl, hrow, hB⟩ := hrel
    by_cases hlt : k < m
    · obtain ⟨ck, hck⟩ : ∃ ck, cs[k]? = some ck := ⟨_, List.getElem?_eq_getElem (by omega)⟩
      obtain ⟨fk, hfk⟩ : ∃ fk, fs[k]? = some fk := ⟨_, List.getElem?_eq_getElem (by have := HMN.out; omega)⟩
      have hkn : k < n := by have := HMN.out; omega
      have hxk : xl[k]? = some (fk, ck) := by rw [hxl, List.getElem?_zip_eq_some]; exact ⟨hfk, hck⟩
      have htk : xl.take (k + 1) = xl.take k ++ [(fk, ck)] := by
        rw [List.take_add_one, hxk]; rfl
      have hlk : (xl.take k).length = k := by rw [List.length_take]; omega
      have a1 : wr.cell? ⟨g, og + k, none⟩ = some (.int .u8 ck.toNat) := (hB.cell (p := ⟨g, og + k, none⟩) hgl).trans (HCM.out k ck hck)
      have a2 : wr.cell? ⟨gf, of + k, none⟩ = some (.bool fk) := (hB.cell (p := ⟨gf, of + k, none⟩) hgfl).trans (HFM.out k fk hfk)
      have hckb : (ck.toNat : Int) < 256 := by have := ck.toNat_lt; omega
      have hTS : toksL b 0 (xl.take (k + 1)) = toksL b 0 (xl.take k) ++ [tokX k (lnC b k (fk, ck)), tokY k (lnC b k (fk, ck))] := by rw [htk, toksL_snoc, hlk]; simp
      have hPS : partsL 0 (xl.take (k + 1)) = partsL 0 (xl.take k) + (if parted k (fk, ck) then 1 else 0) := by rw [htk, partsL_snoc, hlk]; simp
      have hpl := partsL_le (xl.take k) 0
      rw [hlk] at hpl
      have HB := hide hB
      have HNC : Hid (∀ (cl : Int) v' w', cl = lnC b k (fk, ck) → w'.ownsRow w1.heap.size 32 5 v' (2 * k + 2) (tcs (toksL b 0 (xl.take k)) ++ [.int .i64 2, .string ⟨#[120]⟩, .int .i64 0, .int .i64 ((k : Int) + 1), .int .i64 cl, .int .i64 2, .string ⟨#[121]⟩, .int .i64 0, .int .i64 ((k : Int) + 1), .int .i64 (cl + 2)]) → (wr.alloc (.cells #[.int .i64 2, .string ⟨#[120]⟩, .int .i64 0, .int .i64 ((k : Int) + 1), .int .i64 cl, .int .i64 2, .string ⟨#[121]⟩, .int .i64 0, .int .i64 ((k : Int) + 1), .int .i64 (cl + 2)] 32)).grownBy w' (Value.slice po (2 * k) co).ownBlock → w'.ownsRow w1.heap.size 32 5 v' (2 * (k + 1)) (tcs (toksL b 0 (xl.take (k + 1)))) ∧ Below w1.heap.size w1 w') := by
        intro cl v' w' hcl h1 h2
        refine ⟨?_, ?_⟩
        · rw [hTS, show (2 * (k + 1)) = 2 * k + 2 by omega]
          have e : tcs (toksL b 0 (xl.take k) ++ [tokX k (lnC b k (fk, ck)), tokY k (lnC b k (fk, ck))]) = tcs (toksL b 0 (xl.take k)) ++ [.int .i64 2, .string ⟨#[120]⟩, .int .i64 0, .int .i64 ((k : Int) + 1), .int .i64 cl, .int .i64 2, .string ⟨#[121]⟩, .int .i64 0, .int .i64 ((k : Int) + 1), .int .i64 (cl + 2)] := by
            rw [← hcl]; simp [tcs, tc, tokX, tokY, S]
          rw [e]; exact h1
        · have hz := HB.out.size
          exact (HB.out.alloc hz _).trans (below_row (hrow.alloc _) (by simp; omega) h2)
      have HX := hide (fun (cl : Int) ops rest o' a Q hgd s' x' ho hs hx => @wpList_append_lies Tryd.prog (wr.alloc (.cells #[.int .i64 2, .string ⟨#[120]⟩, .int .i64 0, .int .i64 ((k : Int) + 1), .int .i64 cl, .int .i64 2, .string ⟨#[121]⟩, .int .i64 0, .int .i64 ((k : Int) + 1), .int .i64 (cl + 2)] 32)) ops rest o' a Q hgd s' x' 22 ho w1.heap.size 32 i0 _ 5 48 Tryd.underlying22 hi hz0 hz1 hz2 rfl (by omega) (.slice po (2 * k) co) (2 * k) (tcs (toksL b 0 (xl.take k))) hs (hrow.alloc _) ⟨wr.heap.size, 0, none⟩ 2 2 [.int .i64 2, .string ⟨#[120]⟩, .int .i64 0, .int .i64 ((k : Int) + 1), .int .i64 cl, .int .i64 2, .string ⟨#[121]⟩, .int .i64 0, .int .i64 ((k : Int) + 1), .int .i64 (cl + 2)] hx rfl (World.news_of_block (cs := #[.int .i64 2, .string ⟨#[120]⟩, .int .i64 0, .int .i64 ((k : Int) + 1), .int .i64 cl, .int .i64 2, .string ⟨#[121]⟩, .int .i64 0, .int .i64 ((k : Int) + 1), .int .i64 (cl + 2)]) (t := 32) (fr := (0, 0)) (heap_alloc_new wr _)) (by simp [Value.oneCell']) (by omega) (by unfold maxLen; omega) (by omega) (by have := HB.out.size; simp; omega) (wr.heap.size + 1) (by simp))
      have HPS := hide hPS
      clear hTS hPS htk hxk hck hfk hB
      generalize hpn : partsL 0 (xl.take k) = pn at *
      by_cases hk0 : 0 < k
      · cases fk
        · have hcl : b = lnC b k (false, ck) := by unfold lnC; simp
          have HXA := hide (HX.out b)
          have HNA := hide (fun v' w' => HNC.out b v' w' hcl)
          have HPA : Hid (partsL 0 (xl.take (k + 1)) = pn + 1) := by show _ = _; rw [HPS.out]; simp [parted, hk0]
          clear HX HNC HPS hcl
          go_wp2_with (at_builtin; have HY := HXA.out; refine HY _ _ _ _ _ rfl _ _ rfl rfl rfl ?_; clear HY; intro gg cap W2 hown1 hgrow hat hlt2; have HN2 := hide (HNA.out _ _ hown1 hgrow); clear hown1 hgrow hat)
          go_roundg (m - (k + 1))
          case measure => omega
          case rel => exact ⟨k + 1, some ⟨gg, 0, none⟩, cap, by omega, rfl, by go_num, by first | (rw [HPA.out]; done) | (rw [HPA.out]; go_num), by rw [show 2 * (k + 1) = 2 * k + 2 by omega], by have h9 := HN2.out.1; rw [show 2 * (k + 1) = 2 * k + 2 by omega] at h9 ⊢; exact h9, HN2.out.2⟩
        · have hcl : b + 1 + (ck.toNat : Int) = lnC b k (true, ck) := by unfold lnC; simp [hk0]
          have HXA := hide (HX.out (b + 1 + (ck.toNat : Int)))
          have HNA := hide (fun v' w' => HNC.out _ v' w' hcl)
          have HPA : Hid (partsL 0 (xl.take (k + 1)) = pn) := by show _ = _; rw [HPS.out]; simp [parted]
          clear HX HNC HPS hcl
          go_wp2_with (at_builtin; have HY := HXA.out; refine HY _ _ _ _ _ rfl _ _ rfl rfl rfl ?_; clear HY; intro gg cap W2 hown1 hgrow hat hlt2; have HN2 := hide (HNA.out _ _ hown1 hgrow); clear hown1 hgrow hat)
          go_roundg (m - (k + 1))
          case measure => omega
          case rel => exact ⟨k + 1, some ⟨gg, 0, none⟩, cap, by omega, rfl, by go_num, by first | (rw [HPA.out]; done) | (rw [HPA.out]; go_num), by rw [show 2 * (k + 1) = 2 * k + 2 by omega], by have h9 := HN2.out.1; rw [show 2 * (k + 1) = 2 * k + 2 by omega] at h9 ⊢; exact h9, HN2.out.2⟩
      · have hcl : b = lnC b k (fk, ck) := by unfold lnC; simp [hk0]
        have HXA := hide (HX.out b)
        have HNA := hide (fun v' w' => HNC.out b v' w' hcl)
        have HPA : Hid (partsL 0 (xl.take (k + 1)) = pn) := by show _ = _; rw [HPS.out]; simp [parted, hk0]
        clear HX HNC HPS hcl
        go_wp2_with (at_builtin; have HY := HXA.out; refine HY _ _ _ _ _ rfl _ _ rfl rfl rfl ?_; clear HY; intro gg cap W2 hown1 hgrow hat hlt2; have HN2 := hide (HNA.out _ _ hown1 hgrow); clear hown1 hgrow hat)
        go_roundg (m - (k + 1))
        case measure => omega
        case rel => exact ⟨k + 1, some ⟨gg, 0, none⟩, cap, by omega, rfl, by go_num, by first | (rw [HPA.out]; done) | (rw [HPA.out]; go_num), by rw [show 2 * (k + 1) = 2 * k + 2 by omega], by have h9 := HN2.out.1; rw [show 2 * (k + 1) = 2 * k + 2 by omega] at h9 ⊢; exact h9, HN2.out.2⟩
    · have hkm : k = m := by omega
      have hxt : xl.take k = xl := List.take_of_length_le (by omega)
      rw [hxt] at hrow ⊢
      subst hkm
      have hPl := partsL_le xl 0
      obtain ⟨x, r, hxr⟩ : ∃ x r, xl = x :: r := by
        cases hx : xl with
        | nil => rw [hx] at hxlen; simp at hxlen; omega
        | cons x r => exact ⟨x, r, rfl⟩
      obtain ⟨u, v, hlay⟩ := lay_lines b hb1 x r
      rw [← hxr] at hlay
      obtain ⟨TL, _⟩ := row_tmem hrow
      have hcap : 2 * k ≤ co := by
        rcases hrow.2 with ⟨hv, h0⟩ | ⟨g', cap, cur, hv, _, _, h1, _⟩
        · omega
        · cases hv; exact h1
      have LY := hide (lay_any po (2 * k) co (toksL b 0 xl) wr (by rw [toksL_len, hxlen]) (by omega) hcap TL)
      rw [hlay] at LY
      have hM1 : (pt1 123 u :: (bodyL b 0 xl ++ [pt1 125 v])).length = 2 * k + 2 + partsL 0 xl := by
        simp [bodyL_len, hxlen]; omega
      have hM2 : (pt1 123 u :: (bodyL b 0 xl ++ [pt1 125 v])).countP semi = partsL 0 xl := by
        rw [List.countP_cons, List.countP_append, bodyL_semi, show semi (pt1 123 u) = false from rfl, show [pt1 125 v].countP semi = 0 from rfl]; simp
      have hM3 : (pt1 123 u :: (bodyL b 0 xl ++ [pt1 125 v]))[2 * k + 1 + partsL 0 xl]? = some (pt1 125 v) := by
        rw [show 2 * k + 1 + partsL 0 xl = (2 * k + partsL 0 xl) + 1 by omega, List.getElem?_cons_succ, List.getElem?_append_right (by rw [bodyL_len, hxlen]; omega), bodyL_len, hxlen]; simp
      have hM4 : (pt1 123 u :: (bodyL b 0 xl ++ [pt1 125 v]))[0]? = some (pt1 123 u) := rfl
      generalize pt1 123 u :: (bodyL b 0 xl ++ [pt1 125 v]) = M at *
      simp only at LY
      rw [hM1] at LY
      generalize hpn : partsL 0 xl = pn at *
      have HB := hide (hb.trans (hB.mono N1))
      rw [hxlen] at hPl
      clear hlay hrow TL
      go_wp2_with fail
      refine LY.out.mono ?_
      rintro e w2 ⟨pa, ca, rfl, TM, b2⟩
      have B2 := HB.out.trans (b2.mono HB.out.size)
      have B3 := hide (B2.alloc B2.size (.cells #[.int .i64 0, .int .i64 0] 25))
      have TM3 := TM.below (Nat.le_refl _) ((Below.refl _ w2).alloc (Nat.le_refl _) (.cells #[.int .i64 0, .int .i64 0] 25))
      clear TM B2 b2 LY
      go_wp2_with fail
      generalize w2.alloc (.cells #[.int .i64 0, .int .i64 0] 25) = W0 at *
      obtain ⟨L, hL⟩ : ∃ L, L = 2 * k + 2 + pn := ⟨_, rfl⟩
      rw [← hL] at hM1 ⊢
      go_loopg [14, 15] L (fun gk sm i wr => ∃ j : Nat, j ≤ L ∧ gk = L - j ∧ i = .int .i64 j ∧ sm = .int .i64 ((M.take j).countP semi : Nat) ∧ Below W0.heap.size W0 wr)
      case atStart => exact ⟨0, Nat.zero_le _, rfl, rfl, rfl, Below.refl _ _⟩
      case round =>
        obtain ⟨j, hj, hgj, rfl, rfl, hBj⟩ := hrel
        have TMR := TM3.below (Nat.le_refl _) hBj
        rcases TMR with he | ⟨gm, om, rfl, hgml, hgmm⟩
        · rw [he] at hM1; simp at hM1; omega
        by_cases hjl : j < L
        · obtain ⟨y, hy⟩ : ∃ y, M[j]? = some y := ⟨_, List.getElem?_eq_getElem (by omega)⟩
          obtain ⟨y0, y1, _, _, _⟩ := hgmm j y hy
          have hct : (M.take (j + 1)).countP semi = (M.take j).countP semi + (if semi y then 1 else 0) := by
            rw [List.take_add_one, hy, List.countP_append]; simp [List.countP_cons]
          have hcl : (M.take j).countP semi ≤ j := by
            have := List.countP_le_length (p := semi) (l := M.take j); rw [List.length_take] at this; omega
          have HB2 := hide hBj
          have hsy := S_list y.tx
          have HCT := hide hct
          clear hgmm hy hct hBj
          generalize (M.take j).countP semi = cj at *
          by_cases hk4 : y.kd = 4
          · by_cases h59 : y.tx = [59]
            · have HC2 : Hid ((M.take (j + 1)).countP semi = cj + 1) := by show _ = _; rw [HCT.out]; simp [semi, hk4, h59]
              replace hsy := hsy.trans h59
              rw [hk4] at y0
              generalize S y.tx = sy at *
              have q1 : (sy.toList == [59]) = true := by rw [hsy]; rfl
              clear HCT
              go_wp2_with fail
              go_roundg (L - (j + 1))
              case measure => omega
              case rel => exact ⟨j + 1, by omega, rfl, by go_num, by rw [HC2.out]; go_num, HB2.out⟩
            · have HC2 : Hid ((M.take (j + 1)).countP semi = cj) := by show _ = _; rw [HCT.out]; simp [semi, hk4, h59]
              have z1 : ¬ (S y.tx).toList = [59] := by rw [hsy]; exact h59
              rw [hk4] at y0
              clear hsy HCT
              generalize S y.tx = sy at *
              have q1 : (sy.toList == [59]) = false := by simpa using z1
              go_wp2_with fail
              go_roundg (L - (j + 1))
              case measure => omega
              case rel => exact ⟨j + 1, by omega, rfl, by go_num, by rw [HC2.out], HB2.out⟩
          · have HC2 : Hid ((M.take (j + 1)).countP semi = cj) := by show _ = _; rw [HCT.out]; simp [semi, hk4]
            have hkb : (y.kd == 4) = false := by simpa using hk4
            clear hsy HCT
            generalize y.kd = ky at *
            go_wp2_with fail
            go_roundg (L - (j + 1))
            case measure => omega
            case rel => exact ⟨j + 1, by omega, rfl, by go_num, by rw [HC2.out], HB2.out⟩
        · have hjL : j = L := by omega
          rw [List.take_of_length_le (by omega), hM2]
          obtain ⟨_, f1, _, _, _⟩ := hgmm 0 (pt1 123 u) hM4
          obtain ⟨_, l1, _, _, _⟩ := hgmm (2 * k + 1 + pn) (pt1 125 v) hM3
          have s1 : (S (pt1 123 u).tx).toList = [123] := S_list _
          have s2 : (S (pt1 125 v).tx).toList = [125] := S_list _
          simp only [Nat.zero_mul, Nat.add_zero] at f1
          generalize S (pt1 123 u).tx = sa at *
          generalize S (pt1 125 v).tx = sb at *
          have HBF := hide (B3.out.trans (hBj.mono B3.out.size))
          obtain ⟨L1, hL1⟩ : ∃ L1, L1 = 2 * k + 1 + pn := ⟨_, rfl⟩
          rw [← hL1] at l1
          have hLL : L = L1 + 1 := by omega
          have eL2 : 2 * (k : Int) + 2 + (pn : Int) = (L1 : Int) + 1 := by omega
          subst hLL
          subst hjL
          clear hgmm hL hL1 hM1 hM2 hM3 hM4 hBj
          go_wp2_with fail
          go_ret
          exact ⟨rfl, HBF.out⟩
end Go.Proofs.YtnifnbndkbmdcaaDoor
