/-
  THE WALK OF TyNames.
-/
import Derived.Test.YteoflpalmckikaaDoorAwakeP
import Derived.Test.YteoflpalmckikaaDoorFactH
namespace Go.Proofs.YteoflpalmckikaaDoor
open Go.RowKit
set_option linter.unusedVariables false
set_option linter.unusedSimpArgs false
theorem nmHold.c3 {b : Nat} {x y z : Value} {t : TypeId} {W : World} (h : Hold b #[x, y, z] t W) : W.cell? ⟨b, 0, none⟩ = some x ∧ W.cell? ⟨b, 1, none⟩ = some y ∧ W.cell? ⟨b, 2, none⟩ = some z := ⟨h.cell 0, h.cell 1, h.cell 2⟩
/-- The boxes of the type and of it by first places. -/
def NmS (n m : Nat) (a b : Ty) (pa pb : Option Addr) (ca cb : Nat) (W : World) : Prop := Hold n #[.string (S a.nm), .int .i64 a.n, .slice pa a.ar.length ca] 24 W ∧ Hold m #[.string (S b.nm), .int .i64 b.n, .slice pb b.ar.length cb] 24 W
theorem NmS.below {n m : Nat} {a b : Ty} {pa pb : Option Addr} {ca cb : Nat} {W W' : World} (h : NmS n m a b pa pb ca cb W) (k : Below W.heap.size W W') : NmS n m a b pa pb ca cb W' := ⟨h.1.below k h.1.lt, h.2.below k h.2.lt⟩
set_option maxHeartbeats 16000000 in
set_option maxRecDepth 100000 in
theorem names_walk (t : Ty) (by' : Int) {w : World} {pt : Option Addr} {ct : Nat} (hby0 : 0 ≤ by') (hby1 : by' ≤ 65535) (hG : GT w) (hT : TyIn (fun x => x < w.heap.size) w t [.string (S t.nm), .int .i64 t.n, .slice pt t.ar.length ct]) :
    Calls Tryd.prog 8 #[.agg (cs3 t pt ct), .int .u16 by'] w fun r w' => r = .returned (.bool true) ∧ Below w.heap.size w w' := by
  have HTT : Hid (∀ W, Below w.heap.size w W → TyIn (fun x => x < w.heap.size) W t [.string (S t.nm), .int .i64 t.n, .slice pt t.ar.length ct]) := hide fun W hb => TyIn.keep (KP.of_below hb fun x hx => hx) (fun x hx => hx) _ _ hT
  have HBD := hide (fun n (hn : n ∈ hs t) => hls_bds t hT n ((hs_mem t n).1 hn))
  have hX : Hold w.heap.size #[.string (S t.nm), .int .i64 t.n, .slice pt t.ar.length ct] 24 (w.alloc (.cells #[.string (S t.nm), .int .i64 t.n, .slice pt t.ar.length ct] 24)) := Hold.new w _ 24
  have hb0 : Below w.heap.size w (w.alloc (.cells #[.string (S t.nm), .int .i64 t.n, .slice pt t.ar.length ct] 24)) := (Below.refl _ w).alloc (Nat.le_refl _) _
  have HG0 := hide (hG.below hb0)
  have HX0 := hide hX; have HB0 := hide hb0
  clear hX hb0 hG hT
  unfold cs3
  go_enter Tryd.func8, Tryd.ntmps8
  go_upto_region 1 with fail
  generalize (w.alloc (.cells #[.string (S t.nm), .int .i64 t.n, .slice pt t.ar.length ct] 24)) = w0 at *
  have x0 := HX0.out.cell 0; have x1 := HX0.out.cell 1; have x2 := HX0.out.cell 2
  simp only [List.getElem?_toArray, List.getElem?_cons_succ, List.getElem?_cons_zero] at x0 x1 x2
  go_wp2_with fail
  refine (awake_any HG0.out).mono ?_
  rintro r w1 ⟨rfl, hb⟩
  have hbs := hb
  have HX1 := hide (HX0.out.below hbs HX0.out.lt)
  have HB1 := hide (HB0.out.trans (hbs.mono HB0.out.size))
  have hs1 := HB1.out.size
  clear hbs
  clear x0 x1 x2
  have x0 := HX1.out.cell 0; have x1 := HX1.out.cell 1; have x2 := HX1.out.cell 2
  simp only [List.getElem?_toArray, List.getElem?_cons_succ, List.getElem?_cons_zero] at x0 x1 x2
  clear hb
  have hfw := few_any t (P := fun x => x < w.heap.size) (w := w1) (pk := pt) (ck := ct) (fun x hx => Nat.lt_of_lt_of_le hx HB1.out.size) (HTT.out w1 HB1.out)
  have HFW := hide hfw
  clear hfw
  cases hfewt : fewM t with
  | false =>
    rw [hfewt] at HFW
    unfold cs3 at HFW
    go_wp2_with fail
    refine HFW.out.mono ?_
    rintro r w2 ⟨rfl, hb⟩
    go_wp2_with fail
    go_ret
    exact ⟨rfl, HB1.out.trans (hb.mono HB1.out.size)⟩
  | true =>
    rw [hfewt] at HFW
    unfold cs3 at HFW
    go_wp2_with fail
    refine HFW.out.mono ?_
    rintro r w2 ⟨rfl, hb⟩
    have hbs := hb
    have HX2 := hide (HX1.out.below hbs HX1.out.lt)
    have HB2 := hide (HB1.out.trans (hbs.mono HB1.out.size))
    have hs2 := HB2.out.size
    clear hbs
    clear x0 x1 x2
    have x0 := HX2.out.cell 0; have x1 := HX2.out.cell 1; have x2 := HX2.out.cell 2
    simp only [List.getElem?_toArray, List.getElem?_cons_succ, List.getElem?_cons_zero] at x0 x1 x2
    clear hb HFW
    have hfw := check_any t (P := fun x => x < w.heap.size) (w := w2) (pk := pt) (ck := ct) (fun x hx => Nat.lt_of_lt_of_le hx HB2.out.size) (HTT.out w2 HB2.out)
    have HFW := hide hfw
    clear hfw
    cases hchkt : chk t with
    | false =>
      rw [hchkt] at HFW
      unfold cs3 at HFW
      go_wp2_with fail
      refine HFW.out.mono ?_
      rintro r w3 ⟨rfl, hb⟩
      go_wp2_with fail
      go_ret
      exact ⟨rfl, HB2.out.trans (hb.mono HB2.out.size)⟩
    | true =>
      rw [hchkt] at HFW
      unfold cs3 at HFW
      go_wp2_with fail
      refine HFW.out.mono ?_
      rintro r w3 ⟨rfl, hb⟩
      have hbs := hb
      have HX3 := hide (HX2.out.below hbs HX2.out.lt)
      have HB3 := hide (HB2.out.trans (hbs.mono HB2.out.size))
      have hs3 := HB3.out.size
      clear hbs
      clear x0 x1 x2
      have x0 := HX3.out.cell 0; have x1 := HX3.out.cell 1; have x2 := HX3.out.cell 2
      simp only [List.getElem?_toArray, List.getElem?_cons_succ, List.getElem?_cons_zero] at x0 x1 x2
      clear hb HFW
      have hcn := canon_any t (P := fun x => x < w.heap.size) (w := w3) (pk := pt) (ck := ct) (fun x hx => Nat.lt_of_lt_of_le hx HB3.out.size) (HTT.out w3 HB3.out)
      rw [hchkt, if_pos rfl] at hcn
      have HCL := hide (canon_hs_len t); have HAT0 : Hid (∀ i x, (hs (canon t))[i]? = some x → x = ((i : Nat) : Int)) := hide (fun i x h => by obtain ⟨h1, h2⟩ := List.getElem?_eq_some_iff.1 h; rw [← h2]; exact canon_hs_at t h1)
      have hcc := canon_chk t hchkt
      generalize hcne : canon t = c at *
      have HCA := hide hcn; have HCN := hide hcne; have HCC := hide hcc
      clear hcn hcne hcc
      unfold cs3 at HCA
      go_wp2_with fail
      refine HCA.out.mono ?_
      rintro r w4 ⟨pc, cc, rfl, hb, hinc⟩
      have hbs := hb
      have HX4 := hide (HX3.out.below hbs HX3.out.lt)
      have HB4 := hide (HB3.out.trans (hbs.mono HB3.out.size))
      have hs4 := HB4.out.size
      clear hbs
      clear x0 x1 x2
      have x0 := HX4.out.cell 0; have x1 := HX4.out.cell 1; have x2 := HX4.out.cell 2
      simp only [List.getElem?_toArray, List.getElem?_cons_succ, List.getElem?_cons_zero] at x0 x1 x2
      have HINC : Hid (TyIn (fun x => x < w4.heap.size) w4 c [.string (S c.nm), .int .i64 c.n, .slice pc c.ar.length cc]) := hide (TyIn.keep (KP.refl _ _) (fun x hx => hx.2) _ _ hinc)
      clear hb hinc HCA
      unfold cs3
      go_upto_region 5 with fail
      have HY5 : Hid (Hold w4.heap.size #[.string (S c.nm), .int .i64 c.n, .slice pc c.ar.length cc] 24 (w4.alloc (.cells #[.string (S c.nm), .int .i64 c.n, .slice pc c.ar.length cc] 24))) := hide (Hold.new w4 _ 24)
      have hb5 : Below w4.heap.size w4 (w4.alloc (.cells #[.string (S c.nm), .int .i64 c.n, .slice pc c.ar.length cc] 24)) := (Below.refl _ w4).alloc (Nat.le_refl _) _
      have hbs := hb5
      have HX5 := hide (HX4.out.below hbs HX4.out.lt)
      have HB5 := hide (HB4.out.trans (hbs.mono HB4.out.size))
      have hs5 := HB5.out.size
      clear hbs
      have HTC : Hid (∀ W, Below (w4.alloc (.cells #[.string (S c.nm), .int .i64 c.n, .slice pc c.ar.length cc] 24)).heap.size (w4.alloc (.cells #[.string (S c.nm), .int .i64 c.n, .slice pc c.ar.length cc] 24)) W → TyIn (fun x => x < (w4.alloc (.cells #[.string (S c.nm), .int .i64 c.n, .slice pc c.ar.length cc] 24)).heap.size) W c [.string (S c.nm), .int .i64 c.n, .slice pc c.ar.length cc]) := hide fun W hb => TyIn.keep (KP.of_below ((hb5.trans (hb.mono hb5.size))) fun x hx => hx) (fun x hx => Nat.lt_of_lt_of_le hx hb5.size) _ _ HINC.out
      have hnc : w4.heap.size < (w4.alloc (.cells #[.string (S c.nm), .int .i64 c.n, .slice pc c.ar.length cc] 24)).heap.size := by simp
      generalize w4.alloc (.cells #[.string (S c.nm), .int .i64 c.n, .slice pc c.ar.length cc] 24) = w5 at *
      generalize hnC : w4.heap.size = nC at *
      clear hb5 HINC
      clear x0 x1 x2
      have x0 := HX5.out.cell 0; have x1 := HX5.out.cell 1; have x2 := HX5.out.cell 2
      have y0 := HY5.out.cell 0; have y1 := HY5.out.cell 1; have y2 := HY5.out.cell 2
      simp only [List.getElem?_toArray, List.getElem?_cons_succ, List.getElem?_cons_zero] at x0 x1 x2 y0 y1 y2
      have hho := tyHoles_any c (P := fun x => x < w5.heap.size) (w := w5) (pk := pc) (ck := cc) (fun x hx => hx) (HTC.out w5 (Below.refl _ _))
      rw [HCC.out, if_pos rfl] at hho
      have HHO := hide hho
      clear hho
      unfold cs3 at HHO
      go_wp2_with fail
      refine HHO.out.mono ?_
      rintro r w6 ⟨vl, rfl, hil, hb⟩
      have hbs := hb
      have HX6 := hide (HX5.out.below hbs HX5.out.lt)
      have HY6 := hide (HY5.out.below hbs HY5.out.lt)
      have HB6 := hide (HB5.out.trans (hbs.mono HB5.out.size))
      have hs6 := HB6.out.size
      clear hbs
      have HMC6 : Hid (Below w5.heap.size w5 w6) := hide hb
      obtain ⟨pl, cl, rfl, hgc⟩ := hil.slice
      have HGC := hide hgc; have HILC := hide hil
      clear x0 x1 x2 y0 y1 y2
      have x0 := HX6.out.cell 0; have x1 := HX6.out.cell 1; have x2 := HX6.out.cell 2
      have y0 := HY6.out.cell 0; have y1 := HY6.out.cell 1; have y2 := HY6.out.cell 2
      simp only [List.getElem?_toArray, List.getElem?_cons_succ, List.getElem?_cons_zero] at x0 x1 x2 y0 y1 y2
      clear hb HHO hil hgc
      have hlm := HCL.out
      have hts : (hs t).length ≤ 2000 := Nat.le_trans (hs_len t) ((chk_iff t).1 hchkt).2.2
      generalize hlc : hs c = lc at *
      generalize hm : lc.length = m at *
      have HLM := hide hm; have HAT := HAT0
      have HTM : Hid ((hs t).length = m) := hide hlm.symm
      have hm2 : m ≤ 2000 := by omega
      clear hlc hm hlm hts HAT0 HCL
      go_wp2_with fail
      go_loopg [8] m (fun k s8 wr => ∃ i : Nat, i ≤ m ∧ k = m - i ∧ s8 = .int .i64 i ∧ wr = w6)
      case atStart => exact ⟨0, Nat.zero_le _, by omega, rfl, rfl⟩
      case round =>
        obtain ⟨i, hi1, rfl, rfl, hww⟩ := hrel
        subst hww
        by_cases hlt : i < m
        · have hil : i < lc.length := by rw [HLM.out]; exact hlt
          obtain ⟨g, rfl, _, hgl⟩ := HGC.out (by omega)
          have hu := List.getElem?_eq_getElem hil
          have hat := HAT.out i _ hu
          rw [hat] at hu
          have ca : wr.cell? ⟨g, i, none⟩ = some (.int .i64 i) := row_cell (by have h := HILC.out; unfold IL at h; rw [HLM.out] at h; exact h) (intV_at hu)
          have hii : (i : Int) < m := by omega
          have hne : ((i : Int) != (i : Int)) = false := by simp
          clear hu hat
          go_wp2_with fail
          go_roundg (m - (i + 1))
          case measure => omega
          case rel => exact ⟨i + 1, by omega, rfl, by go_num, rfl⟩
        · have hii : ¬ (i : Int) < m := by omega
          have hho := tyHoles_any t (P := fun x => x < w.heap.size) (w := wr) (pk := pt) (ck := ct) (fun x hx => Nat.lt_of_lt_of_le hx HB6.out.size) (HTT.out wr HB6.out)
          rw [hchkt, if_pos rfl] at hho
          have HHO := hide hho
          clear hho
          unfold cs3 at HHO
          go_wp2_with fail
          refine HHO.out.mono ?_
          rintro r w7 ⟨vm, rfl, hil, hb⟩
          have hbs := hb
          have HX7 := hide (HX6.out.below hbs HX6.out.lt)
          have HY7 := hide (HY6.out.below hbs HY6.out.lt)
          have HB7 := hide (HB6.out.trans (hbs.mono HB6.out.size))
          have hs7 := HB7.out.size
          clear hbs
          have HMC7 : Hid (Below w5.heap.size w5 w7) := hide (HMC6.out.trans (hb.mono HMC6.out.size))
          obtain ⟨pm, cm, rfl, hgt⟩ := hil.slice
          have HGT := hide hgt; have HILT := hide hil
          clear x0 x1 x2 y0 y1 y2
          have x0 := HX7.out.cell 0; have x1 := HX7.out.cell 1; have x2 := HX7.out.cell 2
          have y0 := HY7.out.cell 0; have y1 := HY7.out.cell 1; have y2 := HY7.out.cell 2
          simp only [List.getElem?_toArray, List.getElem?_cons_succ, List.getElem?_cons_zero] at x0 x1 x2 y0 y1 y2
          clear hb HHO hil hgt
          have hml : (hs t).length = m := HTM.out
          have hhb := HBD.out
          generalize hhl : hs t = hl at *
          have HHL := hide hhl; have HML := hide hml; have HHB := hide hhb
          rw [hml]
          clear hhl hml hhb
          go_wp2_with fail
          go_loopg [9, 11] m (fun k s9 s11 wr => ∃ i : Nat, ∃ pf cf, i ≤ m ∧ k = m - i ∧ s11 = .int .i64 i ∧ s9 = .slice pf i cf ∧ wr.ownsRow w7.heap.size 34 4 (.slice pf i cf) i (frow (nmF by' hl i)) ∧ Below w7.heap.size w7 wr)
          case atStart => exact ⟨0, none, 0, Nat.zero_le _, by omega, rfl, rfl, World.ownsRow_nil _ _ _ _, Below.refl _ w7⟩
          case round =>
            obtain ⟨i, pf, cf, hi1, rfl, rfl, rfl, hown, hbr⟩ := hrel
            have HBR := hide hbr; have HOWN := hide hown
            have HB8 : Hid (Below w.heap.size w wr) := hide (HB7.out.trans (hbr.mono HB7.out.size))
            have HX8 := hide (HX7.out.below hbr HX7.out.lt)
            have HY8 := hide (HY7.out.below hbr HY7.out.lt)
            clear hbr hown
            by_cases hlt : i < m
            · have hil : i < hl.length := by rw [HML.out]; exact hlt
              have hil2 := HILT.out
              obtain ⟨g, rfl, _, hgl⟩ := HGT.out (by omega)
              have hu := List.getElem?_eq_getElem hil
              have hsu := genF_succ (fun k => by' + hl.length - k) hl hil
              have hmem := HHB.out hl[i] (List.getElem_mem hil)
              generalize hl[i] = x at *
              have ca : wr.cell? ⟨g, i, none⟩ = some (.int .i64 x) := (HBR.out.cell (p := ⟨g, i, none⟩) hgl).trans (row_cell (by have h := HILT.out; unfold IL at h; rw [HML.out] at h; exact h) (intV_at hu))
              have hii : (i : Int) < m := by omega
              have HSU := hide hsu
              clear hu hsu hil2
              obtain ⟨i0, hi, hz0, hz1, hz2⟩ := info_parts info34
              have hnews := cells_new wr [.int .i64 x, .string ⟨#[]⟩, .int .i64 (by' + m - i), .slice none 0 0] 34
              have hones : ∀ u ∈ ([.int .i64 x, .string ⟨#[]⟩, .int .i64 (by' + m - i), .slice none 0 0] : List Value), u.oneCell' = true := by simp [Value.oneCell']
              have hwsz := HBR.out.size
              go_wp2_with (first
                | (at_builtin; refine wpList_append_lies _ rfl _ _ 32 rfl w7.heap.size 34 i0 _ 4 56 Tryd.underlying32 hi hz0 hz1 hz2 rfl (by omega) (.slice pf i cf) i (frow (nmF by' hl i)) rfl (HOWN.out.alloc _) ⟨wr.heap.size, 0, none⟩ 1 1 [.int .i64 x, .string ⟨#[]⟩, .int .i64 (by' + m - i), .slice none 0 0] rfl rfl hnews hones (by omega) (by unfold maxLen; omega) (by omega) (by simp; omega) (wr.heap.size + 1) (by simp) ?_; intro g2 cap2 w8 hown8 hgr8 hat8 hlt8
                   have HOWN8 := hide hown8; have HGR8 := hide hgr8
                   clear hown8 hgr8 hat8
                   go_frame)
                | fail)
              go_roundg (m - (i + 1))
              case measure => omega
              case rel =>
                refine ⟨i + 1, _, _, by omega, rfl, by go_num, rfl, ?_, ?_⟩
                · unfold nmF at *
                  rw [HSU.out, frow_snoc]
                  have := HOWN8.out
                  rw [← HML.out] at this
                  exact this
                · exact HBR.out.trans ((((Below.refl _ wr).alloc (Nat.le_refl _) _).mono HBR.out.size).trans (below_row (HOWN.out.alloc _) (by simp; omega) HGR8.out))
            · obtain rfl : m = i := by omega
              have hii : ¬ (m : Int) < m := by omega
              have hfl : (nmF by' hl m).length = m := genF_len _ _ _ (by rw [HML.out]; omega)
              have hrm := frow_rm HOWN.out hfl (fun f hf => by
                obtain ⟨h1, k, h2, h3⟩ := genF_mem hf
                refine ⟨HHB.out _ h1, _, h3, ?_⟩
                have := HML.out
                omega)
              have hfn : nmF by' hl m = nmF by' (hs t) (hs t).length := by rw [HHL.out, HML.out]
              generalize nmF by' hl m = fl at *
              have HFN := hide hfn; have HFL := hide hfl
              have HB8L : Hid (∀ W, Below w5.heap.size w5 W → True) := hide fun _ _ => trivial
              clear HB8L
              have hS8 : NmS w.heap.size nC t c pt pc ct cc wr := ⟨HX8.out, HY8.out⟩
              have HS8 := hide hS8
              have HMC8 : Hid (Below w5.heap.size w5 wr) := hide (HMC7.out.trans (HBR.out.mono HMC7.out.size))
              have HRM := hide hrm
              clear hrm hfn hfl hS8 HX8 HY8
              go_upto_region 17 with fail
              refine wp_region_noPanic ?_
              refine region_J 23 (N := 23) (S := (NmS w.heap.size nC t c pt pc ct cc)) (by kernel_rfl) (by kernel_rfl) ?_
              have hdr := below_drew wr
              have hS : (NmS w.heap.size nC t c pt pc ct cc) wr.drew := HS8.out.below hdr
              have HB9 : Hid (Below w.heap.size w wr.drew) := hide (HB8.out.trans (hdr.mono HB8.out.size))
              have HMC9 : Hid (Below w5.heap.size w5 wr.drew) := hide (HMC8.out.trans (hdr.mono HMC8.out.size))
              have HRMF : Hid (∀ W, Below wr.heap.size wr W → RM 4 (fun x => x < W.heap.size) W (FaIn (fun x => x < W.heap.size) W) pf fl) := hide fun W hb => RM.keep (KP.of_below hb fun x hx => hx) (fun x hx => Nat.lt_of_lt_of_le hx hb.size) (fun t ds h => FaIn.keep (KP.of_below hb fun x hx => hx) (fun x hx => Nat.lt_of_lt_of_le hx hb.size) t ds h) HRM.out
              have HR9 : Hid (Below wr.heap.size wr wr.drew) := hide hdr
              generalize wr.drew = w9 at *
              refine take_D (i := 0) 62 (.bool true) rfl rfl (by kernel_rfl) (by kernel_rfl) (by kernel_rfl) (by kernel_rfl) (fun _ _ _ h => h) (Or.inl ⟨by rfl, fun W' hW => by go_simp⟩) hS ?_
              simp only [Act.put, List.setIfInBounds_toArray, List.set_cons_zero, List.set_cons_succ]
              refine take_D (i := 1) 63 (.bool true) rfl rfl (by kernel_rfl) (by kernel_rfl) (by kernel_rfl) (by kernel_rfl) (fun _ _ _ h => h) (Or.inl ⟨by rfl, fun W' hW => by go_simp⟩) hS ?_
              simp only [Act.put, List.setIfInBounds_toArray, List.set_cons_zero, List.set_cons_succ]
              refine take_D (i := 2) 64 (.agg #[.string (S c.nm), .int .i64 c.n, .slice pc c.ar.length cc]) rfl rfl (by kernel_rfl) (by kernel_rfl) (by kernel_rfl) (by kernel_rfl) (fun _ _ _ h => h) (Or.inl ⟨by rfl, fun W' hW => by obtain ⟨y0, y1, y2⟩ := (nmHold.c3 hW.2); go_simp⟩) hS ?_
              simp only [Act.put, List.setIfInBounds_toArray, List.set_cons_zero, List.set_cons_succ]
              refine take_D (i := 4) 66 (.agg #[.string (S c.nm), .int .i64 c.n, .slice pc c.ar.length cc]) rfl rfl (by kernel_rfl) (by kernel_rfl) (by kernel_rfl) (by kernel_rfl) (fun _ _ _ h => h) (Or.inl ⟨by rfl, fun W' hW => by obtain ⟨y0, y1, y2⟩ := (nmHold.c3 hW.2); go_simp⟩) hS ?_
              simp only [Act.put, List.setIfInBounds_toArray, List.set_cons_zero, List.set_cons_succ]
              have hcall := canon_any c (P := fun x => x < w5.heap.size) (w := w9) (pk := pc) (ck := cc) (fun x hx => Nat.lt_of_lt_of_le hx HMC9.out.size) (HTC.out w9 HMC9.out)
              generalize ca_eq : (if chk c then canon c else ⟨[], 0, []⟩) = ca at hcall
              have HC := hide hcall; have Hca := hide ca_eq
              clear hcall ca_eq
              unfold cs3 at HC
              refine ready_J (rs := [3]) (by kernel_rfl) (by simp) ?_
              intro jj hjj
              obtain rfl := List.mem_singleton.1 hjj
              clear hjj
              refine op_W rfl (by rfl) fun K hK => ?_
              go_simp
              refine HC.out.mono ?_
              rintro r w10 ⟨p1, c1, rfl, hb, hin⟩
              have HIca : Hid (TyIn (fun x => x < w10.heap.size) w10 ca [.string (S ca.nm), .int .i64 ca.n, .slice p1 ca.ar.length c1]) := hide (TyIn.keep (KP.refl _ _) (fun x hx => hx.2) _ _ hin)
              have HMC10 : Hid (Below w5.heap.size w5 w10) := hide (HMC9.out.trans (hb.mono HMC9.out.size)); have HR10 : Hid (Below wr.heap.size wr w10) := hide (HR9.out.trans (hb.mono HR9.out.size))
              clear hin HC
              unfold cs3
              have HB10 : Hid (Below w.heap.size w w10) := hide (HB9.out.trans (hb.mono HB9.out.size))
              have hS2 := hS.below hb
              clear hS
              have hS := hS2
              clear hS2
              refine hK _ _ ⟨fun _ => hS, ?_⟩
              clear hK K
              clear hb
              have HEQca : Hid (ca = c) := hide (by rw [← Hca.out, ← HCN.out]; exact canonV_canon t hchkt)
              have hsm := same_ty ca c (P := fun x => x < w10.heap.size) (w := w10) (pk := p1) (qk := pc) (ck := c1) (dk := cc) (fun x hx => hx) HIca.out (TyIn.keep (KP.refl _ _) (fun x hx => Nat.lt_of_lt_of_le hx HMC10.out.size) _ _ (HTC.out w10 HMC10.out))
              have heq : ca = c := HEQca.out
              have HSAME := hide hsm; have HEQ := hide heq
              clear hsm heq
              unfold cs3 at HSAME
              refine ready_J (rs := [5]) (by kernel_rfl) (by simp) ?_
              intro jj hjj
              obtain rfl := List.mem_singleton.1 hjj
              clear hjj
              refine op_W rfl (by rfl) fun K hK => ?_
              go_simp
              refine HSAME.out.mono ?_
              rintro r w11 ⟨hyes, _, hb⟩
              obtain rfl := hyes HEQ.out
              have HMC11 : Hid (Below w5.heap.size w5 w11) := hide (HMC10.out.trans (hb.mono HMC10.out.size)); have HR11 : Hid (Below wr.heap.size wr w11) := hide (HR10.out.trans (hb.mono HR10.out.size))
              clear hyes HSAME HEQ
              have HB11 : Hid (Below w.heap.size w w11) := hide (HB10.out.trans (hb.mono HB10.out.size))
              have hS2 := hS.below hb
              clear hS
              have hS := hS2
              clear hS2
              refine hK _ _ ⟨fun _ => hS, ?_⟩
              clear hK K
              clear hb
              clear HIca HEQca Hca
              refine take_D (i := 6) 68 (.bool true) rfl rfl (by kernel_rfl) (by kernel_rfl) (by kernel_rfl) (by kernel_rfl) (fun _ _ _ h => h) (Or.inl ⟨by rfl, fun W' hW => by go_simp⟩) hS ?_
              simp only [Act.put, List.setIfInBounds_toArray, List.set_cons_zero, List.set_cons_succ]
              refine take_D (i := 7) 69 (.bool true) rfl rfl (by kernel_rfl) (by kernel_rfl) (by kernel_rfl) (by kernel_rfl) (fun _ _ _ h => h) (Or.inl ⟨by rfl, fun W' hW => by go_simp⟩) hS ?_
              simp only [Act.put, List.setIfInBounds_toArray, List.set_cons_zero, List.set_cons_succ]
              refine take_D (i := 8) 70 (.slice pf m cf) rfl rfl (by kernel_rfl) (by kernel_rfl) (by kernel_rfl) (by kernel_rfl) (fun _ _ _ h => h) (Or.inl ⟨by rfl, fun W' hW => by go_simp⟩) hS ?_
              simp only [Act.put, List.setIfInBounds_toArray, List.set_cons_zero, List.set_cons_succ]
              refine take_D (i := 9) 71 (.agg #[.string (S t.nm), .int .i64 t.n, .slice pt t.ar.length ct]) rfl rfl (by kernel_rfl) (by kernel_rfl) (by kernel_rfl) (by kernel_rfl) (fun _ _ _ h => h) (Or.inl ⟨by rfl, fun W' hW => by obtain ⟨x0, x1, x2⟩ := (nmHold.c3 hW.1); go_simp⟩) hS ?_
              simp only [Act.put, List.setIfInBounds_toArray, List.set_cons_zero, List.set_cons_succ]
              refine take_D (i := 12) 74 (.agg #[.string (S c.nm), .int .i64 c.n, .slice pc c.ar.length cc]) rfl rfl (by kernel_rfl) (by kernel_rfl) (by kernel_rfl) (by kernel_rfl) (fun _ _ _ h => h) (Or.inl ⟨by rfl, fun W' hW => by obtain ⟨y0, y1, y2⟩ := (nmHold.c3 hW.2); go_simp⟩) hS ?_
              simp only [Act.put, List.setIfInBounds_toArray, List.set_cons_zero, List.set_cons_succ]
              have hap0 : Calls Tryd.prog 22 #[.slice pf m cf, .agg (cs3 t pt ct)] w11 (TQ (applyM fl t) w11) := by
                have h := apply_any fl t (P := fun x => x < w11.heap.size) (w := w11) (pk := pt) (ck := ct) (pl := pf) (cl := cf) (fun x hx => hx) (TyIn.keep (KP.refl _ _) (fun x hx => Nat.lt_of_lt_of_le hx HB11.out.size) _ _ (HTT.out w11 HB11.out)) (HRMF.out w11 HR11.out) (by rw [HFL.out]; omega)
                rw [HFL.out] at h
                exact h
              have hcall := hap0
              clear hap0
              generalize at__eq : applyM fl t = at_ at hcall
              have HC := hide hcall; have Hat_ := hide at__eq
              clear hcall at__eq
              unfold cs3 at HC
              refine ready_J (rs := [10]) (by kernel_rfl) (by simp) ?_
              intro jj hjj
              obtain rfl := List.mem_singleton.1 hjj
              clear hjj
              refine op_W rfl (by rfl) fun K hK => ?_
              go_simp
              refine HC.out.mono ?_
              rintro r w12 ⟨p2, c2, rfl, hb, hin⟩
              have HIat_ : Hid (TyIn (fun x => x < w12.heap.size) w12 at_ [.string (S at_.nm), .int .i64 at_.n, .slice p2 at_.ar.length c2]) := hide (TyIn.keep (KP.refl _ _) (fun x hx => hx.2) _ _ hin)
              have HMC12 : Hid (Below w5.heap.size w5 w12) := hide (HMC11.out.trans (hb.mono HMC11.out.size))
              clear hin HC
              unfold cs3
              have HB12 : Hid (Below w.heap.size w w12) := hide (HB11.out.trans (hb.mono HB11.out.size))
              have hS2 := hS.below hb
              clear hS
              have hS := hS2
              clear hS2
              refine hK _ _ ⟨fun _ => hS, ?_⟩
              clear hK K
              clear hb
              have hcall := canon_any at_ (P := fun x => x < w12.heap.size) (w := w12) (pk := p2) (ck := c2) (fun x hx => hx) HIat_.out
              generalize cb_eq : (if chk at_ then canon at_ else ⟨[], 0, []⟩) = cb at hcall
              have HC := hide hcall; have Hcb := hide cb_eq
              clear hcall cb_eq
              unfold cs3 at HC
              refine ready_J (rs := [11]) (by kernel_rfl) (by simp) ?_
              intro jj hjj
              obtain rfl := List.mem_singleton.1 hjj
              clear hjj
              refine op_W rfl (by rfl) fun K hK => ?_
              go_simp
              refine HC.out.mono ?_
              rintro r w13 ⟨p3, c3, rfl, hb, hin⟩
              have HIcb : Hid (TyIn (fun x => x < w13.heap.size) w13 cb [.string (S cb.nm), .int .i64 cb.n, .slice p3 cb.ar.length c3]) := hide (TyIn.keep (KP.refl _ _) (fun x hx => hx.2) _ _ hin)
              have HMC13 : Hid (Below w5.heap.size w5 w13) := hide (HMC12.out.trans (hb.mono HMC12.out.size))
              clear hin HC
              unfold cs3
              have HB13 : Hid (Below w.heap.size w w13) := hide (HB12.out.trans (hb.mono HB12.out.size))
              have hS2 := hS.below hb
              clear hS
              have hS := hS2
              clear hS2
              refine hK _ _ ⟨fun _ => hS, ?_⟩
              clear hK K
              clear hb
              have HEQcb : Hid (cb = c) := hide (by rw [← Hcb.out, ← Hat_.out, ← HCN.out, HFN.out, names_chk t by' hchkt hby0, names_math t by' hchkt hby0]; rfl)
              have hsm := same_ty cb c (P := fun x => x < w13.heap.size) (w := w13) (pk := p3) (qk := pc) (ck := c3) (dk := cc) (fun x hx => hx) HIcb.out (TyIn.keep (KP.refl _ _) (fun x hx => Nat.lt_of_lt_of_le hx HMC13.out.size) _ _ (HTC.out w13 HMC13.out))
              have heq : cb = c := HEQcb.out
              have HSAME := hide hsm; have HEQ := hide heq
              clear hsm heq
              unfold cs3 at HSAME
              refine ready_J (rs := [13]) (by kernel_rfl) (by simp) ?_
              intro jj hjj
              obtain rfl := List.mem_singleton.1 hjj
              clear hjj
              refine op_W rfl (by rfl) fun K hK => ?_
              go_simp
              refine HSAME.out.mono ?_
              rintro r w14 ⟨hyes, _, hb⟩
              obtain rfl := hyes HEQ.out
              have HMC14 : Hid (Below w5.heap.size w5 w14) := hide (HMC13.out.trans (hb.mono HMC13.out.size))
              clear hyes HSAME HEQ
              have HB14 : Hid (Below w.heap.size w w14) := hide (HB13.out.trans (hb.mono HB13.out.size))
              have hS2 := hS.below hb
              clear hS
              have hS := hS2
              clear hS2
              refine hK _ _ ⟨fun _ => hS, ?_⟩
              clear hK K
              clear hb
              clear HIcb HEQcb Hcb
              refine take_D (i := 14) 76 (.bool true) rfl rfl (by kernel_rfl) (by kernel_rfl) (by kernel_rfl) (by kernel_rfl) (fun _ _ _ h => h) (Or.inl ⟨by rfl, fun W' hW => by go_simp⟩) hS ?_
              simp only [Act.put, List.setIfInBounds_toArray, List.set_cons_zero, List.set_cons_succ]
              refine take_D (i := 15) 77 (.bool true) rfl rfl (by kernel_rfl) (by kernel_rfl) (by kernel_rfl) (by kernel_rfl) (fun _ _ _ h => h) (Or.inl ⟨by rfl, fun W' hW => by go_simp⟩) hS ?_
              simp only [Act.put, List.setIfInBounds_toArray, List.set_cons_zero, List.set_cons_succ]
              refine take_D (i := 16) 78 (.slice pl m cl) rfl rfl (by kernel_rfl) (by kernel_rfl) (by kernel_rfl) (by kernel_rfl) (fun _ _ _ h => h) (Or.inl ⟨by rfl, fun W' hW => by go_simp⟩) hS ?_
              simp only [Act.put, List.setIfInBounds_toArray, List.set_cons_zero, List.set_cons_succ]
              refine take_D (i := 17) 79 (.int .i64 m) rfl rfl (by kernel_rfl) (by kernel_rfl) (by kernel_rfl) (by kernel_rfl) (fun _ _ _ h => h) (Or.inl ⟨by rfl, fun W' hW => by go_simp⟩) hS ?_
              simp only [Act.put, List.setIfInBounds_toArray, List.set_cons_zero, List.set_cons_succ]
              refine take_D (i := 18) 80 (.slice pm m cm) rfl rfl (by kernel_rfl) (by kernel_rfl) (by kernel_rfl) (by kernel_rfl) (fun _ _ _ h => h) (Or.inl ⟨by rfl, fun W' hW => by go_simp⟩) hS ?_
              simp only [Act.put, List.setIfInBounds_toArray, List.set_cons_zero, List.set_cons_succ]
              refine take_D (i := 19) 81 (.int .i64 m) rfl rfl (by kernel_rfl) (by kernel_rfl) (by kernel_rfl) (by kernel_rfl) (fun _ _ _ h => h) (Or.inl ⟨by rfl, fun W' hW => by go_simp⟩) hS ?_
              simp only [Act.put, List.setIfInBounds_toArray, List.set_cons_zero, List.set_cons_succ]
              refine take_D (i := 20) 82 (.bool true) rfl rfl (by kernel_rfl) (by kernel_rfl) (by kernel_rfl) (by kernel_rfl) (fun _ _ _ h => h) (Or.inl ⟨by rfl, fun W' hW => by go_simp⟩) hS ?_
              simp only [Act.put, List.setIfInBounds_toArray, List.set_cons_zero, List.set_cons_succ]
              refine take_D (i := 21) 83 (.bool true) rfl rfl (by kernel_rfl) (by kernel_rfl) (by kernel_rfl) (by kernel_rfl) (fun _ _ _ h => h) (Or.inl ⟨by rfl, fun W' hW => by go_simp⟩) hS ?_
              simp only [Act.put, List.setIfInBounds_toArray, List.set_cons_zero, List.set_cons_succ]
              refine take_D (i := 22) 4 (.bool true) rfl rfl (by kernel_rfl) (by kernel_rfl) (by kernel_rfl) (by kernel_rfl) (fun _ _ _ h => h) (Or.inl ⟨by rfl, fun W' hW => by go_simp⟩) hS ?_
              simp only [Act.put, List.setIfInBounds_toArray, List.set_cons_zero, List.set_cons_succ]
              refine done_J (by kernel_rfl) ?_ _
              refine NoPanic.normal ?_
              clear hS
              go_wp2_with fail
              go_ret
              exact ⟨rfl, HB14.out⟩
end Go.Proofs.YteoflpalmckikaaDoor
