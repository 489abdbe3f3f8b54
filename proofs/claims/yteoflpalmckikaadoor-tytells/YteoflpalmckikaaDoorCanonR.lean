/-
  THE WALK OF dawdlerref08's Canon.
-/
import Derived.Test.YteoflpalmckikaaDoorApplyR
import Derived.Test.YteoflpalmckikaaDoorFactH
import Derived.Test.YteoflpalmckikaaDoorRowF
namespace Go.Proofs.YteoflpalmckikaaDoor
open Go.RowKit
set_option linter.unusedVariables false
set_option linter.unusedSimpArgs false
theorem frow_rmQ {Q : Nat → Prop} {W : World} {base n c : Nat} {p : Option Addr} {l : List (Int × Ty)} (hQ : ∀ g, base ≤ g → g < W.heap.size → Q g) (h : W.ownsRow base 34 4 (.slice p n c) n (frow l)) (hl : l.length = n) (hb : ∀ f ∈ l, (-9223372036854775808 ≤ f.1 ∧ f.1 ≤ 9223372036854775807) ∧ ∃ x : Int, f.2 = hole x ∧ (-9223372036854775808 ≤ x ∧ x ≤ 9223372036854775807)) : RM 4 Q W (FaIn Q W) p l := by
  cases hc : l with
  | nil => exact .inl rfl
  | cons a r =>
    rw [← hc]
    have hn : 0 < n := by rw [← hl, hc]; simp
    have h' := h
    rcases h with ⟨e1, ⟨e2, e3⟩ | ⟨g, cap, cur, hv, hbs, hg, r1, r2, r3⟩⟩
    · omega
    · cases hv
      refine .inr ⟨g, 0, rfl, hQ g hbs (Array.getElem?_eq_some_iff.1 hg).1, fun i t ht => ⟨fcell t, rfl, fun j d hd => ?_, ?_⟩⟩
      · rw [Nat.zero_add]
        exact row_cell h' (frow_at ht hd)
      · obtain ⟨hb1, x, hx, hb2⟩ := hb t (List.mem_of_getElem? ht)
        refine ⟨[.string ⟨#[]⟩, .int .i64 t.2.n, .slice none 0 0], rfl, hb1, ?_⟩
        rw [hx]
        exact hole_in _ W x hb2
/-- A type that a call made or found. -/
def TQA (t : Ty) (w : World) (r : Ending) (w' : World) : Prop := ∃ pk ck, r = .returned (.agg (cs3 t pk ck)) ∧ Below w.heap.size w w' ∧ TyIn (fun b => b < w'.heap.size) w' t [.string (S t.nm), .int .i64 t.n, .slice pk t.ar.length ck]
theorem tqa_cell {t : Ty} {w W : World} {pk : Option Addr} {ck B : Nat} (hB : w.heap.size ≤ B) (hb : Below w.heap.size w W) (h : TyIn (fun b => b < W.heap.size ∧ b ≠ B) W t [.string (S t.nm), .int .i64 t.n, .slice pk t.ar.length ck]) : TQA t w (.returned (.agg (cs3 t pk ck))) (((W.setCell ⟨B, 0, none⟩ (.string (S t.nm))).setCell ⟨B, 1, none⟩ (.int .i64 t.n)).setCell ⟨B, 2, none⟩ (.slice pk t.ar.length ck)) := by
  refine ⟨pk, ck, rfl, ?_, ?_⟩
  · exact ((hb.setCell (p := ⟨B, 0, none⟩) hB _).setCell (p := ⟨B, 1, none⟩) hB _).setCell (p := ⟨B, 2, none⟩) hB _
  · refine TyIn.keep ((kp3 W B _ _ _).mono fun b hb => hb.2) (fun b hb => ?_) _ _ h
    rw [size3]
    exact hb.1
set_option maxHeartbeats 8000000 in
set_option maxRecDepth 100000 in
theorem rcanon_any (t : Ty) {P : Nat → Prop} {w : World} {pk : Option Addr} {ck : Nat} (hP : ∀ b, P b → b < w.heap.size) (hE : TyIn P w t [.string (S t.nm), .int .i64 t.n, .slice pk t.ar.length ck]) :
    Calls Tryd.prog 19 #[.agg (cs3 t pk ck)] w (TQA (if chk t then canon t else ⟨[], 0, []⟩) w) := by
  have hB0 : Below w.heap.size w ((w.alloc (.cells (cs3 t pk ck) 24)).alloc (.cells #[.string ⟨#[]⟩, .int .i64 0, .slice none 0 0] 24)) := ((Below.refl _ w).alloc (Nat.le_refl _) _).alloc (by simp) _
  have hW0 : Hold w.heap.size (cs3 t pk ck) 24 ((w.alloc (.cells (cs3 t pk ck) 24)).alloc (.cells #[.string ⟨#[]⟩, .int .i64 0, .slice none 0 0] 24)) := (Hold.new w _ 24).alloc _
  have hR0 : Hold (w.heap.size + 1) #[.string ⟨#[]⟩, .int .i64 0, .slice none 0 0] 24 ((w.alloc (.cells (cs3 t pk ck) 24)).alloc (.cells #[.string ⟨#[]⟩, .int .i64 0, .slice none 0 0] 24)) := by have := Hold.new (w.alloc (.cells (cs3 t pk ck) 24)) #[.string ⟨#[]⟩, .int .i64 0, .slice none 0 0] 24; simpa using this
  have HCT := hide (fun W (hb : Below w.heap.size w W) => rcheck_any t (P := P) (w := W) (pk := pk) (ck := ck) (fun b h => Nat.lt_of_lt_of_le (hP b h) hb.size) (TyIn.keep (KP.of_below hb hP) (fun b h => h) _ _ hE))
  have HHS := hide (fun (hs : tsz t ≤ 2000) W (hb : Below w.heap.size w W) => rholes_any t (P := P) (w := W) (pk := pk) (ck := ck) (l := []) (v := .slice none 0 0) (base := W.heap.size) (fun b h => Nat.lt_of_lt_of_le (hP b h) hb.size) (TyIn.keep (KP.of_below hb hP) (fun b h => h) _ _ hE) (World.ownsRow_nil _ _ _ _) (Nat.le_refl _) (by simp; omega))
  have HTI : Hid (∀ (W : World), Below w.heap.size w W → w.heap.size + 1 < W.heap.size → TyIn (fun b => b < W.heap.size ∧ b ≠ w.heap.size + 1) W t [.string (S t.nm), .int .i64 t.n, .slice pk t.ar.length ck]) := hide (fun W hb hw => TyIn.keep (KP.of_below hb hP) (fun b h => by have := hP b h; exact ⟨by omega, by omega⟩) _ _ hE)
  have HBD := hide (fun n (hn : n ∈ hs t) => hls_bds t hE n ((hs_mem t n).1 hn))
  have HB0 := hide hB0
  have HW0 := hide hW0
  have HR0 := hide hR0
  clear hB0 hW0 hR0 hE
  unfold cs3 at *
  cases hbt : chk t with
  | false =>
    rw [hbt] at HCT
    have HTE0 : Hid ((if false = true then canon t else (⟨[], 0, []⟩ : Ty)) = ⟨[], 0, []⟩) := hide rfl
    generalize (if false = true then canon t else (⟨[], 0, []⟩ : Ty)) = te at *
    go_enter Tryd.func19, Tryd.ntmps19
    go_wp2_with fail
    refine (HCT.out _ HB0.out).mono ?_
    rintro r w1 ⟨rfl, hb⟩
    have HB1 := hide (HB0.out.trans (hb.mono HB0.out.size))
    have HR1 := hide (HR0.out.below hb HR0.out.lt)
    have hs1 := HR1.out.lt
    have HTE := HTE0
    clear hb HCT
    have r2 := HR1.out
    have hf0 := r2.frozen 0
    have hf1 := r2.frozen 1
    have hf2 := r2.frozen 2
    have hr0 := r2.cell 0
    have hr1 := r2.cell 1
    have hr2 := r2.cell 2
    simp only [List.getElem?_toArray, List.getElem?_cons_succ, List.getElem?_cons_zero] at hr0 hr1 hr2
    have hs2 := r2.lt
    clear r2
    go_wp2_with fail
    have hro := hold3 HR1.out (.string ⟨#[]⟩) (.int .i64 0) (.slice none 0 0)
    have q0 := hro.cell 0
    have q1 := hro.cell 1
    have q2 := hro.cell 2
    simp only [List.getElem?_toArray, List.getElem?_cons_succ, List.getElem?_cons_zero] at q0 q1 q2
    have HTQ : Hid (TQA te w (.returned (.agg #[.string ⟨#[]⟩, .int .i64 0, .slice none 0 0])) (((w1.setCell ⟨w.heap.size + 1, 0, none⟩ (.string ⟨#[]⟩)).setCell ⟨w.heap.size + 1, 1, none⟩ (.int .i64 0)).setCell ⟨w.heap.size + 1, 2, none⟩ (.slice none 0 0))) := by
      rw [HTE.out]
      exact tqa_cell (t := (⟨[], 0, []⟩ : Ty)) (w := w) (W := w1) (pk := none) (ck := 0) (B := w.heap.size + 1) (by omega) HB1.out (zero_in _ _)
    generalize ((w1.setCell ⟨w.heap.size + 1, 0, none⟩ (.string ⟨#[]⟩)).setCell ⟨w.heap.size + 1, 1, none⟩ (.int .i64 0)).setCell ⟨w.heap.size + 1, 2, none⟩ (.slice none 0 0) = W3 at *
    exact bodyPost_ret (v := .agg #[.string ⟨#[]⟩, .int .i64 0, .slice none 0 0]) (by simp only [results, Tryd.results19]; go_simp) rfl HTQ.out
  | true =>
    rw [hbt] at HCT
    have hts := ((chk_iff t).1 hbt).2.2
    have hts1 : tsz t ≤ 1000000 := by omega
    have hcn : canon t = (if true = true then canon t else (⟨[], 0, []⟩ : Ty)) := by rw [if_pos rfl]
    generalize (if true = true then canon t else (⟨[], 0, []⟩ : Ty)) = te at *
    have HCN := hide hcn
    clear hcn
    go_enter Tryd.func19, Tryd.ntmps19
    go_wp2_with fail
    refine (HCT.out _ HB0.out).mono ?_
    rintro r w1 ⟨rfl, hb⟩
    have HB1 := hide (HB0.out.trans (hb.mono HB0.out.size))
    have HW1 := hide (HW0.out.below hb HW0.out.lt)
    have HR1 := hide (HR0.out.below hb HR0.out.lt)
    have hs1 := HR1.out.lt
    clear hb HCT
    have x0 := HW1.out.cell 0; have x1 := HW1.out.cell 1; have x2 := HW1.out.cell 2
    simp only [List.getElem?_toArray, List.getElem?_cons_succ, List.getElem?_cons_zero] at x0 x1 x2
    go_wp2_with fail
    refine (HHS.out hts _ HB1.out).mono ?_
    rintro r w3 ⟨v, rfl, hil, hb⟩
    have HB3 := hide (HB1.out.trans (hb.mono HB1.out.size))
    have HW3 := hide (HW1.out.below hb HW1.out.lt)
    have HR3 := hide (HR1.out.below hb HR1.out.lt)
    have hs3 := HR3.out.lt
    obtain ⟨pm, cm, rfl, hgt⟩ := hil.slice
    have HGT := hide hgt; have HILT := hide hil
    have hhl2 : hsA [] t = hs t := rfl
    have hml2 : (hsA [] t).length ≤ 2000 := Nat.le_trans (hs_len t) hts
    have hhb := HBD.out
    rw [← hhl2] at hhb
    clear hb hil hgt HHS
    clear x0 x1 x2
    generalize hhl : hsA [] t = hl at *
    generalize hml : hl.length = m at *
    have HHL : Hid (hs t = hl) := hide hhl2.symm; have HML := hide hml; have HHB := hide hhb
    clear hhl hml hhb hhl2
    go_wp2_with fail
    go_loopg [5, 6] m (fun k s5 s6 wr => ∃ i : Nat, ∃ pf cf, i ≤ m ∧ k = m - i ∧ s6 = .int .i64 i ∧ s5 = .slice pf i cf ∧ wr.ownsRow w3.heap.size 34 4 (.slice pf i cf) i (frow (genF (fun k => (k : Int)) hl i)) ∧ Below w3.heap.size w3 wr)
    case atStart => exact ⟨0, none, 0, Nat.zero_le _, by omega, rfl, rfl, World.ownsRow_nil _ _ _ _, Below.refl _ w3⟩
    case round =>
      obtain ⟨i, pf, cf, hi1, rfl, rfl, rfl, hown, hbr⟩ := hrel
      have HBR := hide hbr; have HOWN := hide hown
      have HBW : Hid (Below w.heap.size w wr) := hide (HB3.out.trans (hbr.mono HB3.out.size))
      have HWR := hide (HW3.out.below hbr HW3.out.lt)
      have HRR := hide (HR3.out.below hbr HR3.out.lt)
      clear hbr hown
      by_cases hlt : i < m
      · have hil : i < hl.length := by rw [HML.out]; exact hlt
        obtain ⟨g, rfl, _, hgl⟩ := HGT.out (by omega)
        have hu := List.getElem?_eq_getElem hil
        have hsu := genF_succ (fun k => (k : Int)) hl hil
        have hmem := HHB.out hl[i] (List.getElem_mem hil)
        generalize hl[i] = x at *
        have ca : wr.cell? ⟨g, i, none⟩ = some (.int .i64 x) := (HBR.out.cell (p := ⟨g, i, none⟩) hgl).trans (row_cell (by have h := HILT.out; unfold IL at h; rw [HML.out] at h; exact h) (intV_at hu))
        have hii : (i : Int) < m := by omega
        have HSU := hide hsu
        clear hu hsu
        obtain ⟨i0, hi, hz0, hz1, hz2⟩ := info_parts info34
        have hnews := cells_new wr [.int .i64 x, .string ⟨#[]⟩, .int .i64 i, .slice none 0 0] 34
        have hones : ∀ u ∈ ([.int .i64 x, .string ⟨#[]⟩, .int .i64 i, .slice none 0 0] : List Value), u.oneCell' = true := by simp [Value.oneCell']
        have hwsz := HBR.out.size
        go_wp2_with (first
          | (at_builtin; refine wpList_append_lies _ rfl _ _ 32 rfl w3.heap.size 34 i0 _ 4 56 Tryd.underlying32 hi hz0 hz1 hz2 rfl (by omega) (.slice pf i cf) i (frow (genF (fun k => (k : Int)) hl i)) rfl (HOWN.out.alloc _) ⟨wr.heap.size, 0, none⟩ 1 1 [.int .i64 x, .string ⟨#[]⟩, .int .i64 i, .slice none 0 0] rfl rfl hnews hones (by omega) (by unfold maxLen; omega) (by omega) (by simp; omega) (wr.heap.size + 1) (by simp) ?_; intro g2 cap2 w8 hown8 hgr8 hat8 hlt8
             have HOWN8 := hide hown8; have HGR8 := hide hgr8
             clear hown8 hgr8 hat8
             go_frame)
          | fail)
        go_roundg (m - (i + 1))
        case measure => omega
        case rel =>
          refine ⟨i + 1, _, _, by omega, rfl, by go_num, rfl, ?_, ?_⟩
          · rw [HSU.out, frow_snoc]
            exact HOWN8.out
          · exact HBR.out.trans ((((Below.refl _ wr).alloc (Nat.le_refl _) _).mono HBR.out.size).trans (below_row (HOWN.out.alloc _) (by simp; omega) HGR8.out))
      · obtain rfl : m = i := by omega
        have hii : ¬ (m : Int) < m := by omega
        have hfl : (genF (fun k => (k : Int)) hl m).length = m := genF_len _ _ _ (by rw [HML.out]; omega)
        have hw3 := HB3.out.size
        have hwsz := HBR.out.size
        have hrm := frow_rmQ (Q := fun b => b < wr.heap.size ∧ b ≠ w.heap.size + 1) (fun g h1 h2 => ⟨h2, by omega⟩) HOWN.out hfl (fun f hf => by
          obtain ⟨h1, k, h2, h3⟩ := genF_mem hf
          refine ⟨HHB.out _ h1, _, h3, ?_⟩
          have := HML.out
          omega)
        have HGE : Hid (sub (look (genF (fun k => (k : Int)) hl m)) t = te) := hide (by rw [← HCN.out, ← genF_canon t, HHL.out, HML.out])
        generalize genF (fun k => (k : Int)) hl m = fl at *
        have hp := rput_any fl (by omega) t (P := fun b => b < wr.heap.size ∧ b ≠ w.heap.size + 1) (w := wr) (pk := pk) (ck := ck) (pl := pf) (cl := cf) (fun b h => h.1) (HTI.out wr HBW.out (by omega)) hrm hts1
        rw [hfl] at hp
        have HPT := hide hp
        clear hp hrm hfl
        unfold cs3 at HPT
        have x0 := HWR.out.cell 0; have x1 := HWR.out.cell 1; have x2 := HWR.out.cell 2
        simp only [List.getElem?_toArray, List.getElem?_cons_succ, List.getElem?_cons_zero] at x0 x1 x2
        go_wp2_with fail
        refine HPT.out.mono ?_
        rintro r w6 ⟨p2, c2, rfl, hb, hin⟩
        have HB6 := hide (HBW.out.trans (hb.mono HBW.out.size))
        have HR6 := hide (HRR.out.below hb HRR.out.lt)
        have h5 := hb.size
        have h7 := HRR.out.lt
        have hgx := HGE.out
        generalize sub (look fl) t = ts at *
        have HTE : Hid (te = ts) := hide hgx.symm
        have HIN6 : Hid (TyIn (fun b => b < w6.heap.size ∧ b ≠ w.heap.size + 1) w6 ts [.string (S ts.nm), .int .i64 ts.n, .slice p2 ts.ar.length c2]) := hide (TyIn.keep (KP.refl _ _) (fun b h => by
          rcases h with h | h
          · exact ⟨by have := h.1; omega, h.2⟩
          · have := h.1
            exact ⟨h.2, by omega⟩) _ _ hin)
        clear hb hin hgx
        unfold cs3
        have r2 := HR6.out
        have hf0 := r2.frozen 0
        have hf1 := r2.frozen 1
        have hf2 := r2.frozen 2
        have hr0 := r2.cell 0
        have hr1 := r2.cell 1
        have hr2 := r2.cell 2
        simp only [List.getElem?_toArray, List.getElem?_cons_succ, List.getElem?_cons_zero] at hr0 hr1 hr2
        have hs2 := r2.lt
        clear r2
        go_wp2_with fail
        have hro := hold3 HR6.out (.string (S ts.nm)) (.int .i64 ts.n) (.slice p2 ts.ar.length c2)
        have q0 := hro.cell 0
        have q1 := hro.cell 1
        have q2 := hro.cell 2
        simp only [List.getElem?_toArray, List.getElem?_cons_succ, List.getElem?_cons_zero] at q0 q1 q2
        have HTQ : Hid (TQA te w (.returned (.agg #[.string (S ts.nm), .int .i64 ts.n, .slice p2 ts.ar.length c2])) (((w6.setCell ⟨w.heap.size + 1, 0, none⟩ (.string (S ts.nm))).setCell ⟨w.heap.size + 1, 1, none⟩ (.int .i64 ts.n)).setCell ⟨w.heap.size + 1, 2, none⟩ (.slice p2 ts.ar.length c2))) := by
          rw [HTE.out]
          exact tqa_cell (t := ts) (w := w) (W := w6) (pk := p2) (ck := c2) (B := w.heap.size + 1) (by omega) HB6.out HIN6.out
        generalize ((w6.setCell ⟨w.heap.size + 1, 0, none⟩ (.string (S ts.nm))).setCell ⟨w.heap.size + 1, 1, none⟩ (.int .i64 ts.n)).setCell ⟨w.heap.size + 1, 2, none⟩ (.slice p2 ts.ar.length c2) = W3 at *
        exact bodyPost_ret (v := .agg #[.string (S ts.nm), .int .i64 ts.n, .slice p2 ts.ar.length c2]) (by simp only [results, Tryd.results19]; go_simp) rfl HTQ.out
end Go.Proofs.YteoflpalmckikaaDoor
