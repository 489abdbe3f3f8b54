/-
  THE WALK OF web.grow.
-/
import Derived.Test.YteoflpalmckikaaDoorTieP
import Derived.Test.YteoflpalmckikaaDoorCanonP
namespace Go.Proofs.YteoflpalmckikaaDoor
open Go.RowKit
set_option linter.unusedVariables false
set_option linter.unusedSimpArgs false
section
variable {D B hB fB lB : Nat} {v : Value} {ties : List Nat} {hp : Int → Option Nat} {fc : Nat → Option Shp} {le : Nat → Option Int} {w w' : World}
theorem WM.grow {r : Option Nat} (h : WM D B hB fB lB v ties hp fc le w) (hg : w.grownBy w' r) (hr : ∀ b, r = some b → ∃ C t, Hold b C t w ∧ t ≠ 3 ∧ t ≠ 64) : WM D B hB fB lB v ties hp fc le w' := by
  obtain ⟨fv, f1, f2, f3⟩ := h.fac
  obtain ⟨lv, l1, l2⟩ := h.lea
  have hrow : ∀ {v' : Value} {n : Nat} {xs : List Value}, w.ownsRow D 3 1 v' n xs → w'.ownsRow D 3 1 v' n xs := fun hr' => row_keep hr' fun g hg' hl => hg.block g hl fun e => by
    obtain ⟨C, t, hh, ht, _⟩ := hr g e.symm
    exact row_ne hh hr' ht hg'.symm
  have hmap : ∀ {b f}, MapI w b f → MapI w' b f := fun hm => hm.keep (hg.block _ hm.lt fun e => by
    obtain ⟨C, t, hh, _⟩ := hr _ e.symm
    exact hm.ne hh rfl)
  refine ⟨h.base, h.ne, (hg.block B h.cell.lt fun e => ?_).trans h.cell, hrow h.row, hmap h.hol, ⟨fv, hmap f1, fun i s hs => ?_, f3⟩, ⟨lv, hmap l1, l2⟩, h.few⟩
  · obtain ⟨C, t, hh, _, ht⟩ := hr B e.symm
    have := h.cell
    unfold Hold at this hh
    rw [this] at hh
    cases hh
    exact ht rfl
  · obtain ⟨x, e1, p, c, rfl, h2, h3⟩ := f2 i s hs
    exact ⟨_, e1, p, c, rfl, hrow h2, h3⟩
/-- A number's own block, that is no row's. -/
theorem WM.num {Lb : Nat} {C : Array Value} (h : WM D B hB fB lB v ties hp fc le w) (hL : Hold Lb C 3 w) (hv : some Lb ≠ v.ownBlock) (hA : Av (fun b => b = Lb) fB w) (u : Value) (i : Nat) : WM D B hB fB lB v ties hp fc le (w.setCell ⟨Lb, i, none⟩ u) ∧ Lb ≠ B ∧ Lb ≠ hB ∧ Lb ≠ fB ∧ Lb ≠ lB := by
  obtain ⟨fv, f1, _⟩ := h.fac
  obtain ⟨lv, l1, _⟩ := h.lea
  have n1 : Lb ≠ B := fun e => by
    have := h.cell
    unfold Hold at this hL
    rw [e, this] at hL
    cases hL
  have n2 := (h.hol.ne hL).symm
  have n3 := (f1.ne hL).symm
  have n4 := (l1.ne hL).symm
  exact ⟨h.free (fun b => b = Lb) (fun b hb => by subst hb; exact ⟨n1, n2, n3, n4, hv⟩) hA fun b _ hb => Below.heap_setCell _ _ _ b hb, n1, n2, n3, n4⟩
end
theorem WM.set3 {D B hB fB lB : Nat} {v : Value} {ties : List Nat} {hp : Int → Option Nat} {fc : Nat → Option Shp} {le : Nat → Option Int} {w : World} {R : Nat} {x y z : Value} (h : WM D B hB fB lB v ties hp fc le w) (hh : Hold R #[x, y, z] 24 w) (hb : R ≠ B) (a b c : Value) : WM D B hB fB lB v ties hp fc le (((w.setCell ⟨R, 0, none⟩ a).setCell ⟨R, 1, none⟩ b).setCell ⟨R, 2, none⟩ c) :=
  ((h.other hh (by decide) hb a).other (hh.set 0 a) (by decide) hb b).other ((hh.set 0 a).set 1 b) (by decide) hb c
/-- What grow comes to, in memory. -/
def GrowR (n D B hB fB lB : Nat) (v : Value) (hp : Int → Option Nat) (fc : Nat → Option Shp) (le : Nat → Option Int) (ro d : Nat → Nat) (lea : Nat → Int) (lv i left Lb : Nat) (w : World) (r : Ending) (w' : World) : Prop := ∃ res : Option (Ty × Nat), GrowQ fc ro lea lv i left res ∧ (∃ ties', WM D B hB fB lB v ties' hp fc le w' ∧ Fo ties' ro d ∧ ties'.length = n) ∧ KP (fun b => Wk B hB fB lB v w b ∧ b ≠ Lb) w w' ∧ w'.heap[fB]? = w.heap[fB]? ∧
  ((∃ T rest pk ck, res = some (T, rest) ∧ r = .returned (.tuple #[.agg (cs3 T pk ck), .bool true]) ∧ TyIn (New w.heap.size w'.heap.size) w' T [.string (S T.nm), .int .i64 T.n, .slice pk T.ar.length ck] ∧ Hold Lb #[.int .i64 (rest : Nat)] 3 w') ∨ (res = none ∧ r = .returned (.tuple #[.agg #[.string ⟨#[]⟩, .int .i64 0, .slice none 0 0], .bool false])))
def GrowOK (n D B hB fB lB : Nat) (hp : Int → Option Nat) (fc : Nat → Option Shp) (le : Nat → Option Int) (ro d : Nat → Nat) (lea : Nat → Int) (lv : Nat) : Prop := ∀ (ties : List Nat) (w : World) (i left Lb : Nat) (v : Value), ties.length = n → WM D B hB fB lB v ties hp fc le w → Fo ties ro d → i < n → Hold Lb #[.int .i64 (left : Nat)] 3 w → left ≤ 100000 → some Lb ≠ v.ownBlock → Av (fun b => b = Lb) fB w → lv ≤ 1000 →
    Calls Tryd.prog 63 #[.pointer (some ⟨B, 0, none⟩), .int .i64 i, .int .i64 lv, .pointer (some ⟨Lb, 0, none⟩)] w (GrowR n D B hB fB lB v hp fc le ro d lea lv i left Lb w)
set_option maxHeartbeats 16000000 in
set_option maxRecDepth 100000 in
theorem grow_any {n D B hB fB lB : Nat} {hp : Int → Option Nat} {fc : Nat → Option Shp} {le : Nat → Option Int} {ro d : Nat → Nat} {lea : Nat → Int} (hsh : ∀ i s, fc (ro i) = some s → s.1.length ≤ 20 ∧ s.2.length ≤ 100000 ∧ ∀ j ∈ s.2, j < n) (hle : ∀ i, i < n → fc (ro i) = none → le (ro i) = some (lea (ro i)) ∧ -9223372036854775808 ≤ lea (ro i) ∧ lea (ro i) ≤ 9223372036854775807) (lv : Nat) : GrowOK n D B hB fB lB hp fc le ro d lea lv := by
  induction lv with
  | zero =>
    intro ties w i left Lb v hln hM hF hin hL hleft hLv hAv hlv
    obtain ⟨hM0, n1, n2, n3, n4⟩ := hM.num hL hLv hAv (.int .i64 ((left : Int) - 1)) 0
    have hM1 := hM0.alloc (.cells #[.string ⟨#[]⟩, .int .i64 0, .slice none 0 0] 24)
    have hLl := hL.lt
    have hR1 : Hold w.heap.size #[.string ⟨#[]⟩, .int .i64 0, .slice none 0 0] 24 ((w.setCell ⟨Lb, 0, none⟩ (.int .i64 ((left : Int) - 1))).alloc (.cells #[.string ⟨#[]⟩, .int .i64 0, .slice none 0 0] 24)) := by
      have := Hold.new (w.setCell ⟨Lb, 0, none⟩ (.int .i64 ((left : Int) - 1))) #[.string ⟨#[]⟩, .int .i64 0, .slice none 0 0] 24
      simpa using this
    have hL1 : Hold Lb #[.int .i64 ((left : Int) - 1)] 3 ((w.setCell ⟨Lb, 0, none⟩ (.int .i64 ((left : Int) - 1))).alloc (.cells #[.string ⟨#[]⟩, .int .i64 0, .slice none 0 0] 24)) := by
      have := (hL.set 0 (.int .i64 ((left : Int) - 1))).alloc (.cells #[.string ⟨#[]⟩, .int .i64 0, .slice none 0 0] 24)
      simpa using this
    have l0 := hL.cell 0
    have lf := hL.frozen 0
    have hV0s : ((w.setCell ⟨Lb, 0, none⟩ (.int .i64 ((left : Int) - 1))).alloc (.cells #[.string ⟨#[]⟩, .int .i64 0, .slice none 0 0] 24)).heap.size = w.heap.size + 1 := by simp
    have hfb : ((w.setCell ⟨Lb, 0, none⟩ (.int .i64 ((left : Int) - 1))).alloc (.cells #[.string ⟨#[]⟩, .int .i64 0, .slice none 0 0] 24)).heap[fB]? = w.heap[fB]? := (Below.heap_alloc _ _ _ (by have := hM.maps_lt.2.2.1; simp; omega)).trans (Below.heap_setCell _ _ _ fB n3.symm)
    have hk : KP (fun b => Wk B hB fB lB v w b ∧ b ≠ Lb) w ((w.setCell ⟨Lb, 0, none⟩ (.int .i64 ((left : Int) - 1))).alloc (.cells #[.string ⟨#[]⟩, .int .i64 0, .slice none 0 0] 24)) := (KP.setCell w Lb 0 (.int .i64 ((left : Int) - 1)) fun hb => hb.2 rfl).trans (KP.alloc _ _ fun b hb => by have := hb.1.1; simp; omega)
    have hr0 := hR1.cell 0
    have hr1 := hR1.cell 1
    have hr2 := hR1.cell 2
    simp only [List.getElem?_toArray, List.getElem?_cons_succ, List.getElem?_cons_zero] at l0 hr0 hr1 hr2
    have HM1 := hide hM1; have HF := hide hF; have HLN := hide hln; have HFB := hide hfb; have HK := hide hk
    clear hM hM0 hM1 hR1 hL1 hF hln hAv hfb hk hV0s
    go_enter Tryd.func63, Tryd.ntmps63
    go_wp2_with fail
    exact bodyPost_ret (v := .tuple #[.agg #[.string ⟨#[]⟩, .int .i64 0, .slice none 0 0], .bool false]) (by simp only [results, Tryd.results63]; go_simp) rfl ⟨none, grow_zero i left, ⟨ties, HM1.out, HF.out, HLN.out⟩, HK.out, HFB.out, .inr ⟨rfl, rfl⟩⟩
  | succ lv ih =>
    intro ties w i left Lb v hln hM hF hin hL hleft hLv hAv hlv
    obtain ⟨hM0, n1, n2, n3, n4⟩ := hM.num hL hLv hAv (.int .i64 ((left : Int) - 1)) 0
    have hM1 := hM0.alloc (.cells #[.string ⟨#[]⟩, .int .i64 0, .slice none 0 0] 24)
    have hLl := hL.lt
    have hR1 : Hold w.heap.size #[.string ⟨#[]⟩, .int .i64 0, .slice none 0 0] 24 ((w.setCell ⟨Lb, 0, none⟩ (.int .i64 ((left : Int) - 1))).alloc (.cells #[.string ⟨#[]⟩, .int .i64 0, .slice none 0 0] 24)) := by
      have := Hold.new (w.setCell ⟨Lb, 0, none⟩ (.int .i64 ((left : Int) - 1))) #[.string ⟨#[]⟩, .int .i64 0, .slice none 0 0] 24
      simpa using this
    have hL1 : Hold Lb #[.int .i64 ((left : Int) - 1)] 3 ((w.setCell ⟨Lb, 0, none⟩ (.int .i64 ((left : Int) - 1))).alloc (.cells #[.string ⟨#[]⟩, .int .i64 0, .slice none 0 0] 24)) := by
      have := (hL.set 0 (.int .i64 ((left : Int) - 1))).alloc (.cells #[.string ⟨#[]⟩, .int .i64 0, .slice none 0 0] 24)
      simpa using this
    have l0 := hL.cell 0
    have lf := hL.frozen 0
    have hV0s : ((w.setCell ⟨Lb, 0, none⟩ (.int .i64 ((left : Int) - 1))).alloc (.cells #[.string ⟨#[]⟩, .int .i64 0, .slice none 0 0] 24)).heap.size = w.heap.size + 1 := by simp
    have hfb : ((w.setCell ⟨Lb, 0, none⟩ (.int .i64 ((left : Int) - 1))).alloc (.cells #[.string ⟨#[]⟩, .int .i64 0, .slice none 0 0] 24)).heap[fB]? = w.heap[fB]? := (Below.heap_alloc _ _ _ (by have := hM.maps_lt.2.2.1; simp; omega)).trans (Below.heap_setCell _ _ _ fB n3.symm)
    have hk : KP (fun b => Wk B hB fB lB v w b ∧ b ≠ Lb) w ((w.setCell ⟨Lb, 0, none⟩ (.int .i64 ((left : Int) - 1))).alloc (.cells #[.string ⟨#[]⟩, .int .i64 0, .slice none 0 0] 24)) := (KP.setCell w Lb 0 (.int .i64 ((left : Int) - 1)) fun hb => hb.2 rfl).trans (KP.alloc _ _ fun b hb => by have := hb.1.1; simp; omega)
    simp only [List.getElem?_toArray, List.getElem?_cons_succ, List.getElem?_cons_zero] at l0
    have hcast : (((lv + 1 : Nat)) : Int) = (lv : Int) + 1 := by omega
    rw [hcast]
    have hlvi : ((lv : Int) + 1 == 0) = false := by simp; omega
    by_cases hl0 : left = 0
    · subst hl0
      have hr0 := hR1.cell 0
      have hr1 := hR1.cell 1
      have hr2 := hR1.cell 2
      have hl10 := hL1.cell 0
      simp only [List.getElem?_toArray, List.getElem?_cons_succ, List.getElem?_cons_zero] at hr0 hr1 hr2 hl10
      have HM1 := hide hM1; have HF := hide hF; have HLN := hide hln; have HFB := hide hfb; have HK := hide hk
      clear hM hM0 hM1 hR1 hL1 hF hln hAv hfb hk hV0s ih
      go_enter Tryd.func63, Tryd.ntmps63
      go_wp2_with fail
      exact bodyPost_ret (v := .tuple #[.agg #[.string ⟨#[]⟩, .int .i64 0, .slice none 0 0], .bool false]) (by simp only [results, Tryd.results63]; go_simp) rfl ⟨none, grow_left (lv + 1) i, ⟨ties, HM1.out, HF.out, HLN.out⟩, HK.out, HFB.out, .inr ⟨rfl, rfl⟩⟩
    · have hlpos : ¬ ((left : Int) - 1 < 0) := by omega
      have ht := teller_any hM1 hF (i := i) (by omega)
      have hl10 := hL1.cell 0
      simp only [List.getElem?_toArray, List.getElem?_cons_succ, List.getElem?_cons_zero] at hl10
      have HM := hide hM; have HM1 := hide hM1; have HF := hide hF; have HLN := hide hln; have HFB := hide hfb; have HK := hide hk; have HT := hide ht; have HR1 := hide hR1; have HL1 := hide hL1; have HAV := hide hAv; have HVS := hide hV0s; have HLV := hide hLv
      clear hM hM0 hM1 hR1 hL1 hF hln hAv hfb hk hV0s ht hLv
      go_enter Tryd.func63, Tryd.ntmps63
      go_wp2_with fail
      refine HT.out.mono ?_
      rintro r w2 ⟨rfl, ts2, hm2, hf2, hl2, hk2⟩
      have hown : ∀ g, v.ownBlock = some g → g < w.heap.size := fun g hg => (row_own HM.out.row hg).2
      obtain ⟨mB, mh, mf, ml⟩ := HM.out.maps_lt
      have hfbn : some fB ≠ v.ownBlock := by obtain ⟨fv, f1, _⟩ := HM1.out.fac; exact f1.row_ne HM1.out.row
      have hfb2 : w2.heap[fB]? = w.heap[fB]? := (hk2.block fB ⟨by have := HVS.out; omega, hfbn⟩).trans HFB.out
      have HL2 := hide (HL1.out.kp hk2 ⟨HL1.out.lt, HLV.out⟩)
      have HR2 := hide (HR1.out.kp hk2 ⟨HR1.out.lt, fun e => by have := hown _ e.symm; omega⟩)
      have HKP2 : Hid (KP (fun b => Wk B hB fB lB v w b ∧ b ≠ Lb) w w2) := hide (HK.out.trans (hk2.mono fun b hb => ⟨by have := hb.1.1; have := HVS.out; omega, hb.1.2.2.2.2.2⟩))
      have HFB2 := hide hfb2
      have HAV2 := hide (HAV.out.keep hfb2)
      have HM2 := hide hm2; have HF2 := hide hf2
      have HL2n : Hid (ts2.length = n) := hide (by rw [hl2]; exact HLN.out)
      have hw2s : w.heap.size + 1 ≤ w2.heap.size := by have := hk2.size; have := HVS.out; omega
      have hRB : w.heap.size ≠ B := by omega
      obtain ⟨s10, p10, n10, c10, k10, hlk, h10⟩ := hm2.look (ro i)
      have c2 := hm2.cell.cell 2
      simp only [List.getElem?_toArray, List.getElem?_cons_succ, List.getElem?_cons_zero] at c2
      clear hm2 hf2 hl2 hk2 hfb2 hfbn
      rcases h10 with ⟨rfl, sh, hsc, rfl, rfl, hrow, hnv⟩ | ⟨rfl, hnone⟩
      · obtain ⟨hs1, hs2, hs3⟩ := hsh i sh hsc
        have hB2' := (HM2.out.alloc (.cells #[.string (S sh.1), .slice p10 sh.2.length c10] 81)).cell.cell 2
        have hbox : Hold w2.heap.size #[.string (S sh.1), .slice p10 sh.2.length c10] 81 (w2.alloc (.cells #[.string (S sh.1), .slice p10 sh.2.length c10] 81)) := Hold.new w2 _ 81
        have x0 := hbox.cell 0; have x1 := hbox.cell 1
        have hmade : Hold (w2.heap.size + 1) #[.string (S sh.1), .int .i64 0, .slice none 0 0] 24 ((w2.alloc (.cells #[.string (S sh.1), .slice p10 sh.2.length c10] 81)).alloc (.cells #[.string (S sh.1), .int .i64 0, .slice none 0 0] 24)) := by
          have := Hold.new (w2.alloc (.cells #[.string (S sh.1), .slice p10 sh.2.length c10] 81)) #[.string (S sh.1), .int .i64 0, .slice none 0 0] 24
          rwa [World.size_alloc] at this
        have HM4 := hide ((HM2.out.alloc (.cells #[.string (S sh.1), .slice p10 sh.2.length c10] 81)).alloc (.cells #[.string (S sh.1), .int .i64 0, .slice none 0 0] 24))
        have HR4 := hide ((HR2.out.alloc (.cells #[.string (S sh.1), .slice p10 sh.2.length c10] 81)).alloc (.cells #[.string (S sh.1), .int .i64 0, .slice none 0 0] 24))
        have HL4 := hide ((HL2.out.alloc (.cells #[.string (S sh.1), .slice p10 sh.2.length c10] 81)).alloc (.cells #[.string (S sh.1), .int .i64 0, .slice none 0 0] 24))
        have HBX4 := hide (hbox.alloc (.cells #[.string (S sh.1), .int .i64 0, .slice none 0 0] 24))
        have HMD4 := hide hmade
        have HK24 : Hid (Below w2.heap.size w2 ((w2.alloc (.cells #[.string (S sh.1), .slice p10 sh.2.length c10] 81)).alloc (.cells #[.string (S sh.1), .int .i64 0, .slice none 0 0] 24))) := hide (((Below.refl _ w2).alloc (Nat.le_refl _) _).alloc (by simp) _)
        have hV4s : ((w2.alloc (.cells #[.string (S sh.1), .slice p10 sh.2.length c10] 81)).alloc (.cells #[.string (S sh.1), .int .i64 0, .slice none 0 0] 24)).heap.size = w2.heap.size + 2 := by simp
        have HVS4 := hide hV4s
        have HROW := hide hrow; have HNV := hide hnv; have HSH3 := hide hs3; have HSC := hide hsc
        simp only [List.getElem?_toArray, List.getElem?_cons_succ, List.getElem?_cons_zero] at x0 x1
        have hBw2 : B < w2.heap.size := by omega
        clear hbox hmade hV4s hrow hnv hs3 hsc hB2'
        generalize hnk : sh.2.length = nk at *
        have HNK := hide hnk
        clear hnk
        obtain ⟨i0, hi, hz0, hz1, hz2⟩ := info_parts info24
        go_wp2_with fail
        generalize ((w2.alloc (.cells #[.string (S sh.1), .slice p10 nk c10] 81)).alloc (.cells #[.string (S sh.1), .int .i64 0, .slice none 0 0] 24)) = V4 at *
        go_loopg [58] nk (fun k s58 wr => ∃ (j : Nat) (l : List Ty) (v12 : Value) (ts : List Nat), j ≤ nk ∧ k = nk - j ∧ s58 = .int .i64 j ∧ GrownTo fc ro lea lv sh.2 j l ∧ l.length = j ∧ 1 + (l.map tsz).sum ≤ left ∧ Hold Lb #[.int .i64 ((left - (1 + (l.map tsz).sum) : Nat) : Int)] 3 wr ∧ Hold (w2.heap.size + 1) #[.string (S sh.1), .int .i64 0, v12] 24 wr ∧ Row3 (w2.heap.size + 2) (w2.heap.size + 1) wr v12 l ∧ WM D B hB fB lB v ts hp fc le wr ∧ Fo ts ro d ∧ ts.length = n ∧ KP (fun b => Wk B hB fB lB v w b ∧ b ≠ Lb) w wr ∧ KP (fun b => Wk B hB fB lB v w2 b ∧ b ≠ Lb) w2 wr ∧ Hold w.heap.size #[.string ⟨#[]⟩, .int .i64 0, .slice none 0 0] 24 wr ∧ wr.heap[fB]? = w.heap[fB]? ∧ w2.heap.size + 2 ≤ wr.heap.size)
        case atStart =>
          refine ⟨0, [], .slice none 0 0, ts2, Nat.zero_le _, by omega, rfl, rfl, rfl, by simp; omega, ?_, HMD4.out, Row3.nil _ _ _, HM4.out, HF2.out, HL2n.out, HKP2.out.trans (KP.of_below HK24.out fun b hb => by have := hb.1.1; omega), KP.of_below HK24.out fun b hb => hb.1.1, HR4.out, (HK24.out.block fB (by omega)).trans HFB2.out, by have := HVS4.out; omega⟩
          have := HL4.out
          rw [show ((left - (1 + (([] : List Ty).map tsz).sum) : Nat) : Int) = (left : Int) - 1 by simp; omega]
          exact this
        case round =>
          obtain ⟨j, l, v12, ts, hj1, rfl, rfl, hgt, hll, hsum, hlb, hmd, hrw, hwm, hfo, htl, hkp, hk2, hrr, hfb, hsz⟩ := hrel
          have HGT := hide hgt; have HLL := hide hll; have HSUM := hide hsum; have HLB := hide hlb; have HMD := hide hmd; have HRW := hide hrw; have HWM := hide hwm; have HFO := hide hfo; have HTL := hide htl; have HKP := hide hkp; have HK2' := hide hk2; have HRR := hide hrr; have HFBR := hide hfb
          by_cases hlt : j < nk
          · have hjl : j < sh.2.length := by rw [HNK.out]; exact hlt
            have hu := List.getElem?_eq_getElem hjl
            have hun := HSH3.out _ (List.getElem_mem hjl)
            obtain ⟨g10, rfl⟩ : ∃ g10, p10 = some ⟨g10, 0, none⟩ := by
              rcases HROW.out.2 with ⟨_, h3⟩ | ⟨g', cap, cur, hv', _⟩
              · omega
              · cases hv'; exact ⟨g', rfl⟩
            generalize sh.2[j] = u at *
            have hg10 : Wk B hB fB lB v w2 g10 ∧ g10 ≠ Lb := by
              have hr := HROW.out
              obtain ⟨fv, f1, f2, f3⟩ := HM2.out.fac
              obtain ⟨lvf, l1, _⟩ := HM2.out.lea
              have hl := (row_own hr rfl).2
              have e1 := row_ne HM2.out.cell hr (by decide)
              have e2 := HM2.out.hol.row_ne hr
              have e3 := f1.row_ne hr
              have e4 := l1.row_ne hr
              have hh : (Value.slice (some ⟨g10, 0, none⟩) nk c10).ownBlock = some g10 := rfl
              rw [hh] at e1 e2 e3 e4
              refine ⟨⟨hl, fun e => e1 (by rw [e]), fun e => e2 (by rw [e]), fun e => e3 (by rw [e]), fun e => e4 (by rw [e]), HNV.out g10 rfl⟩, ?_⟩
              have hro : fc (ro i) = some sh := HSC.out
              obtain ⟨x, ex, p', c', rfl, h2, h3⟩ := f2 (ro i) sh hro
              have hlk' := f1.run_look_ok (P := Tryd.prog) (T := 62) (K := 3) (E := 81) Tryd.underlying62 Tryd.underlying3 (zero81 w2) (ro i : Nat)
              rw [ex, hlk] at hlk'
              simp only [Option.getD_some, Option.isSome_some, Result.ok.injEq, Value.tuple.injEq, and_true] at hlk'
              have hpp : (Value.slice (some ⟨g10, 0, none⟩) nk c10) = .slice p' sh.2.length c' := by
                have := congrArg (fun a : Array Value => (a[0]?).map fun y => match y with | .agg b => b[1]? | _ => none) hlk'
                simpa using this
              have hq : (Value.slice p' sh.2.length c').ownBlock = some g10 := by rw [← hpp]; rfl
              exact HAV2.out fv (ro i) _ p' _ c' g10 f1 ex hq
            have ca : wr.cell? ⟨g10, j, none⟩ = some (.int .i64 (u : Nat)) := (hk2.cell hg10 j).trans (row_cell HROW.out (natV_at hu))
            have hLbw : Lb < w.heap.size := by omega
            have hcall := ih ts wr u (left - (1 + (l.map tsz).sum)) Lb v htl hwm hfo hun hlb (by omega) HLV.out (HAV.out.keep hfb) (by omega)
            have hlc : ((lv : Int) + 1 - 1) = (lv : Int) := by omega
            have HC := hide hcall; have HU := hide hu; have HG10 := hide hg10
            have hii : (j : Int) < nk := by omega
            clear hgt hll hsum hlb hmd hrw hwm hfo htl hkp hk2 hrr hfb hcall hu hg10
            go_wp2_with fail
            refine HC.out.mono ?_
            rintro r w5 ⟨res, hq, ⟨ts5, hwm5, hfo5, htl5⟩, hkp5, hfb5, hres⟩
            have hsz5 : wr.heap.size ≤ w5.heap.size := hkp5.size
            have hWk : ∀ b, w.heap.size ≤ b → b < wr.heap.size → Wk B hB fB lB v wr b ∧ b ≠ Lb := fun b h1 h2 => ⟨⟨h2, by omega, by omega, by omega, by omega, fun e => by have := hown b e.symm; omega⟩, by omega⟩
            have HMD5 := hide (HMD.out.kp hkp5 (hWk _ (by omega) HMD.out.lt))
            have HRR5 := hide (HRR.out.kp hkp5 (hWk _ (Nat.le_refl _) HRR.out.lt))
            have HWM5 := hide hwm5; have HFO5 := hide hfo5; have HTL5 := hide htl5; have HKP5 := hide hkp5; have HFB5 := hide (hfb5.trans HFBR.out); have HQ := hide hq; have HWK := hide hWk
            clear hwm5 hfo5 htl5 hfb5 hq hkp5 hWk
            have hgown := fun (g : Nat) => HRW.out
            rcases hres with ⟨T, rest, qk, dk, rfl, rfl, hin5, hlb5⟩ | ⟨rfl, rfl⟩
            · obtain ⟨p12, c12, rfl, hsl⟩ := Row3.slice HRW.out
              obtain ⟨L, e1, e2, e3, e4, e5⟩ := HRW.out
              have hll : l.length = j := HLL.out
              rw [hll] at e1 e3 HMD5 HRW e4 e5 hsl
              have hb2 := HMD5.out.cell 2
              simp only [List.getElem?_toArray, List.getElem?_cons_succ, List.getElem?_cons_zero] at hb2
              have hbMl := HMD5.out.lt
              have hrowl : ∀ r, (Value.slice p12 j c12).ownBlock = some r → w2.heap.size + 2 ≤ r ∧ r < wr.heap.size := fun r hr => row_own e3 hr
              have hrow5 : w5.ownsRow (w2.heap.size + 2) 24 3 (.slice p12 j c12) j L.flatten := row_keep e3 fun g hg hl => HKP5.out.block g (HWK.out g (by have := (hrowl g hg).1; omega) hl)
              have HE1 := hide e1; have HE2 := hide e2; have HE4 := hide e4; have HE5 := hide e5; have HROW5 := hide hrow5; have HRL := hide hrowl; have HIN5 := hide hin5; have HLB5 := hide hlb5
              have hnews := cells_new (w5.alloc (.cells #[.string (S T.nm), .int .i64 T.n, .slice qk T.ar.length dk] 24)) [.string (S T.nm), .int .i64 T.n, .slice qk T.ar.length dk] 24
              have hones : ∀ u ∈ ([.string (S T.nm), .int .i64 T.n, .slice qk T.ar.length dk] : List Value), u.oneCell' = true := by simp [Value.oneCell']
              have hbM5 : w2.heap.size + 1 < w5.heap.size := HMD5.out.lt
              clear e1 e2 e3 e4 e5 hrow5 hrowl hin5 hlb5 hgown
              unfold cs3
              go_wp2_with (first
                | (at_builtin; refine wpList_append_lies _ rfl _ _ 22 rfl (w2.heap.size + 2) 24 i0 _ 3 48 Tryd.underlying22 hi hz0 hz1 hz2 rfl (by omega) (.slice p12 j c12) j L.flatten rfl ((HROW5.out.alloc _).alloc _) ⟨w5.heap.size + 1, 0, none⟩ 1 1 [.string (S T.nm), .int .i64 T.n, .slice qk T.ar.length dk] rfl rfl (by have h := hnews; rw [World.size_alloc] at h; exact h) hones (by omega) (by unfold maxLen; omega) (by omega) (by simp; omega) (w5.heap.size + 2) (by simp) ?_; intro g2 cap2 w6 hown6 hgr6 hat6 hlt6
                   have hMD6 : Hold (w2.heap.size + 1) #[.string (S sh.1), .int .i64 0, .slice p12 j c12] 24 w6 := (hgr6.block _ (by simp; omega) (fun e => HE4.out e.symm)).trans ((HMD5.out.alloc _).alloc _)
                   have m2 := hMD6.cell 2
                   have mf' := hMD6.frozen 2
                   simp only [List.getElem?_toArray, List.getElem?_cons_succ, List.getElem?_cons_zero] at m2
                   have HMD6 := hide hMD6; have HOWN6 := hide hown6; have HGR6 := hide hgr6; have HAT6 := hide hat6
                   clear hMD6 hown6 hgr6 hat6
                   go_frame)
                | fail)
              have hu := HU.out
              obtain ⟨hn1, hn2, hn3⟩ := grow_next HGT.out hu HSUM.out HQ.out
              have hsz6 : w5.heap.size + 2 ≤ w6.heap.size := by have := HGR6.out.size; simp at this; omega
              have hown6 : ∀ b, w2.heap.size + 2 ≤ b → b ≠ Lb ∧ b ≠ B ∧ b ≠ hB ∧ b ≠ fB ∧ b ≠ lB := fun b hb => ⟨by omega, by omega, by omega, by omega, by omega⟩
              have HRW6 : Hid (Row3 (w2.heap.size + 2) (w2.heap.size + 1) (w6.setCell ⟨w2.heap.size + 1, 2, none⟩ (.slice (some ⟨g2, 0, none⟩) (j + 1) cap2)) (.slice (some ⟨g2, 0, none⟩) (j + 1) cap2) (l ++ [T])) := by
                have hl := HLL.out
                have := Row3.push (base := w2.heap.size + 2) (bM := w2.heap.size + 1) (x := 0) (W0 := wr) (W := w5.alloc (.cells #[.string (S T.nm), .int .i64 T.n, .slice qk T.ar.length dk] 24)) (W1 := w6) (v := .slice p12 j c12) (l := l) (t := T) (ds := [.string (S T.nm), .int .i64 T.n, .slice qk T.ar.length dk]) (g := g2) (cap := cap2) (L := L) (by rw [HE1.out, hl]) HE2.out HE5.out ((HKP5.out.mono fun b hb => HWK.out b (by have := hb.1; omega) hb.2).trans (KP.alloc _ _ fun b hb => by have := hb.2; omega)) (TyIn.keep (KP.alloc _ _ fun b hb => hb.2) (fun b hb => ⟨hb.1, by simp; have := hb.2; omega⟩) _ _ HIN5.out) hsz (by omega) (fun r hr => (HRL.out r hr).2) (by rw [hl]; exact HOWN6.out) HGR6.out (HAT6.out.imp_right fun e => by simp; omega) HE4.out (.slice (some ⟨g2, 0, none⟩) (j + 1) cap2) 2 ⟨_, _, HMD6.out⟩
                rw [List.length_append, List.length_singleton, hl] at this
                exact hide this
              have HMM : Hid (Hold (w2.heap.size + 1) #[.string (S sh.1), .int .i64 0, .slice (some ⟨g2, 0, none⟩) (j + 1) cap2] 24 (w6.setCell ⟨w2.heap.size + 1, 2, none⟩ (.slice (some ⟨g2, 0, none⟩) (j + 1) cap2))) := by
                have := HMD6.out.set 2 (.slice (some ⟨g2, 0, none⟩) (j + 1) cap2)
                exact hide (by simpa using this)
              have hgk : ∀ b, b < w5.heap.size → (∀ r, (Value.slice p12 j c12).ownBlock = some r → b ≠ r) → b ≠ w2.heap.size + 1 → ((w6.setCell ⟨w2.heap.size + 1, 2, none⟩ (.slice (some ⟨g2, 0, none⟩) (j + 1) cap2))).heap[b]? = w5.heap[b]? := fun b hb h1 h2 =>
                (Below.heap_setCell _ _ _ b fun e => h2 e).trans ((HGR6.out.block b (by simp; omega) fun e => h1 b e.symm rfl).trans ((Below.heap_alloc _ _ _ (by simp; omega)).trans (Below.heap_alloc _ _ _ hb)))
              have hrne : ∀ b, b < w2.heap.size + 2 → ∀ r, (Value.slice p12 j c12).ownBlock = some r → b ≠ r := fun b hb r hr => by have := (HRL.out r hr).1; omega
              have HWM6 : Hid (WM D B hB fB lB v ts5 hp fc le (w6.setCell ⟨w2.heap.size + 1, 2, none⟩ (.slice (some ⟨g2, 0, none⟩) (j + 1) cap2))) := by
                have h1 := ((HWM5.out.alloc (.cells #[.string (S T.nm), .int .i64 T.n, .slice qk T.ar.length dk] 24)).alloc (.cells #[.string (S T.nm), .int .i64 T.n, .slice qk T.ar.length dk] 24)).grow HGR6.out (fun b hb => by
                  rcases HROW5.out.2 with ⟨e2, _⟩ | ⟨g', cap', cur', hv', _, hg', _⟩
                  · cases e2; cases hb
                  · cases hv'
                    cases hb
                    exact ⟨cur', 24, ((show Hold g' cur' 24 w5 from hg').alloc _).alloc _, by decide, by decide⟩)
                exact hide (h1.other HMD6.out (by decide) (by omega) _)
              have HLB6 : Hid (Hold Lb #[.int .i64 (rest : Nat)] 3 (w6.setCell ⟨w2.heap.size + 1, 2, none⟩ (.slice (some ⟨g2, 0, none⟩) (j + 1) cap2))) := hide ((hgk Lb (by omega) (hrne Lb (by omega)) (by omega)).trans HLB5.out)
              have HRR6 : Hid (Hold w.heap.size #[.string ⟨#[]⟩, .int .i64 0, .slice none 0 0] 24 (w6.setCell ⟨w2.heap.size + 1, 2, none⟩ (.slice (some ⟨g2, 0, none⟩) (j + 1) cap2))) := hide ((hgk w.heap.size (by omega) (hrne _ (by omega)) (by omega)).trans HRR5.out)
              have hfb6 : ((w6.setCell ⟨w2.heap.size + 1, 2, none⟩ (.slice (some ⟨g2, 0, none⟩) (j + 1) cap2))).heap[fB]? = w.heap[fB]? := (hgk fB (by omega) (hrne _ (by omega)) (by omega)).trans HFB5.out
              have hk56 : ∀ (N : Nat), N ≤ w2.heap.size → KP (fun b => b < N) w5 (w6.setCell ⟨w2.heap.size + 1, 2, none⟩ (.slice (some ⟨g2, 0, none⟩) (j + 1) cap2)) := fun N hN =>
                (((KP.alloc w5 (.cells #[.string (S T.nm), .int .i64 T.n, .slice qk T.ar.length dk] 24) fun b hb => by omega).trans (KP.alloc _ (.cells #[.string (S T.nm), .int .i64 T.n, .slice qk T.ar.length dk] 24) fun b hb => by simp; omega)).trans (KP.of_grown HGR6.out fun b hb => ⟨by simp; omega, fun e => hrne b (by omega) b e.symm rfl⟩)).trans (KP.setCell _ _ _ _ fun hb => by have hb' : w2.heap.size + 1 < N := hb; omega)
              have HKP6 : Hid (KP (fun b => Wk B hB fB lB v w b ∧ b ≠ Lb) w (w6.setCell ⟨w2.heap.size + 1, 2, none⟩ (.slice (some ⟨g2, 0, none⟩) (j + 1) cap2))) := hide ((HKP.out.trans (HKP5.out.mono fun b hb => ⟨⟨by have := hb.1.1; omega, hb.1.2⟩, hb.2⟩)).trans ((hk56 w.heap.size (by omega)).mono fun b hb => hb.1.1))
              have HK26 : Hid (KP (fun b => Wk B hB fB lB v w2 b ∧ b ≠ Lb) w2 (w6.setCell ⟨w2.heap.size + 1, 2, none⟩ (.slice (some ⟨g2, 0, none⟩) (j + 1) cap2))) := hide ((HK2'.out.trans (HKP5.out.mono fun b hb => ⟨⟨by have := hb.1.1; omega, hb.1.2⟩, hb.2⟩)).trans ((hk56 w2.heap.size (Nat.le_refl _)).mono fun b hb => hb.1.1))
              have hsz7 : w2.heap.size + 2 ≤ ((w6.setCell ⟨w2.heap.size + 1, 2, none⟩ (.slice (some ⟨g2, 0, none⟩) (j + 1) cap2))).heap.size := by simp; omega
              generalize (w6.setCell ⟨w2.heap.size + 1, 2, none⟩ (.slice (some ⟨g2, 0, none⟩) (j + 1) cap2)) = W7 at *
              go_roundg (nk - (j + 1))
              case measure => omega
              case rel =>
                refine ⟨j + 1, l ++ [T], _, ts5, by omega, rfl, by go_num, hn1, by rw [List.length_append, HLL.out]; rfl, hn2, by rw [← hn3]; exact HLB6.out, HMM.out, HRW6.out, HWM6.out, HFO5.out, HTL5.out, HKP6.out, HK26.out, HRR6.out, hfb6, hsz7⟩
            · have HGF : Hid (GrowQ fc ro lea (lv + 1) i left none) := hide (grow_fail HSC.out HGT.out HU.out HSUM.out HQ.out)
              have HRZ := hide (HRR5.out.alloc (.cells #[.string ⟨#[]⟩, .int .i64 0, .slice none 0 0] 24))
              have hf0 := HRZ.out.frozen 0
              have hf1 := HRZ.out.frozen 1
              have hf2 := HRZ.out.frozen 2
              have hr0 := HRZ.out.cell 0
              have hr1 := HRZ.out.cell 1
              have hr2 := HRZ.out.cell 2
              have hRl := HRZ.out.lt
              simp only [List.getElem?_toArray, List.getElem?_cons_succ, List.getElem?_cons_zero] at hr0 hr1 hr2
              clear hgown
              go_wp2_with fail
              have hro := hold3 HRZ.out (.string ⟨#[]⟩) (.int .i64 0) (.slice none 0 0)
              have k3 := kp3 (w5.alloc (.cells #[.string ⟨#[]⟩, .int .i64 0, .slice none 0 0] 24)) w.heap.size (.string ⟨#[]⟩) (.int .i64 0) (.slice none 0 0)
              have q0 := hro.cell 0
              have q1 := hro.cell 1
              have q2 := hro.cell 2
              simp only [List.getElem?_toArray, List.getElem?_cons_succ, List.getElem?_cons_zero] at q0 q1 q2
              have HM6 := hide ((HWM5.out.alloc (.cells #[.string ⟨#[]⟩, .int .i64 0, .slice none 0 0] 24)).set3 HRZ.out hRB (.string ⟨#[]⟩) (.int .i64 0) (.slice none 0 0))
              refine bodyPost_ret (v := .tuple #[.agg #[.string ⟨#[]⟩, .int .i64 0, .slice none 0 0], .bool false]) (by simp only [results, Tryd.results63]; go_simp) rfl ⟨none, HGF.out, ⟨ts5, HM6.out, HFO5.out, HTL5.out⟩, ?_, ?_, .inr ⟨rfl, rfl⟩⟩
              · exact ((HKP.out.trans (HKP5.out.mono fun b hb => ⟨⟨by have := hb.1.1; omega, hb.1.2⟩, hb.2⟩)).trans (KP.alloc _ _ fun b hb => by have := hb.1.1; omega)).trans (k3.mono fun b hb => by have := hb.1.1; omega)
              · exact ((k3.block fB (by omega)).trans (Below.heap_alloc _ _ _ (by omega))).trans HFB5.out
          · have h1 : sh.2.take j = sh.2 := List.take_of_length_le (by rw [HNK.out]; omega)
            have hii : ¬ (j : Int) < nk := by omega
            have hgq : GrowQ fc ro lea (lv + 1) i left (some (⟨sh.1, 0, l⟩, left - (1 + (l.map tsz).sum))) := grow_all HSC.out (by have := HGT.out; rw [show j = sh.2.length by have := HNK.out; omega] at this; exact this) HSUM.out
            obtain ⟨p12, c12, rfl, hsl⟩ := Row3.slice HRW.out
            have hm0 := hmd.cell 0
            have hm1 := hmd.cell 1
            have hm2 := hmd.cell 2
            have hf0 := hrr.frozen 0
            have hf1 := hrr.frozen 1
            have hf2 := hrr.frozen 2
            have hr0 := hrr.cell 0
            have hr1 := hrr.cell 1
            have hr2 := hrr.cell 2
            simp only [List.getElem?_toArray, List.getElem?_cons_succ, List.getElem?_cons_zero] at hm0 hm1 hm2 hr0 hr1 hr2
            have HGQ := hide hgq; have HSL := hide hsl
            clear hgt hll hsum hlb hmd hrw hwm hfo htl hkp hk2 hrr hfb hgq hsl h1
            go_wp2_with fail
            have hro := hold3 HRR.out (.string (S sh.1)) (.int .i64 0) (.slice p12 l.length c12)
            have q0 := hro.cell 0
            have q1 := hro.cell 1
            have q2 := hro.cell 2
            simp only [List.getElem?_toArray, List.getElem?_cons_succ, List.getElem?_cons_zero] at q0 q1 q2
            have k3 := kp3 wr w.heap.size (.string (S sh.1)) (.int .i64 0) (.slice p12 l.length c12)
            have hs3 := size3 wr w.heap.size (.string (S sh.1)) (.int .i64 0) (.slice p12 l.length c12)
            have HM6 := hide (HWM.out.set3 HRR.out hRB (.string (S sh.1)) (.int .i64 0) (.slice p12 l.length c12))
            generalize (((wr.setCell ⟨w.heap.size, 0, none⟩ (.string (S sh.1))).setCell ⟨w.heap.size, 1, none⟩ (.int .i64 0)).setCell ⟨w.heap.size, 2, none⟩ (.slice p12 l.length c12)) = W4 at *
            refine bodyPost_ret (v := .tuple #[.agg #[.string (S sh.1), .int .i64 0, .slice p12 l.length c12], .bool true]) (by simp only [results, Tryd.results63]; go_simp) rfl ⟨_, HGQ.out, ⟨ts, HM6.out, HFO.out, HTL.out⟩, ?_, ?_, .inl ⟨⟨sh.1, 0, l⟩, _, p12, c12, rfl, rfl, ?_, ?_⟩⟩
            · exact HKP.out.trans (k3.mono fun b hb => by have := hb.1.1; omega)
            · exact (k3.block fB (by omega)).trans HFBR.out
            · refine TyIn.keep (k3.mono fun b hb => ?_) (fun b hb => ?_) ⟨sh.1, 0, l⟩ _ ((TyIn_iff (New (w2.heap.size + 2) wr.heap.size) wr ⟨sh.1, 0, l⟩ _).2 ⟨p12, c12, rfl, by show sh.1.length ≤ _; omega, by show (-9223372036854775808 : Int) ≤ 0 ∧ (0 : Int) ≤ 9223372036854775807; omega, HSL.out, HRW.out.tm⟩)
              · have := hb.1; omega
              · have := hb.1; have := hb.2; exact ⟨by omega, by omega⟩
            · exact (k3.block Lb (by omega)).trans HLB.out
      · obtain ⟨hle1, hle2, hle3⟩ := hle i hin hnone
        obtain ⟨lvf, l1, l2⟩ := HM2.out.lea
        have hlk2 := (l1.alloc (.cells #[.string s10, .slice p10 n10 c10] 81)).run_look (P := Tryd.prog) (T := 56) (K := 3) (E := 3) Tryd.underlying56 Tryd.underlying3 (zero3 _) (ro i : Nat)
        rw [l2, hle1] at hlk2
        simp only [Option.map_some, Option.getD_some] at hlk2
        have hcall := hole_any (lea (ro i)) (w2.alloc (.cells #[.string s10, .slice p10 n10 c10] 81)) ⟨hle2, hle3⟩
        have hgq : GrowQ fc ro lea (lv + 1) i left (some (hole (lea (ro i)), left - 1)) := grow_hole hnone (by omega)
        have c3 := (HM2.out.alloc (.cells #[.string s10, .slice p10 n10 c10] 81)).cell.cell 3
        simp only [List.getElem?_toArray, List.getElem?_cons_succ, List.getElem?_cons_zero] at c3
        have hBw2 : B < w2.heap.size := by omega
        generalize hole (lea (ro i)) = te at *
        generalize lea (ro i) = le1 at *
        have HC := hide hcall; have HGQ := hide hgq
        have hV3s : (w2.alloc (.cells #[.string s10, .slice p10 n10 c10] 81)).heap.size = w2.heap.size + 1 := by simp
        have HVS3 := hide hV3s
        clear hcall hgq l1 l2 hV3s
        go_wp2_with fail
        refine HC.out.mono ?_
        rintro r w3 ⟨qk, dk, rfl, hb3, hin3⟩
        have hb23 : Below w2.heap.size w2 w3 := ((Below.refl _ w2).alloc (Nat.le_refl _) _).trans (hb3.mono (by simp))
        have HR3 := hide (HR2.out.below hb23 HR2.out.lt)
        have HL3 := hide (HL2.out.below hb23 HL2.out.lt)
        have HM3 := hide (HM2.out.below hb23)
        have HB23 := hide hb23
        have HIN3 := hide hin3
        have hf0 := HR3.out.frozen 0
        have hf1 := HR3.out.frozen 1
        have hf2 := HR3.out.frozen 2
        have hr0 := HR3.out.cell 0
        have hr1 := HR3.out.cell 1
        have hr2 := HR3.out.cell 2
        simp only [List.getElem?_toArray, List.getElem?_cons_succ, List.getElem?_cons_zero] at hr0 hr1 hr2
        clear hb3 hb23 hin3
        unfold cs3
        go_wp2_with fail
        have hro := hold3 HR3.out (.string (S te.nm)) (.int .i64 te.n) (.slice qk te.ar.length dk)
        have q0 := hro.cell 0
        have q1 := hro.cell 1
        have q2 := hro.cell 2
        simp only [List.getElem?_toArray, List.getElem?_cons_succ, List.getElem?_cons_zero] at q0 q1 q2
        have k3 := kp3 w3 w.heap.size (.string (S te.nm)) (.int .i64 te.n) (.slice qk te.ar.length dk)
        have hs3 := size3 w3 w.heap.size (.string (S te.nm)) (.int .i64 te.n) (.slice qk te.ar.length dk)
        have HM4 := hide (HM3.out.set3 HR3.out hRB (.string (S te.nm)) (.int .i64 te.n) (.slice qk te.ar.length dk))
        have hB23 := HB23.out.size
        have hLR : Lb ≠ w.heap.size := by omega
        generalize (((w3.setCell ⟨w.heap.size, 0, none⟩ (.string (S te.nm))).setCell ⟨w.heap.size, 1, none⟩ (.int .i64 te.n)).setCell ⟨w.heap.size, 2, none⟩ (.slice qk te.ar.length dk)) = W4 at *
        refine bodyPost_ret (v := .tuple #[.agg #[.string (S te.nm), .int .i64 te.n, .slice qk te.ar.length dk], .bool true]) (by simp only [results, Tryd.results63]; go_simp) rfl ⟨_, HGQ.out, ⟨ts2, HM4.out, HF2.out, HL2n.out⟩, ?_, ?_, .inl ⟨te, left - 1, qk, dk, rfl, rfl, ?_, ?_⟩⟩
        · exact (HKP2.out.trans (KP.of_below HB23.out fun b hb => by have := hb.1.1; omega)).trans (k3.mono fun b hb => by have := hb.1.1; omega)
        · exact ((k3.block fB (by omega)).trans (HB23.out.block fB (by omega))).trans HFB2.out
        · refine TyIn.keep (k3.mono fun b hb => ?_) (fun b hb => ?_) _ _ HIN3.out
          · have := hb.1; have := HVS3.out; omega
          · have := hb.1; have := hb.2; have := HVS3.out; exact ⟨by omega, by omega⟩
        · have h1 : Hold Lb #[.int .i64 ((left : Int) - 1)] 3 W4 := (k3.block Lb hLR).trans HL3.out
          rw [show ((left - 1 : Nat) : Int) = (left : Int) - 1 by omega]
          exact h1
end Go.Proofs.YteoflpalmckikaaDoor
