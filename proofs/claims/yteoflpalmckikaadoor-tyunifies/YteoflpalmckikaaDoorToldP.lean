/-
  THE WALK OF web.told.
-/
import Derived.Test.YteoflpalmckikaaDoorRowF
import Derived.Test.YteoflpalmckikaaDoorKeysP
namespace Go.Proofs.YteoflpalmckikaaDoor
open Go.RowKit
set_option linter.unusedVariables false
set_option linter.unusedSimpArgs false
def leaI (hp : Int → Option Nat) (ro : Nat → Nat) (ns : List Int) : Nat → Int := fun i => (leaF hp ro ns i).getD 0
theorem WM.av {D B hB fB lB : Nat} {v : Value} {ties : List Nat} {hp : Int → Option Nat} {fc : Nat → Option Shp} {le : Nat → Option Int} {w : World} (h : WM D B hB fB lB v ties hp fc le w) {X : Nat → Prop} (hX : ∀ b, X b → w.heap.size ≤ b) : Av X fB w := fun fv i s p n c g hm hx hg hz => by
  have := h.rows_lt hm hx hg
  have := hX _ hz
  omega
theorem intV_at {l : List Int} {i : Nat} {x : Int} (h : l[i]? = some x) : (intV l)[i]? = some (.int .i64 x) := by unfold intV; rw [List.getElem?_map, h]; rfl
theorem IL.slice {base : Nat} {v : Value} {l : List Int} {w : World} (h : IL base v l w) : ∃ p c, v = .slice p l.length c ∧ (0 < l.length → ∃ g, p = some ⟨g, 0, none⟩ ∧ base ≤ g ∧ g < w.heap.size) := by
  rcases h.2 with ⟨e2, e3⟩ | ⟨g, cap, cur, hv, hb, hg, r1, r2, r⟩
  · exact ⟨none, 0, by rw [e3]; exact e2, fun h => by omega⟩
  · exact ⟨_, _, hv, fun _ => ⟨g, rfl, hb, (Array.getElem?_eq_some_iff.1 hg).1⟩⟩
def ToldQ (B hB fB lB : Nat) (v : Value) (hp : Int → Option Nat) (fc : Nat → Option Shp) (ro : Nat → Nat) (w : World) (r : Ending) (w' : World) : Prop := KP (Wk B hB fB lB v w) w w' ∧ ∃ ns : List Int, ns.Pairwise (fun a b => a < b) ∧ (∀ m, m ∈ ns ↔ ∃ i, hp m = some i) ∧
  ((∃ (g : Int → Ty) (p : Option Addr) (c : Nat), r = .returned (.tuple #[.slice p (toldL g ns).length c, .bool true]) ∧ SlOK p (toldL g ns).length c ∧ RM 4 (New w.heap.size w'.heap.size) w' (FaIn (New w.heap.size w'.heap.size) w') p (toldL g ns) ∧ ∀ m i, hp m = some i → Gd fc ro (leaI hp ro ns) 60 i = some (g m) ∧ tsz (g m) ≤ 2000) ∨
   (r = .returned (.tuple #[.slice none 0 0, .bool false]) ∧ ∃ m i, hp m = some i ∧ ∀ T, Gd fc ro (leaI hp ro ns) 60 i = some T → ¬ tsz T ≤ 2000))
set_option maxHeartbeats 16000000 in
set_option maxRecDepth 100000 in
theorem told_any {n D B hB fB lB : Nat} {v : Value} {ties : List Nat} {hp : Int → Option Nat} {fc : Nat → Option Shp} {ro d : Nat → Nat} {w : World} {l : List Int} (hM : WM D B hB fB lB v ties hp fc (fun _ => none) w) (hF : Fo ties ro d) (hln : ties.length = n)
    (hsh : ∀ i s, fc (ro i) = some s → s.1.length ≤ 20 ∧ s.2.length ≤ 100000 ∧ ∀ j ∈ s.2, j < n) (hleaf : ∀ i, i < n → fc (ro i) = none → ∃ m j, hp m = some j ∧ ro j = ro i) (hspot : ∀ m i, hp m = some i → i < n ∧ 0 ≤ m ∧ m ≤ 9223372036854775807)
    (hl1 : l.Nodup) (hl2 : ∀ m, m ∈ l ↔ ∃ i, hp m = some i) (hl3 : l.length ≤ n) :
    Calls Tryd.prog 45 #[.pointer (some ⟨B, 0, none⟩)] w (ToldQ B hB fB lB v hp fc ro w) := by
  have hn : n ≤ 100000 := by rw [← hln]; exact hM.few
  have hc1 := hM.cell.cell 1
  simp only [List.getElem?_toArray, List.getElem?_cons_succ, List.getElem?_cons_zero] at hc1
  obtain ⟨mB, mh, mf, ml⟩ := hM.maps_lt
  have hown : ∀ g, v.ownBlock = some g → g < w.heap.size := fun g hg => (row_own hM.row hg).2
  have hsort := sorted_any (w := w.alloc (.cells #[.map (some hB)] 56)) (b := hB) (Bx := w.heap.size) (hM.hol.alloc _) (Hold.new w _ 56) (fun m u hu => by
    unfold natM at hu
    cases hh : hp m with
    | none => rw [hh] at hu; cases hu
    | some i =>
      rw [hh] at hu
      cases hu
      obtain ⟨h1, h2, h3⟩ := hspot m i hh
      exact ⟨by simp [Lit.wf, IntKind.min, IntKind.max, IntKind.signed, IntKind.bits]; omega, _, rfl, by simp [Lit.wf, IntKind.min, IntKind.max, IntKind.signed, IntKind.bits]; omega⟩) l hl1 (fun m => by
    rw [hl2 m]
    unfold natM
    rw [Option.isSome_map, Option.isSome_iff_exists]) (by omega)
  have HM := hide hM; have HF := hide hF; have HLN := hide hln; have HSO := hide hsort; have HL2 := hide hl2
  clear hM hF hln hsort
  go_enter Tryd.func45, Tryd.ntmps45
  go_wp2_with fail
  refine (keys_any (some hB) w).mono ?_
  rintro r w' ⟨rfl, rfl⟩
  go_wp2_with fail
  refine HSO.out.mono ?_
  rintro r w2 ⟨vn, ns, rfl, hil, hpw, hmem, hlen, hb2⟩
  obtain ⟨pn, cn, rfl, hgn⟩ := hil.slice
  have hb02 : Below w.heap.size w w2 := ((Below.refl _ w).alloc (Nat.le_refl _) _).trans (hb2.mono (by simp))
  have hsz2 : w.heap.size + 1 ≤ w2.heap.size := by have := hb2.size; simp at this; omega
  have HB02 := hide hb02; have HIL := hide hil; have HPW := hide hpw; have HGN := hide hgn
  have HMEM : Hid (∀ m, m ∈ ns ↔ ∃ i, hp m = some i) := hide fun m => (hmem m).trans (HL2.out m)
  have HM2 := hide (HM.out.below hb02)
  have hns : ns.length ≤ 100000 := by omega
  clear hb2 hil hpw hmem hb02 hgn
  go_wp2_with fail
  generalize hnk : ns.length = nk at *
  have HNK := hide hnk
  clear hnk
  go_loopg [24] nk (fun k s24 wr => ∃ (j : Nat) (ts : List Nat), j ≤ nk ∧ k = nk - j ∧ s24 = .int .i64 j ∧ WM D B hB fB lB v ts hp fc (leaF hp ro (ns.take j)) wr ∧ Fo ts ro d ∧ ts.length = n ∧ KP (Wk B hB fB lB v w2) w2 wr)
  case atStart => exact ⟨0, ties, Nat.zero_le _, by omega, rfl, HM2.out, HF.out, HLN.out, KP.refl _ _⟩
  case round =>
    obtain ⟨j, ts, hj1, rfl, rfl, hwm, hfo, htl, hkp⟩ := hrel
    have HWM := hide hwm; have HFO := hide hfo; have HTL := hide htl; have HKP := hide hkp
    by_cases hlt : j < nk
    · have hjl : j < ns.length := by rw [HNK.out]; exact hlt
      obtain ⟨gn, rfl, hgb, hgl⟩ := HGN.out (by omega)
      have hgk : Wk B hB fB lB v w2 gn := ⟨hgl, by simp at hgb; omega, by simp at hgb; omega, by simp at hgb; omega, by simp at hgb; omega, fun e => by have := hown gn e.symm; simp at hgb; omega⟩
      have hu := List.getElem?_eq_getElem hjl
      obtain ⟨at0, hat0⟩ := (HMEM.out _).1 (List.getElem_mem hjl)
      have htk : ns.take (j + 1) = ns.take j ++ [ns[j]] := by rw [List.take_add_one, hu]; rfl
      generalize ns[j] = m at *
      have ca : wr.cell? ⟨gn, j, none⟩ = some (.int .i64 m) := (hkp.cell hgk j).trans (row_cell (by have h := HIL.out; unfold IL at h; rw [HNK.out] at h; exact h) (intV_at hu))
      have hcB1 := hwm.cell.cell 1
      simp only [List.getElem?_toArray, List.getElem?_cons_succ, List.getElem?_cons_zero] at hcB1
      obtain ⟨hs1, hs2, hs3⟩ := hspot m at0 hat0
      have hlkh := hwm.hol.run_look (P := Tryd.prog) (T := 56) (K := 3) (E := 3) Tryd.underlying56 Tryd.underlying3 (zero3 _) m
      have hnm : (natM hp m).getD (.int .i64 0) = .int .i64 (at0 : Nat) := by unfold natM; rw [hat0]; rfl
      rw [hnm] at hlkh
      have ht := teller_any hwm hfo (i := at0) (by omega)
      have HT := hide ht
      have HU := hide hu; have HTK := hide htk; have HGK := hide hgk; have HAT0 := hide hat0
      have hii : (j : Int) < nk := by omega
      clear hwm hfo htl hkp ht hu htk hgk hat0 hnm
      go_wp2_with fail
      refine HT.out.mono ?_
      rintro r w4 ⟨rfl, ts4, hm4, hf4, hl4, hk4⟩
      have HM4 := hide hm4; have HF4 := hide hf4
      have HL4n : Hid (ts4.length = n) := hide (by rw [hl4]; exact HTL.out)
      have HKP4 : Hid (KP (Wk B hB fB lB v w2) w2 w4) := hide (HKP.out.trans (hk4.mono fun b hb => ⟨Nat.lt_of_lt_of_le hb.1 HKP.out.size, hb.2.2.2.2.2⟩))
      have hc3 := hm4.cell.cell 3
      simp only [List.getElem?_toArray, List.getElem?_cons_succ, List.getElem?_cons_zero] at hc3
      obtain ⟨lvf, l1, l2⟩ := hm4.lea
      have hlk2 := l1.run_look_ok (P := Tryd.prog) (T := 56) (K := 3) (E := 3) Tryd.underlying56 Tryd.underlying3 (zero3 _) (ro at0 : Nat)
      rw [l2] at hlk2
      clear hm4 hf4 hl4 hk4 hlkh
      cases hlf : leaF hp ro (ns.take j) (ro at0) with
      | some x =>
        have hnew := leaF_old HAT0.out hlf
        rw [← HTK.out] at hnew
        rw [hlf] at hlk2
        simp only [Option.map_some, Option.getD_some, Option.isSome_some] at hlk2
        have HNEW := hide hnew
        clear hnew l1 l2 hlf
        go_wp2_with fail
        go_roundg (nk - (j + 1))
        case measure => omega
        case rel => exact ⟨j + 1, ts4, by omega, rfl, by go_num, by rw [HNEW.out]; exact HM4.out, HF4.out, HL4n.out, HKP4.out⟩
      | none =>
        have hnew := leaF_new HAT0.out hlf
        rw [← HTK.out] at hnew
        rw [hlf] at hlk2
        simp only [Option.map_none, Option.getD_none, Option.isSome_none] at hlk2
        have HNEW := hide hnew
        have HL1 := hide l1; have HL2 := hide l2
        clear hnew l1 l2 hlf
        go_wp2_with (first
          | (at_mapUpdate; refine wpList_store _ rfl _ _ _ 56 rfl 3 3 Tryd.underlying56 Tryd.underlying3 lB lvf rfl HL1.out (ro at0 : Nat) (.int .i64 m) rfl rfl ?_; intro w5 hm5 hst5
             have H5 := WM.low HM4.out HL1.out HL2.out hst5 hm5
             have HM5 := hide H5.1
             have HKP5 : Hid (KP (Wk B hB fB lB v w2) w2 w5) := hide (HKP4.out.trans (H5.2.mono fun b hb => .inl (hb.step HKP4.out.size (VB.refl _ _))))
             clear H5 hm5 hst5
             go_frame)
          | fail)
        go_roundg (nk - (j + 1))
        case measure => omega
        case rel => exact ⟨j + 1, ts4, by omega, rfl, by go_num, by rw [HNEW.out]; exact HM5.out, HF4.out, HL4n.out, HKP5.out⟩
    · have hii : ¬ (j : Int) < nk := by omega
      have hjn : j = nk := by omega
      subst hjn
      have hfull : ns.take j = ns := List.take_of_length_le (by rw [HNK.out]; omega)
      rw [hfull] at hwm HWM
      clear hwm hfo htl hkp
      go_wp2_with fail
      generalize hgT : (fun m => match hp m with | some i => (Gd fc ro (leaI hp ro ns) 60 i).getD (hole 0) | none => hole 0 : Int → Ty) = gT
      have hgT' : ∀ m i T, hp m = some i → Gd fc ro (leaI hp ro ns) 60 i = some T → gT m = T := fun m i T h1 h2 => by
        rw [← hgT]
        simp only [h1, h2, Option.getD_some]
      have hle : ∀ i, i < n → fc (ro i) = none → leaF hp ro ns (ro i) = some (leaI hp ro ns (ro i)) ∧ -9223372036854775808 ≤ leaI hp ro ns (ro i) ∧ leaI hp ro ns (ro i) ≤ 9223372036854775807 := fun i hi hno => by
        obtain ⟨m, q, hm, hq⟩ := hleaf i hi hno
        obtain ⟨k, h1, _, h3, q', h4, _⟩ := leaF_low (ro := ro) (i := q) HPW.out hm ((HMEM.out m).2 ⟨q, hm⟩)
        rw [hq] at h1
        have h5 : leaI hp ro ns (ro i) = k := by unfold leaI; rw [h1]; rfl
        obtain ⟨_, h6, h7⟩ := hspot k q' h4
        rw [h5]
        exact ⟨h1, by omega, h7⟩
      have HLE := hide hle
      have HGT' := hide hgT'
      clear hgT hle hgT'
      obtain ⟨i0, hi, hz0, hz1, hz2⟩ := info_parts info34
      go_loopg [4, 56] j (fun k s4 s56 wr => ∃ (q : Nat) (ts : List Nat), q ≤ j ∧ k = j - q ∧ s56 = .int .i64 q ∧ Row4 w2.heap.size wr s4 (toldL gT (ns.take q)) ∧ WM D B hB fB lB v ts hp fc (leaF hp ro ns) wr ∧ Fo ts ro d ∧ ts.length = n ∧ KP (Wk B hB fB lB v w2) w2 wr ∧ ∀ m i, hp m = some i → m ∈ ns.take q → Gd fc ro (leaI hp ro ns) 60 i = some (gT m) ∧ tsz (gT m) ≤ 2000)
      case atStart => exact ⟨0, ts, Nat.zero_le _, by omega, rfl, Row4.nil _ _, HWM.out, HFO.out, HTL.out, HKP.out, fun m i _ hm => by simp at hm⟩
      case round =>
        obtain ⟨q, ts1, hq1, rfl, rfl, hrw, hwm, hfo, htl, hkp, hgg⟩ := hrel
        have HRW := hide hrw; have HWM1 := hide hwm; have HFO1 := hide hfo; have HTL1 := hide htl; have HKP1 := hide hkp; have HGG := hide hgg
        obtain ⟨p4, c4, rfl, hsl4⟩ := hrw.slice
        have hfll : (toldL gT (ns.take q)).length ≤ 100000 := by have := toldL_len gT (ns.take q); have := List.length_take_le q ns; omega
        generalize hfl : toldL gT (ns.take q) = fl at *
        have HFL := hide hfl
        clear hfl
        by_cases hlt : q < j
        · have hjl : q < ns.length := by rw [HNK.out]; exact hlt
          obtain ⟨gn, rfl, hgb, hgl⟩ := HGN.out (by omega)
          have hgk : Wk B hB fB lB v w2 gn := ⟨hgl, by simp at hgb; omega, by simp at hgb; omega, by simp at hgb; omega, by simp at hgb; omega, fun e => by have := hown gn e.symm; simp at hgb; omega⟩
          have hu := List.getElem?_eq_getElem hjl
          obtain ⟨at0, hat0⟩ := (HMEM.out _).1 (List.getElem_mem hjl)
          have htk : ns.take (q + 1) = ns.take q ++ [ns[q]] := by rw [List.take_add_one, hu]; rfl
          generalize ns[q] = m at *
          have ca : (wr.alloc (.cells #[.int .i64 2000] 3)).cell? ⟨gn, q, none⟩ = some (.int .i64 m) := (KP.alloc (P := fun b => b < wr.heap.size) wr _ (fun b hb => hb)).cell (Nat.lt_of_lt_of_le hgl hkp.size) q |>.trans ((hkp.cell hgk q).trans (row_cell (by have h := HIL.out; unfold IL at h; rw [HNK.out] at h; exact h) (intV_at hu)))
          have ca0 : wr.cell? ⟨gn, q, none⟩ = some (.int .i64 m) := ((hkp.cell hgk q).trans (row_cell (by have h := HIL.out; unfold IL at h; rw [HNK.out] at h; exact h) (intV_at hu)))
          have HWA := hide (hwm.alloc (.cells #[.int .i64 2000] 3))
          have hcB1 := HWA.out.cell.cell 1
          simp only [List.getElem?_toArray, List.getElem?_cons_succ, List.getElem?_cons_zero] at hcB1
          obtain ⟨hs1, hs2, hs3⟩ := hspot m at0 hat0
          have hlkh := HWA.out.hol.run_look (P := Tryd.prog) (T := 56) (K := 3) (E := 3) Tryd.underlying56 Tryd.underlying3 (zero3 _) m
          have hnm : (natM hp m).getD (.int .i64 0) = .int .i64 (at0 : Nat) := by unfold natM; rw [hat0]; rfl
          rw [hnm] at hlkh
          have hLB : Hold wr.heap.size #[.int .i64 ((2000 : Nat) : Int)] 3 (wr.alloc (.cells #[.int .i64 2000] 3)) := Hold.new wr _ 3
          have hwsz : w2.heap.size ≤ wr.heap.size := hkp.size
          have hcall := grow_any (n := n) (D := D) (B := B) (hB := hB) (fB := fB) (lB := lB) (hp := hp) (fc := fc) (le := leaF hp ro ns) (ro := ro) (d := d) (lea := leaI hp ro ns) hsh HLE.out 60 ts1 (wr.alloc (.cells #[.int .i64 2000] 3)) at0 2000 wr.heap.size v htl HWA.out hfo hs1 hLB (by omega) (fun e => by have := hown _ e.symm; omega) ((hwm.av (X := fun b => b = wr.heap.size) (fun b hb => Nat.le_of_eq hb.symm)).keep (Below.heap_alloc _ _ _ hwm.maps_lt.2.2.1)) (by omega)
          have HC := hide hcall
          have HU := hide hu; have HTK := hide htk; have HGK := hide hgk; have HAT0 := hide hat0
          have hii : (q : Int) < j := by omega
          clear hrw hwm hfo htl hkp hgg hu htk hgk hat0 hnm hcall hLB
          go_wp2_with fail
          refine HC.out.mono ?_
          rintro r w5 ⟨res, hq, ⟨ts5, hwm5, hfo5, htl5⟩, hkp5, hfb5, hres⟩
          have hszA : (wr.alloc (.cells #[.int .i64 2000] 3)).heap.size = wr.heap.size + 1 := by simp
          have hsz5 : wr.heap.size + 1 ≤ w5.heap.size := by rw [← hszA]; exact hkp5.size
          have hkr5 : KP (fun b => Wk B hB fB lB v wr b) wr w5 := (KP.alloc wr _ fun b hb => hb.1).trans (hkp5.mono fun b hb => ⟨⟨by rw [hszA]; have := hb.1; omega, hb.2⟩, by have := hb.1; omega⟩)
          have hWkn : ∀ b, w.heap.size ≤ b → b < wr.heap.size → Wk B hB fB lB v wr b := fun b h1 h2 => ⟨h2, by omega, by omega, by omega, by omega, fun e => by have := hown b e.symm; omega⟩
          have HKP5 : Hid (KP (Wk B hB fB lB v w2) w2 w5) := hide (HKP1.out.trans (hkr5.mono fun b hb => ⟨Nat.lt_of_lt_of_le hb.1 HKP1.out.size, hb.2⟩))
          have HKR5 : Hid (KP (fun b => w2.heap.size ≤ b ∧ b < wr.heap.size) wr w5) := hide (hkr5.mono fun b hb => hWkn b (by have := hb.1; omega) hb.2)
          have HWM5 := hide hwm5; have HFO5 := hide hfo5; have HTL5 := hide htl5; have HQ := hide hq
          clear hwm5 hfo5 htl5 hq hkp5 hfb5 hkr5 hWkn
          rcases hres with ⟨T, rest, qk, dk, rfl, rfl, hin5, hlb5⟩ | ⟨rfl, rfl⟩
          · have HIN5 := hide hin5
            clear hin5 hlb5
            have hX : Hold w5.heap.size #[.string (S T.nm), .int .i64 T.n, .slice qk T.ar.length dk] 24 (w5.alloc (.cells #[.string (S T.nm), .int .i64 T.n, .slice qk T.ar.length dk] 24)) := Hold.new w5 _ 24
            have x0 := hX.cell 0; have x1 := hX.cell 1; have x2 := hX.cell 2
            simp only [List.getElem?_toArray, List.getElem?_cons_succ, List.getElem?_cons_zero] at x0 x1 x2
            have HX := hide hX
            have hih := isHole_any T (w5.alloc (.cells #[.string (S T.nm), .int .i64 T.n, .slice qk T.ar.length dk] 24)) qk dk
            have HIH := hide hih
            clear hih hX
            unfold cs3 at *
            go_wp2_with fail
            obtain ⟨hgd, htsz, _⟩ := HQ.out
            have hgTm : gT m = T := HGT'.out m at0 T HAT0.out hgd
            have hg2 : ∀ m' i, hp m' = some i → m' ∈ ns.take (q + 1) → Gd fc ro (leaI hp ro ns) 60 i = some (gT m') ∧ tsz (gT m') ≤ 2000 := fun m' i hm' hin => by
              rw [HTK.out] at hin
              rcases List.mem_append.1 hin with h1 | h1
              · exact HGG.out m' i hm' h1
              · obtain rfl := List.mem_singleton.1 h1
                rw [HAT0.out] at hm'
                cases hm'
                rw [hgTm]
                exact ⟨hgd, htsz⟩
            have htl2 := toldL_snoc gT (ns.take q) m
            rw [HFL.out, hgTm] at htl2
            have HG2 := hide hg2
            have hrlL : ∀ r, (Value.slice p4 fl.length c4).ownBlock = some r → w2.heap.size ≤ r ∧ r < wr.heap.size := fun r hr => by
              obtain ⟨L, e1, e2, e3, e5⟩ := HRW.out
              exact row_own e3 hr
            have HRL := hide hrlL
            have hb55 : ∀ (W6 : World), Below (w5.alloc (.cells #[.string (S T.nm), .int .i64 T.n, .slice qk T.ar.length dk] 24)).heap.size (w5.alloc (.cells #[.string (S T.nm), .int .i64 T.n, .slice qk T.ar.length dk] 24)) W6 → KP (fun b => b < w5.heap.size) w5 W6 ∧ w5.heap.size + 1 ≤ W6.heap.size := fun W6 hb6 => ⟨(KP.alloc w5 _ fun b hb => hb).trans (KP.of_below hb6 fun b hb => by have hb' : b < w5.heap.size := hb; simp; omega), by have := hb6.size; simp at this; omega⟩
            obtain ⟨L, e1, e2, e3, e5⟩ := HRW.out
            have HE1 := hide e1; have HE2 := hide e2; have HE3 := hide e3; have HE5 := hide e5
            clear e1 e2 e3 e5 hg2 hrlL hgd
            cases he : T.nm.isEmpty with
            | true =>
              rw [he] at HIH htl2
              refine HIH.out.mono ?_
              rintro r w6 ⟨rfl, hb6⟩
              obtain ⟨hk56, hs56⟩ := hb55 w6 hb6
              have hx6 := HX.out.below hb6 HX.out.lt
              have z0 := hx6.cell 0; have z1 := hx6.cell 1; have z2 := hx6.cell 2
              simp only [List.getElem?_toArray, List.getElem?_cons_succ, List.getElem?_cons_zero] at z0 z1 z2
              have HX6 := hide hx6
              have HK56 := hide hk56
              have HKR6 : Hid (KP (fun b => w2.heap.size ≤ b ∧ b < wr.heap.size) wr w6) := hide (HKR5.out.trans (hk56.mono fun b hb => by have := hb.2; omega))
              have HWM6 := hide ((HWM5.out.alloc (.cells #[.string (S T.nm), .int .i64 T.n, .slice qk T.ar.length dk] 24)).below hb6)
              have HROW6 : Hid (w6.ownsRow w2.heap.size 34 4 (.slice p4 fl.length c4) fl.length L.flatten) := hide (row_keep HE3.out fun g hg hl => HKR6.out.block g ⟨(HRL.out g hg).1, hl⟩)
              clear hx6 hk56
              by_cases hTm : T.n = m
              · have hne : (T.n != m) = false := by simp [hTm]
                rw [if_pos ⟨rfl, hTm⟩, List.append_nil] at htl2
                have HTL2 := hide htl2
                clear htl2 hb6 hTm
                go_wp2_with fail
                go_roundg (j - (q + 1))
                case measure => omega
                case rel => exact ⟨q + 1, ts5, by omega, rfl, by go_num, by rw [HTK.out, HTL2.out]; exact HRW.out.keep HKR6.out, HWM6.out, HFO5.out, HTL5.out, HKP5.out.trans (HK56.out.mono fun b hb => Nat.lt_of_lt_of_le hb.1 HKP5.out.size), HG2.out⟩
              · have hne : (T.n != m) = true := by simp [hTm]
                rw [if_neg (fun h => hTm h.2)] at htl2
                have HTL2 := hide htl2
                clear htl2 hb6 hTm
                have hnews := cells_new w6 [.int .i64 m, .string (S T.nm), .int .i64 T.n, .slice qk T.ar.length dk] 34
                have hones : ∀ u ∈ ([.int .i64 m, .string (S T.nm), .int .i64 T.n, .slice qk T.ar.length dk] : List Value), u.oneCell' = true := by simp [Value.oneCell']
                go_wp2_with (first
                  | (at_builtin; refine wpList_append_lies _ rfl _ _ 32 rfl w2.heap.size 34 i0 _ 4 56 Tryd.underlying32 hi hz0 hz1 hz2 rfl (by omega) (.slice p4 fl.length c4) fl.length L.flatten rfl (HROW6.out.alloc _) ⟨w6.heap.size, 0, none⟩ 1 1 [.int .i64 m, .string (S T.nm), .int .i64 T.n, .slice qk T.ar.length dk] rfl rfl hnews hones (by omega) (by unfold maxLen; omega) (by omega) (by simp; omega) (w6.heap.size + 1) (by simp) ?_; intro g2 cap2 w7 hown7 hgr7 hat7 hlt7
                     have HOWN7 := hide hown7; have HGR7 := hide hgr7; have HAT7 := hide hat7
                     clear hown7 hgr7 hat7
                     go_frame)
                  | fail)
                have hsz7 : w6.heap.size + 1 ≤ w7.heap.size := by have := HGR7.out.size; simp at this; omega
                have hrow4 : Row4 w2.heap.size w7 (.slice (some ⟨g2, 0, none⟩) (fl.length + 1) cap2) (fl ++ [(m, T)]) := by
                  have := Row4.push (base := w2.heap.size) (W0 := wr) (W := w6) (W1 := w7) (v := .slice p4 fl.length c4) (l := fl) (t := (m, T)) (ds := [.int .i64 m, .string (S T.nm), .int .i64 T.n, .slice qk T.ar.length dk]) (g := g2) (cap := cap2) (L := L) HE1.out HE2.out HE5.out (HKR6.out.mono fun b hb => hb) ⟨_, rfl, ⟨by omega, hs3⟩, TyIn.keep (HK56.out.mono fun b hb => hb.2) (fun b hb => ⟨by have := hb.1; omega, by have := hb.2; omega⟩) _ _ HIN5.out⟩ hwsz (fun r hr => (HRL.out r hr).2) HOWN7.out HGR7.out HAT7.out
                  rw [List.length_append, List.length_singleton] at this
                  exact this
                have hwm7 : WM D B hB fB lB v ts5 hp fc (leaF hp ro ns) w7 := (HWM6.out.alloc (.cells #[.int .i64 m, .string (S T.nm), .int .i64 T.n, .slice qk T.ar.length dk] 34)).grow HGR7.out (fun b hb => by
                  rcases HROW6.out.2 with ⟨e2, _⟩ | ⟨g', cap', cur', hv', _, hg', _⟩
                  · rw [e2] at hb; cases hb
                  · cases hv'
                    cases hb
                    exact ⟨cur', 34, (show Hold g' cur' 34 w6 from hg').alloc _, by decide, by decide⟩)
                have hkp7 : KP (Wk B hB fB lB v w2) w2 w7 := (HKP5.out.trans (HK56.out.mono fun b hb => Nat.lt_of_lt_of_le hb.1 HKP5.out.size)).trans ((KP.alloc w6 (.cells #[.int .i64 m, .string (S T.nm), .int .i64 T.n, .slice qk T.ar.length dk] 34) fun b hb => by have := hb.1; omega).trans (KP.of_grown HGR7.out fun b hb => ⟨by have := hb.1; simp; omega, fun e => by have := (HRL.out b e.symm).1; have := hb.1; omega⟩))
                go_roundg (j - (q + 1))
                case measure => omega
                case rel => exact ⟨q + 1, ts5, by omega, rfl, by go_num, by rw [HTK.out, HTL2.out]; exact hrow4, hwm7, HFO5.out, HTL5.out, hkp7, HG2.out⟩

            | false =>
              rw [he] at HIH htl2
              refine HIH.out.mono ?_
              rintro r w6 ⟨rfl, hb6⟩
              obtain ⟨hk56, hs56⟩ := hb55 w6 hb6
              have hx6 := HX.out.below hb6 HX.out.lt
              have z0 := hx6.cell 0; have z1 := hx6.cell 1; have z2 := hx6.cell 2
              simp only [List.getElem?_toArray, List.getElem?_cons_succ, List.getElem?_cons_zero] at z0 z1 z2
              have HX6 := hide hx6
              have HK56 := hide hk56
              have HKR6 : Hid (KP (fun b => w2.heap.size ≤ b ∧ b < wr.heap.size) wr w6) := hide (HKR5.out.trans (hk56.mono fun b hb => by have := hb.2; omega))
              have HWM6 := hide ((HWM5.out.alloc (.cells #[.string (S T.nm), .int .i64 T.n, .slice qk T.ar.length dk] 24)).below hb6)
              have HROW6 : Hid (w6.ownsRow w2.heap.size 34 4 (.slice p4 fl.length c4) fl.length L.flatten) := hide (row_keep HE3.out fun g hg hl => HKR6.out.block g ⟨(HRL.out g hg).1, hl⟩)
              clear hx6 hk56
              rw [if_neg (fun h => by cases h.1)] at htl2
              have HTL2 := hide htl2
              clear htl2 hb6
              have hnews := cells_new w6 [.int .i64 m, .string (S T.nm), .int .i64 T.n, .slice qk T.ar.length dk] 34
              have hones : ∀ u ∈ ([.int .i64 m, .string (S T.nm), .int .i64 T.n, .slice qk T.ar.length dk] : List Value), u.oneCell' = true := by simp [Value.oneCell']
              go_wp2_with (first
                | (at_builtin; refine wpList_append_lies _ rfl _ _ 32 rfl w2.heap.size 34 i0 _ 4 56 Tryd.underlying32 hi hz0 hz1 hz2 rfl (by omega) (.slice p4 fl.length c4) fl.length L.flatten rfl (HROW6.out.alloc _) ⟨w6.heap.size, 0, none⟩ 1 1 [.int .i64 m, .string (S T.nm), .int .i64 T.n, .slice qk T.ar.length dk] rfl rfl hnews hones (by omega) (by unfold maxLen; omega) (by omega) (by simp; omega) (w6.heap.size + 1) (by simp) ?_; intro g2 cap2 w7 hown7 hgr7 hat7 hlt7
                   have HOWN7 := hide hown7; have HGR7 := hide hgr7; have HAT7 := hide hat7
                   clear hown7 hgr7 hat7
                   go_frame)
                | fail)
              have hsz7 : w6.heap.size + 1 ≤ w7.heap.size := by have := HGR7.out.size; simp at this; omega
              have hrow4 : Row4 w2.heap.size w7 (.slice (some ⟨g2, 0, none⟩) (fl.length + 1) cap2) (fl ++ [(m, T)]) := by
                have := Row4.push (base := w2.heap.size) (W0 := wr) (W := w6) (W1 := w7) (v := .slice p4 fl.length c4) (l := fl) (t := (m, T)) (ds := [.int .i64 m, .string (S T.nm), .int .i64 T.n, .slice qk T.ar.length dk]) (g := g2) (cap := cap2) (L := L) HE1.out HE2.out HE5.out (HKR6.out.mono fun b hb => hb) ⟨_, rfl, ⟨by omega, hs3⟩, TyIn.keep (HK56.out.mono fun b hb => hb.2) (fun b hb => ⟨by have := hb.1; omega, by have := hb.2; omega⟩) _ _ HIN5.out⟩ hwsz (fun r hr => (HRL.out r hr).2) HOWN7.out HGR7.out HAT7.out
                rw [List.length_append, List.length_singleton] at this
                exact this
              have hwm7 : WM D B hB fB lB v ts5 hp fc (leaF hp ro ns) w7 := (HWM6.out.alloc (.cells #[.int .i64 m, .string (S T.nm), .int .i64 T.n, .slice qk T.ar.length dk] 34)).grow HGR7.out (fun b hb => by
                rcases HROW6.out.2 with ⟨e2, _⟩ | ⟨g', cap', cur', hv', _, hg', _⟩
                · rw [e2] at hb; cases hb
                · cases hv'
                  cases hb
                  exact ⟨cur', 34, (show Hold g' cur' 34 w6 from hg').alloc _, by decide, by decide⟩)
              have hkp7 : KP (Wk B hB fB lB v w2) w2 w7 := (HKP5.out.trans (HK56.out.mono fun b hb => Nat.lt_of_lt_of_le hb.1 HKP5.out.size)).trans ((KP.alloc w6 (.cells #[.int .i64 m, .string (S T.nm), .int .i64 T.n, .slice qk T.ar.length dk] 34) fun b hb => by have := hb.1; omega).trans (KP.of_grown HGR7.out fun b hb => ⟨by have := hb.1; simp; omega, fun e => by have := (HRL.out b e.symm).1; have := hb.1; omega⟩))
              go_roundg (j - (q + 1))
              case measure => omega
              case rel => exact ⟨q + 1, ts5, by omega, rfl, by go_num, by rw [HTK.out, HTL2.out]; exact hrow4, hwm7, HFO5.out, HTL5.out, hkp7, HG2.out⟩

          · go_wp2_with fail
            refine bodyPost_ret (v := .tuple #[.slice none 0 0, .bool false]) (by simp only [results, Tryd.results45]; go_simp) rfl ⟨?_, ns, HPW.out, HMEM.out, .inr ⟨rfl, m, at0, HAT0.out, fun T hT => HQ.out T hT⟩⟩
            exact ((KP.of_below HB02.out fun b hb => hb.1).trans (HKP5.out.mono fun b hb => ⟨by have := hb.1; omega, hb.2⟩)).trans (KP.alloc _ _ fun b hb => by have := hb.1; omega)
        · have hii : ¬ (q : Int) < j := by omega
          have hqn : q = j := by omega
          subst hqn
          clear hrw hwm hfo htl hkp hgg
          go_wp2_with fail
          have hfull : ns.take q = ns := List.take_of_length_le (by rw [HNK.out]; exact Nat.le_refl _)
          have hflq := HFL.out
          rw [hfull] at hflq
          subst hflq
          refine bodyPost_ret (v := .tuple #[.slice p4 (toldL gT ns).length c4, .bool true]) (by simp only [results, Tryd.results45]; go_simp) rfl ⟨(KP.of_below HB02.out fun b hb => hb.1).trans (HKP1.out.mono fun b hb => ⟨by have := hb.1; omega, hb.2⟩), ns, HPW.out, HMEM.out, .inl ⟨gT, p4, c4, rfl, hsl4, ?_, ?_⟩⟩
          · have hm : ∀ b, New w2.heap.size wr.heap.size b → New w.heap.size wr.heap.size b := fun b hb => ⟨by have := hb.1; omega, hb.2⟩
            exact RM.keep (KP.refl _ _) hm (fun t ds h => FaIn.keep (KP.refl _ _) hm t ds h) HRW.out.rm
          · exact fun m i hm => HGG.out m i hm (by rw [hfull]; exact (HMEM.out m).2 ⟨i, hm⟩)
end Go.Proofs.YteoflpalmckikaaDoor
