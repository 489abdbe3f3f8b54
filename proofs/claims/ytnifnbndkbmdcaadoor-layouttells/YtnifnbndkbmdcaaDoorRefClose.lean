/-
  THE WALK OF dawdlerref03.closing.
-/
import Derived.Test.YtnifnbndkbmdcaaDoorRefLine
namespace Go.Proofs.YtnifnbndkbmdcaaDoor
open Go.RowKit
set_option linter.unusedVariables false
/-- What closing makes of a state: none, where the bracket does not fit. -/
def closeM (t : Tok) (st : List Blk) (o : List Tok) : Option (List Blk × List Tok) := if closesK t then fitM t st o else some (st, o)
theorem end_step (t : Tok) (b : Blk) (r : List Blk) (o : List Tok) (hb : b.sg = []) : endM every t (b :: r) o = endM every t r (o ++ [⟨4, [125], 0, t.ln, t.co⟩]) := by
  rw [endM, hb]; simp [every]
theorem end_stop (t : Tok) (st : List Blk) (o : List Tok) (h : wf st) (hx : ¬ 0 < lastI st) : endM every t st o = (st, o) := by
  cases st with
  | nil => rfl
  | cons b r =>
    rw [endM, if_neg]
    intro hh
    simp at hh
    exact hx ((lastI_pos (b :: r) h).2 ⟨b, r, rfl, hh.1, code_col hh.1⟩)
theorem close_round (t : Tok) (st : List Blk) (o : List Tok) (h : isK t [41] = true) : closeM t st o = popM [40] (endM every t st o).1 (endM every t st o).2 := by
  unfold closeM fitM closesK; rw [h]; rfl
theorem close_curly (t : Tok) (st : List Blk) (o : List Tok) (h : isK t [41] = false) (h2 : isK t [125] = true) : closeM t st o = popM [123] st o := by
  unfold closeM fitM closesK; rw [h, h2]; rfl
theorem close_else (t : Tok) (st : List Blk) (o : List Tok) (h : isK t [41] = false) (h2 : isK t [125] = false) : closeM t st o = some (st, o) := by
  unfold closeM closesK; rw [h, h2]; rfl
theorem pop_yes {s : List UInt8} {st : List Blk} {o : List Tok} (h : ((top st).sg == s) = true) : popM s st o = some (st.tail, o) := by unfold popM; rw [if_pos h]
theorem pop_no {s : List UInt8} {st : List Blk} {o : List Tok} (h : ¬ ((top st).sg == s) = true) : popM s st o = none := by unfold popM; rw [if_neg h]
/-- shut, put: of a state that is away from a call's own blocks. -/
theorem shut_ra {lo hi : Nat} {W : World} {po : Option Addr} {co : Nat} {pi : Option Addr} {ci : Nat} {o : List Tok} {st : List Blk} (h : RA lo hi W po co pi ci o st) (hne : st ≠ []) (hn : st.length ≤ 1000000) :
    Calls Tryd.prog 29 #[.agg #[.slice po o.length co, .slice pi st.length ci]] W fun e w' => e = .returned (.agg #[.slice po o.length co, .slice pi st.tail.length ci]) ∧ RA lo hi w' po co pi ci o st.tail ∧ Below W.heap.size W w' := by
  cases st with
  | nil => exact absurd rfl hne
  | cons b r =>
    refine (shut_ref o b r po co pi ci W h.rs (by simp at hn; omega)).mono fun e w' k => ⟨k.1, ⟨k.2.1, h.ao, ?_⟩, k.2.2⟩
    rcases h.ai with h | h
    · simp at h
    · exact .inr h
theorem put_ra (c : List UInt8) (t : Tok) {lo hi : Nat} {W : World} {po : Option Addr} {co : Nat} {pi : Option Addr} {ci : Nat} {o : List Tok} {st : List Blk} (h : RA lo hi W po co pi ci o st) (hh : hi ≤ W.heap.size) (hn : o.length ≤ 1000000) :
    Calls Tryd.prog 24 #[.agg #[.slice po o.length co, .slice pi st.length ci], .string (S c), tv t] W fun e w' => ∃ po' co', e = .returned (.agg #[.slice po' (o.length + 1) co', .slice pi st.length ci]) ∧ RA lo hi w' po' co' pi ci (o ++ [⟨4, c, 0, t.ln, t.co⟩]) st ∧ Below W.heap.size W w' :=
  (put_ref c t o st po co pi ci W h.rs hn).mono fun e w' ⟨po', co', k1, k2, k3, k4⟩ => ⟨po', co', k1, ⟨k2, k4.ap _ _ _ hh, h.ai⟩, k3⟩
/-- The result's block written. -/
theorem NL.fin {q : Nat} {t : Tok} {w W : World} {po : Option Addr} {co : Nat} {pi : Option Addr} {ci : Nat} {o : List Tok} {st : List Blk} (h : RA q (q + 3) W po co pi ci o st) (hq : w.heap.size = q) (hB : Below w.heap.size w W) (n m : Nat) (hn : o.length = n) (hm : st.length = m) :
    RS ((W.setCell ⟨q + 1 + 1, 0, none⟩ (.slice po n co)).setCell ⟨q + 1 + 1, 1, none⟩ (.slice pi m ci)) po co pi ci o st ∧ Below w.heap.size w ((W.setCell ⟨q + 1 + 1, 0, none⟩ (.slice po n co)).setCell ⟨q + 1 + 1, 1, none⟩ (.slice pi m ci)) :=
  ⟨((h.set (by omega) (by omega) 0 _).set (by omega) (by omega) 1 _).rs, (hB.setCell (by simp; omega) _).setCell (by simp; omega) _⟩
set_option maxRecDepth 20000 in
set_option maxHeartbeats 2000000 in
theorem closing_round (t : Tok) (o : List Tok) (st : List Blk) (po : Option Addr) (co : Nat) (pi : Option Addr) (ci : Nat) (w : World) (hR : RS w po co pi ci o st) (hwf : wf st) (hl : o.length + st.length ≤ 900000) (hk : isK t [41] = true) :
    Calls Tryd.prog 26 #[.agg #[.slice po o.length co, .slice pi st.length ci], tv t] w fun e w' => Below w.heap.size w w' ∧ ∃ po' co' n m, ∃ ok : Bool, e = .returned (.tuple #[.agg #[.slice po' n co', .slice pi m ci], .bool ok]) ∧ ((ok = false ∧ closeM t st o = none) ∨ (ok = true ∧ ∃ r, closeM t st o = some r ∧ n = r.2.length ∧ m = r.1.length ∧ RS w' po' co' pi ci r.2 r.1)) := by
  obtain ⟨N0, B0⟩ := NL.start w t hR
  have hcm := close_round t st o hk
  generalize closeM t st o = C at *
  have HC := hide hcm
  have KY := hide (fun w => rkey_any t [41] w)
  rw [hk] at KY
  unfold tv at KY ⊢
  obtain ⟨k0, k1, k2, k3, k4⟩ := N0.tk.cells
  clear hcm hR
  go_enter Tryd.func26, Tryd.ntmps26
  go_wp2_with fail
  refine (KY.out _).mono ?_
  rintro e W1 ⟨rfl, b1⟩
  have N1 := N0.below b1
  have B1 := B0.trans (b1.mono B0.size)
  clear N0 B0 b1 k0 k1 k2 k3 k4 KY
  go_wp2_with fail
  go_loopg [] (st.length) (fun gk wr => ∃ (po' : Option Addr) (co' : Nat) (o' : List Tok) (st' : List Blk), gk = st'.length ∧ NL w.heap.size t wr po' co' pi ci o' st' ∧ wf st' ∧ o'.length + st'.length ≤ 900000 ∧ endM every t st' o' = endM every t st o ∧ Below w.heap.size w wr)
  case atStart => exact ⟨po, co, o, st, rfl, N1, hwf, hl, rfl, B1⟩
  case round =>
    obtain ⟨po', co', o', st', hgk, hN, hwf', hle, hER, hB⟩ := hrel
    clear N1 B1
    have HL := hide (fun W' hb => last_at hN (by omega) W' hb)
    have HER := hide hER
    have HN := hide hN
    have HW := hide hwf'
    have c0 : wr.cell? ⟨w.heap.size, 0, none⟩ = some (.slice po' o'.length co') := hN.s.cell 0
    have c1 : wr.cell? ⟨w.heap.size, 1, none⟩ = some (.slice pi st'.length ci) := hN.s.cell 1
    clear hwf' hER hN
    by_cases h1 : 0 < lastI st'
    · have hd : decide (0 < lastI st') = true := by simpa using h1
      obtain ⟨b, r, hst, hsg, hcl⟩ := (lastI_pos st' HW.out).1 h1
      have HST := hide hst
      have HSG := hide hsg
      clear hst hsg hcl
      generalize hx : lastI st' = x at HL h1 hd
      clear hx
      go_wp2_with fail
      refine (HL.out _ (Below.refl _ _)).mono ?_
      rintro e W2 ⟨rfl, hb⟩
      have N2 := HN.out.below hb
      obtain ⟨k0, k1, k2, k3, k4⟩ := N2.tk.cells
      have d0 : W2.cell? ⟨w.heap.size, 0, none⟩ = some (.slice po' o'.length co') := N2.s.cell 0
      have d1 : W2.cell? ⟨w.heap.size, 1, none⟩ = some (.slice pi st'.length ci) := N2.s.cell 1
      have HP := hide (put_ra [125] t N2.ra N2.hi (by omega))
      unfold tv at HP
      have HN2 := hide N2
      clear N2
      go_wp2_with fail
      refine HP.out.mono ?_
      rintro e W3 ⟨po2, co2, rfl, hR3, hB3⟩
      have HLN : Hid (st'.length = r.length + 1 ∧ st'.tail = r) := by show _ ∧ _; rw [HST.out]; simp
      have SH := shut_ra hR3 (by rw [HST.out]; simp) (by omega)
      rw [List.length_append, List.length_singleton, HLN.out.2] at SH
      have HSH := hide SH
      clear SH hR3 HP k0 k1 k2 k3 k4 d0 d1
      go_wp2_with fail
      refine HSH.out.mono ?_
      rintro e W4 ⟨rfl, hR4, hB4⟩
      have N4 := (HN2.out.below hB3).below hB4
      have d0 : W4.cell? ⟨w.heap.size, 0, none⟩ = some (.slice po' o'.length co') := N4.s.cell 0
      have d1 : W4.cell? ⟨w.heap.size, 1, none⟩ = some (.slice pi st'.length ci) := N4.s.cell 1
      have d2 := N4.s.frozen 0
      have d3 := N4.s.frozen 1
      have N5 := N4.store hR4
      rw [List.length_append, List.length_singleton] at N5
      have HN5 := hide N5
      have HB4 : Hid (Below w.heap.size w W4) := hB.trans (((hb.trans (hB3.mono hb.size)).trans (hB4.mono (Nat.le_trans hb.size hB3.size))).mono hB.size)
      clear N4 N5 hR4 HSH
      go_wp2_with fail
      go_roundg (r.length)
      case measure => have := HLN.out; omega
      case rel => exact ⟨po2, co2, _, r, rfl, HN5.out, by have := HW.out; rw [HST.out] at this; exact this.1, by have := HLN.out; simp; omega, by rw [← HER.out, HST.out]; exact (end_step t b r o' HSG.out).symm, (HB4.out.setCell (by simp) _).setCell (by simp) _⟩
    · have hd : decide (0 < lastI st') = false := by simpa using h1
      have HE := hide (end_stop t st' o' HW.out h1)
      have HLR := hide (lastI_round st' HW.out)
      have HCC : Hid (C = popM [40] st' o') := by show C = _; rw [HC.out, ← HER.out, HE.out]
      generalize hx : lastI st' = x at HL h1 hd HLR
      clear hx HC HER HE
      go_wp2_with fail
      refine (HL.out _ (Below.refl _ _)).mono ?_
      rintro e W2 ⟨rfl, hb⟩
      have N2 := HN.out.below hb
      have d0 : W2.cell? ⟨w.heap.size, 0, none⟩ = some (.slice po' o'.length co') := N2.s.cell 0
      have d1 : W2.cell? ⟨w.heap.size, 1, none⟩ = some (.slice pi st'.length ci) := N2.s.cell 1
      clear N2
      go_wp2_with fail
      refine (HL.out _ hb).mono ?_
      rintro e W3 ⟨rfl, hb3⟩
      have N3 := HN.out.below hb3
      clear d0 d1
      have d0 : W3.cell? ⟨w.heap.size, 0, none⟩ = some (.slice po' o'.length co') := N3.s.cell 0
      have d1 : W3.cell? ⟨w.heap.size, 1, none⟩ = some (.slice pi st'.length ci) := N3.s.cell 1
      have HB3 : Hid (Below w.heap.size w W3) := hB.trans (hb3.mono hB.size)
      by_cases h2 : x = -1
      · have htop := HLR.out.1 h2
        have hne : st' ≠ [] := by rintro rfl; simp [top] at htop
        have HSH := hide (shut_ra N3.ra hne (by omega))
        have HCS : Hid (C = some (st'.tail, o')) := by show C = _; rw [HCC.out, pop_yes htop]
        have HN3 := hide N3
        clear N3 htop hne
        subst h2
        go_wp2_with fail
        refine HSH.out.mono ?_
        rintro e W4 ⟨rfl, hR4, hB4⟩
        have N4 := HN3.out.below hB4
        have e0 := N4.re.cell 0
        have e1 := N4.re.cell 1
        have f0 := N4.re.frozen 0
        have f1 := N4.re.frozen 1
        have HFI := hide (NL.fin (t := t) (w := w) hR4 rfl (HB3.out.trans (hB4.mono HB3.out.size)) o'.length (st'.length - 1) rfl (by simp))
        clear N4 hR4 HSH
        go_wp2_with fail
        exact bodyPost_ret (v := .tuple #[.agg #[.slice po' o'.length co', .slice pi (st'.length - 1) ci], .bool true]) (by simp only [results, Tryd.results26]; go_simp) rfl ⟨HFI.out.2, po', co', _, _, true, rfl, .inr ⟨rfl, _, HCS.out, rfl, by simp, HFI.out.1⟩⟩
      · have htop : ¬ ((top st').sg == [40]) = true := fun k => h2 (HLR.out.2 k)
        have hd2 : decide (x = -1) = false := by simpa using h2
        have hd3 : (x == -1) = false := by simpa using h2
        have HCS : Hid (C = none) := by show C = _; rw [HCC.out, pop_no htop]
        have e0 := N3.re.cell 0
        have e1 := N3.re.cell 1
        have f0 := N3.re.frozen 0
        have f1 := N3.re.frozen 1
        have HFI := hide (NL.fin (t := t) (w := w) N3.ra rfl HB3.out o'.length st'.length rfl rfl)
        clear N3 htop
        go_wp2_with fail
        exact bodyPost_ret (v := .tuple #[.agg #[.slice po' o'.length co', .slice pi st'.length ci], .bool false]) (by simp only [results, Tryd.results26]; go_simp) rfl ⟨HFI.out.2, po', co', _, _, false, rfl, .inl ⟨rfl, HCS.out⟩⟩
set_option maxRecDepth 20000 in
set_option maxHeartbeats 2000000 in
theorem closing_else (t : Tok) (o : List Tok) (st : List Blk) (po : Option Addr) (co : Nat) (pi : Option Addr) (ci : Nat) (w : World) (hR : RS w po co pi ci o st) (hwf : wf st) (hl : o.length + st.length ≤ 900000) (hk : isK t [41] = false) (hk2 : isK t [125] = false) :
    Calls Tryd.prog 26 #[.agg #[.slice po o.length co, .slice pi st.length ci], tv t] w fun e w' => Below w.heap.size w w' ∧ ∃ po' co' n m, ∃ ok : Bool, e = .returned (.tuple #[.agg #[.slice po' n co', .slice pi m ci], .bool ok]) ∧ ((ok = false ∧ closeM t st o = none) ∨ (ok = true ∧ ∃ r, closeM t st o = some r ∧ n = r.2.length ∧ m = r.1.length ∧ RS w' po' co' pi ci r.2 r.1)) := by
  obtain ⟨N0, B0⟩ := NL.start w t hR
  have hcm := close_else t st o hk hk2
  generalize closeM t st o = C at *
  have HC := hide hcm
  have KY := hide (fun w => rkey_any t [41] w)
  have KZ := hide (fun w => rkey_any t [125] w)
  rw [hk] at KY
  rw [hk2] at KZ
  unfold tv at KY KZ ⊢
  obtain ⟨k0, k1, k2, k3, k4⟩ := N0.tk.cells
  clear hcm hR
  go_enter Tryd.func26, Tryd.ntmps26
  go_wp2_with fail
  refine (KY.out _).mono ?_
  rintro e W1 ⟨rfl, b1⟩
  have N1 := N0.below b1
  have B1 := B0.trans (b1.mono B0.size)
  clear N0 B0 b1 k0 k1 k2 k3 k4 KY
  obtain ⟨k0, k1, k2, k3, k4⟩ := N1.tk.cells
  go_wp2_with fail
  refine (KZ.out _).mono ?_
  rintro e W2 ⟨rfl, b2⟩
  have N2 := N1.below b2
  have B2 := B1.trans (b2.mono B1.size)
  clear N1 B1 b2 k0 k1 k2 k3 k4 KZ
  have d0 : W2.cell? ⟨w.heap.size, 0, none⟩ = some (.slice po o.length co) := N2.s.cell 0
  have d1 : W2.cell? ⟨w.heap.size, 1, none⟩ = some (.slice pi st.length ci) := N2.s.cell 1
  have e0 := N2.re.cell 0
  have e1 := N2.re.cell 1
  have f0 := N2.re.frozen 0
  have f1 := N2.re.frozen 1
  have HFI := hide (NL.fin (t := t) (w := w) N2.ra rfl B2 o.length st.length rfl rfl)
  clear N2
  go_wp2_with fail
  exact bodyPost_ret (v := .tuple #[.agg #[.slice po o.length co, .slice pi st.length ci], .bool true]) (by simp only [results, Tryd.results26]; go_simp) rfl ⟨HFI.out.2, po, co, _, _, true, rfl, .inr ⟨rfl, _, HC.out, rfl, rfl, HFI.out.1⟩⟩
set_option maxRecDepth 20000 in
set_option maxHeartbeats 2000000 in
theorem closing_curly (t : Tok) (o : List Tok) (st : List Blk) (po : Option Addr) (co : Nat) (pi : Option Addr) (ci : Nat) (w : World) (hR : RS w po co pi ci o st) (hwf : wf st) (hl : o.length + st.length ≤ 900000) (hk : isK t [41] = false) (hk2 : isK t [125] = true) :
    Calls Tryd.prog 26 #[.agg #[.slice po o.length co, .slice pi st.length ci], tv t] w fun e w' => Below w.heap.size w w' ∧ ∃ po' co' n m, ∃ ok : Bool, e = .returned (.tuple #[.agg #[.slice po' n co', .slice pi m ci], .bool ok]) ∧ ((ok = false ∧ closeM t st o = none) ∨ (ok = true ∧ ∃ r, closeM t st o = some r ∧ n = r.2.length ∧ m = r.1.length ∧ RS w' po' co' pi ci r.2 r.1)) := by
  obtain ⟨N0, B0⟩ := NL.start w t hR
  have hcm := close_curly t st o hk hk2
  generalize closeM t st o = C at *
  have HC := hide hcm
  have KY := hide (fun w => rkey_any t [41] w)
  have KZ := hide (fun w => rkey_any t [125] w)
  rw [hk] at KY
  rw [hk2] at KZ
  unfold tv at KY KZ ⊢
  obtain ⟨k0, k1, k2, k3, k4⟩ := N0.tk.cells
  clear hcm hR
  go_enter Tryd.func26, Tryd.ntmps26
  go_wp2_with fail
  refine (KY.out _).mono ?_
  rintro e W1 ⟨rfl, b1⟩
  have N1 := N0.below b1
  have B1 := B0.trans (b1.mono B0.size)
  clear N0 B0 b1 k0 k1 k2 k3 k4 KY
  obtain ⟨k0, k1, k2, k3, k4⟩ := N1.tk.cells
  go_wp2_with fail
  refine (KZ.out _).mono ?_
  rintro e W2 ⟨rfl, b2⟩
  have N2 := N1.below b2
  have B2 := B1.trans (b2.mono B1.size)
  clear N1 B1 b2 k0 k1 k2 k3 k4 KZ
  have d0 : W2.cell? ⟨w.heap.size, 0, none⟩ = some (.slice po o.length co) := N2.s.cell 0
  have d1 : W2.cell? ⟨w.heap.size, 1, none⟩ = some (.slice pi st.length ci) := N2.s.cell 1
  have HL := hide (fun W' hb => last_at N2 (by omega) W' hb)
  have HLR := hide (lastI_curly st hwf)
  have HN := hide N2
  clear N2
  generalize hx : lastI st = x at HL HLR
  clear hx
  go_wp2_with fail
  refine (HL.out _ (Below.refl _ _)).mono ?_
  rintro e W3 ⟨rfl, hb3⟩
  have N3 := HN.out.below hb3
  clear d0 d1
  have d0 : W3.cell? ⟨w.heap.size, 0, none⟩ = some (.slice po o.length co) := N3.s.cell 0
  have d1 : W3.cell? ⟨w.heap.size, 1, none⟩ = some (.slice pi st.length ci) := N3.s.cell 1
  have HB3 : Hid (Below w.heap.size w W3) := B2.trans (hb3.mono B2.size)
  by_cases h2 : x = 0
  · have htop := HLR.out.1 h2
    have hne : st ≠ [] := by rintro rfl; simp [top] at htop
    have HSH := hide (shut_ra N3.ra hne (by omega))
    have HCS : Hid (C = some (st.tail, o)) := by show C = _; rw [HC.out, pop_yes htop]
    have HN3 := hide N3
    clear N3 htop hne
    subst h2
    go_wp2_with fail
    refine HSH.out.mono ?_
    rintro e W4 ⟨rfl, hR4, hB4⟩
    have N4 := HN3.out.below hB4
    have e0 := N4.re.cell 0
    have e1 := N4.re.cell 1
    have f0 := N4.re.frozen 0
    have f1 := N4.re.frozen 1
    have HFI := hide (NL.fin (t := t) (w := w) hR4 rfl (HB3.out.trans (hB4.mono HB3.out.size)) o.length (st.length - 1) rfl (by simp))
    clear N4 hR4 HSH
    go_wp2_with fail
    exact bodyPost_ret (v := .tuple #[.agg #[.slice po o.length co, .slice pi (st.length - 1) ci], .bool true]) (by simp only [results, Tryd.results26]; go_simp) rfl ⟨HFI.out.2, po, co, _, _, true, rfl, .inr ⟨rfl, _, HCS.out, rfl, by simp, HFI.out.1⟩⟩
  · have htop : ¬ ((top st).sg == [123]) = true := fun k => h2 (HLR.out.2 k)
    have hd2 : decide (x = 0) = false := by simpa using h2
    have hd3 : (x == 0) = false := by simpa using h2
    have HCS : Hid (C = none) := by show C = _; rw [HC.out, pop_no htop]
    have e0 := N3.re.cell 0
    have e1 := N3.re.cell 1
    have f0 := N3.re.frozen 0
    have f1 := N3.re.frozen 1
    have HFI := hide (NL.fin (t := t) (w := w) N3.ra rfl HB3.out o.length st.length rfl rfl)
    clear N3 htop
    go_wp2_with fail
    exact bodyPost_ret (v := .tuple #[.agg #[.slice po o.length co, .slice pi st.length ci], .bool false]) (by simp only [results, Tryd.results26]; go_simp) rfl ⟨HFI.out.2, po, co, _, _, false, rfl, .inl ⟨rfl, HCS.out⟩⟩
theorem closing_ref (t : Tok) (o : List Tok) (st : List Blk) (po : Option Addr) (co : Nat) (pi : Option Addr) (ci : Nat) (w : World) (hR : RS w po co pi ci o st) (hwf : wf st) (hl : o.length + st.length ≤ 900000) :
    Calls Tryd.prog 26 #[.agg #[.slice po o.length co, .slice pi st.length ci], tv t] w fun e w' => Below w.heap.size w w' ∧ ∃ po' co' n m, ∃ ok : Bool, e = .returned (.tuple #[.agg #[.slice po' n co', .slice pi m ci], .bool ok]) ∧ ((ok = false ∧ closeM t st o = none) ∨ (ok = true ∧ ∃ r, closeM t st o = some r ∧ n = r.2.length ∧ m = r.1.length ∧ RS w' po' co' pi ci r.2 r.1)) := by
  cases hk : isK t [41]
  · cases hk2 : isK t [125]
    · exact closing_else t o st po co pi ci w hR hwf hl hk hk2
    · exact closing_curly t o st po co pi ci w hR hwf hl hk hk2
  · exact closing_round t o st po co pi ci w hR hwf hl hk
end Go.Proofs.YtnifnbndkbmdcaaDoor
