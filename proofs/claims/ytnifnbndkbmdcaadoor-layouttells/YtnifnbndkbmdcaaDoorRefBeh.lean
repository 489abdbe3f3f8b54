/-
  THE WALK OF dawdlerref03.behind: brackets that open.
-/
import Derived.Test.YtnifnbndkbmdcaaDoorRefClose
namespace Go.Proofs.YtnifnbndkbmdcaaDoor
open Go.RowKit
set_option linter.unusedVariables false
/-- A call's own blocks: its state, its result, its token. -/
structure NB (q : Nat) (t : Tok) (W : World) (po : Option Addr) (co : Nat) (pi : Option Addr) (ci : Nat) (o : List Tok) (st : List Blk) : Prop where
  s : Hold q #[.slice po o.length co, .slice pi st.length ci] 50 W
  re : Hold (q + 1) #[.slice none 0 0, .slice none 0 0] 50 W
  tk : TB (q + 1 + 1) t W
  ra : RA q (q + 3) W po co pi ci o st
theorem NB.below {q : Nat} {t : Tok} {W W' : World} {po : Option Addr} {co : Nat} {pi : Option Addr} {ci : Nat} {o : List Tok} {st : List Blk} (h : NB q t W po co pi ci o st) (hb : Below W.heap.size W W') : NB q t W' po co pi ci o st :=
  ⟨h.s.below hb h.s.lt, h.re.below hb h.re.lt, TB.below h.tk hb (Hold.lt h.tk), h.ra.below hb⟩
theorem NB.hi {q : Nat} {t : Tok} {W : World} {po : Option Addr} {co : Nat} {pi : Option Addr} {ci : Nat} {o : List Tok} {st : List Blk} (h : NB q t W po co pi ci o st) : q + 3 ≤ W.heap.size := Hold.lt h.tk
theorem NB.start (w : World) (t : Tok) {po : Option Addr} {co : Nat} {pi : Option Addr} {ci : Nat} {o : List Tok} {st : List Blk} (h : RS w po co pi ci o st) :
    NB w.heap.size t (((w.alloc (.cells #[.slice po o.length co, .slice pi st.length ci] 50)).alloc (.cells #[.slice none 0 0, .slice none 0 0] 50)).alloc (.cells #[.int .i64 t.kd, .string (S t.tx), .int .i64 t.nu, .int .i64 t.ln, .int .i64 t.co] 32)) po co pi ci o st ∧
    Below w.heap.size w (((w.alloc (.cells #[.slice po o.length co, .slice pi st.length ci] 50)).alloc (.cells #[.slice none 0 0, .slice none 0 0] 50)).alloc (.cells #[.int .i64 t.kd, .string (S t.tx), .int .i64 t.nu, .int .i64 t.ln, .int .i64 t.co] 32)) := by
  have h1 := Hold.new (w.alloc (.cells #[.slice po o.length co, .slice pi st.length ci] 50)) #[.slice none 0 0, .slice none 0 0] 50
  have h2 := TB.new ((w.alloc (.cells #[.slice po o.length co, .slice pi st.length ci] 50)).alloc (.cells #[.slice none 0 0, .slice none 0 0] 50)) t
  simp only [World.size_alloc] at h1 h2
  have B1 : Below w.heap.size w (((w.alloc (.cells #[.slice po o.length co, .slice pi st.length ci] 50)).alloc (.cells #[.slice none 0 0, .slice none 0 0] 50)).alloc (.cells #[.int .i64 t.kd, .string (S t.tx), .int .i64 t.nu, .int .i64 t.ln, .int .i64 t.co] 32)) := (((Below.refl _ w).alloc (Nat.le_refl _) _).alloc (by simp) _).alloc (by simp; omega) _
  exact ⟨⟨((Hold.new w _ 50).alloc _).alloc _, h1.alloc _, h2, (h.ra _).below B1⟩, B1⟩
theorem NB.fin {q : Nat} {w W : World} {po : Option Addr} {co : Nat} {pi : Option Addr} {ci : Nat} {o : List Tok} {st : List Blk} (h : RA q (q + 3) W po co pi ci o st) (hq : w.heap.size = q) (hB : Below w.heap.size w W) (n m : Nat) (hn : o.length = n) (hm : st.length = m) :
    RS ((W.setCell ⟨q + 1, 0, none⟩ (.slice po n co)).setCell ⟨q + 1, 1, none⟩ (.slice pi m ci)) po co pi ci o st ∧ Below w.heap.size w ((W.setCell ⟨q + 1, 0, none⟩ (.slice po n co)).setCell ⟨q + 1, 1, none⟩ (.slice pi m ci)) :=
  ⟨((h.set (by omega) (by omega) 0 _).set (by omega) (by omega) 1 _).rs, (hB.setCell (by simp; omega) _).setCell (by simp; omega) _⟩
theorem open_ra (b : Blk) (n : Int) (hn : n = code b) {lo hi : Nat} {W : World} {po : Option Addr} {co : Nat} {pi : Option Addr} {ci : Nat} {o : List Tok} {st : List Blk} (h : RA lo hi W po co pi ci o st) (hh : hi ≤ W.heap.size) (hl : st.length ≤ 1000000) :
    Calls Tryd.prog 23 #[.agg #[.slice po o.length co, .slice pi st.length ci], .int .i64 n] W fun e w' => ∃ pi' ci', e = .returned (.agg #[.slice po o.length co, .slice pi' (st.length + 1) ci']) ∧ RA lo hi w' po co pi' ci' o (b :: st) ∧ Below W.heap.size W w' :=
  (open_ref o b n hn st po co pi ci W h.rs hl).mono fun e w' ⟨pi', ci', k1, k2, k3, k4⟩ => ⟨pi', ci', k1, ⟨k2, h.ao, k4.ap _ _ _ hh⟩, k3⟩
def BPost (w : World) (r : List Blk × List Tok × Bool) (e : Ending) (w' : World) : Prop := ∃ po' co' pi' ci', e = .returned (.tuple #[.agg #[.slice po' r.2.1.length co', .slice pi' r.1.length ci'], .bool r.2.2]) ∧ RS w' po' co' pi' ci' r.2.1 r.1 ∧ Below w.heap.size w w'
set_option maxRecDepth 20000 in
set_option maxHeartbeats 2000000 in
theorem behind_round (t : Tok) (g og k m c : Nat) (o : List Tok) (st : List Blk) (po : Option Addr) (co : Nat) (pi : Option Addr) (ci : Nat) (w : World) (rest : List Tok) (hR : RS w po co pi ci o st) (hl : o.length + st.length ≤ 900000) (hg : g < w.heap.size) (hH : Hold2 g (og + k * 5) t w) (hkm : k < m) (hm : m ≤ 1000000) (hk : isK t [40] = true) :
    Calls Tryd.prog 27 #[.agg #[.slice po o.length co, .slice pi st.length ci], .slice (some ⟨g, og, none⟩) m c, .int .i64 k] w (BPost w (behM t rest st o false)) := by
  have hr : behM t rest st o false = (⟨t.tx, (top st).cl⟩ :: st, o, false) := by unfold behM opensK; rw [hk]; rfl
  have hcd : (-1 : Int) = code ⟨t.tx, (top st).cl⟩ := by
    unfold isK at hk; simp at hk; exact (code_round hk.2).symm
  generalize (⟨t.tx, (top st).cl⟩ : Blk) = bk at *
  generalize behM t rest st o false = r at *
  have HR := hide hr
  obtain ⟨N0, B0⟩ := NB.start w t hR
  have KY := hide (fun w => rkey_any t [40] w)
  rw [hk] at KY
  unfold tv at KY
  have hH1 := (Hold2.below hH ((Below.refl _ w).alloc (Nat.le_refl _) (.cells #[.slice po o.length co, .slice pi st.length ci] 50)) hg)
  obtain ⟨m0, m1, m2, m3, m4⟩ := Hold2.below hH1 ((Below.refl _ (w.alloc (.cells #[.slice po o.length co, .slice pi st.length ci] 50))).alloc (Nat.le_refl _) (.cells #[.slice none 0 0, .slice none 0 0] 50)) (by simp; omega)
  obtain ⟨k0, k1, k2, k3, k4⟩ := N0.tk.cells
  have hk1 : (0 : Int) ≤ (k : Int) := by omega
  have hk2 : (k : Int) < (m : Int) := by omega
  clear hH hH1 hr
  go_enter Tryd.func27, Tryd.ntmps27
  go_wp2_with fail
  refine (KY.out _).mono ?_
  rintro e W1 ⟨rfl, b1⟩
  have N1 := N0.below b1
  have B1 := B0.trans (b1.mono B0.size)
  clear N0 B0 b1 k0 k1 k2 k3 k4 KY m0 m1 m2 m3 m4
  have d0 : W1.cell? ⟨w.heap.size, 0, none⟩ = some (.slice po o.length co) := N1.s.cell 0
  have d1 : W1.cell? ⟨w.heap.size, 1, none⟩ = some (.slice pi st.length ci) := N1.s.cell 1
  have OP := hide (open_ra bk (-1) hcd N1.ra N1.hi (by omega))
  have HN := hide N1
  clear N1 hcd
  go_wp2_with fail
  refine OP.out.mono ?_
  rintro e W2 ⟨pi', ci', rfl, hR2, hB2⟩
  have N2 := HN.out.below hB2
  have e0 := N2.re.cell 0
  have e1 := N2.re.cell 1
  have f0 := N2.re.frozen 0
  have f1 := N2.re.frozen 1
  have HFI := hide (NB.fin (w := w) hR2 rfl (B1.trans (hB2.mono B1.size)) o.length (st.length + 1) rfl rfl)
  clear N2 hR2 OP
  go_wp2_with fail
  exact bodyPost_ret (v := .tuple #[.agg #[.slice po o.length co, .slice pi' (st.length + 1) ci'], .bool false]) (by simp only [results, Tryd.results27]; go_simp) rfl ⟨po, co, pi', ci', by rw [HR.out]; rfl, by rw [HR.out]; exact HFI.out.1, HFI.out.2⟩
set_option maxRecDepth 20000 in
set_option maxHeartbeats 2000000 in
theorem behind_curly (t : Tok) (g og k m c : Nat) (o : List Tok) (st : List Blk) (po : Option Addr) (co : Nat) (pi : Option Addr) (ci : Nat) (w : World) (rest : List Tok) (hR : RS w po co pi ci o st) (hl : o.length + st.length ≤ 900000) (hg : g < w.heap.size) (hH : Hold2 g (og + k * 5) t w) (hkm : k < m) (hm : m ≤ 1000000) (hk : isK t [40] = false) (hk2 : isK t [123] = true) :
    Calls Tryd.prog 27 #[.agg #[.slice po o.length co, .slice pi st.length ci], .slice (some ⟨g, og, none⟩) m c, .int .i64 k] w (BPost w (behM t rest st o false)) := by
  have hr : behM t rest st o false = (⟨t.tx, (top st).cl⟩ :: st, o, false) := by unfold behM opensK; rw [hk, hk2]; rfl
  have hcd : (0 : Int) = code ⟨t.tx, (top st).cl⟩ := by
    unfold isK at hk2; simp at hk2; exact (code_curly hk2.2).symm
  generalize (⟨t.tx, (top st).cl⟩ : Blk) = bk at *
  generalize behM t rest st o false = r at *
  have HR := hide hr
  obtain ⟨N0, B0⟩ := NB.start w t hR
  have KY := hide (fun w => rkey_any t [40] w)
  have KZ := hide (fun w => rkey_any t [123] w)
  rw [hk] at KY
  rw [hk2] at KZ
  unfold tv at KY KZ
  have hH1 := (Hold2.below hH ((Below.refl _ w).alloc (Nat.le_refl _) (.cells #[.slice po o.length co, .slice pi st.length ci] 50)) hg)
  obtain ⟨m0, m1, m2, m3, m4⟩ := Hold2.below hH1 ((Below.refl _ (w.alloc (.cells #[.slice po o.length co, .slice pi st.length ci] 50))).alloc (Nat.le_refl _) (.cells #[.slice none 0 0, .slice none 0 0] 50)) (by simp; omega)
  obtain ⟨k0, k1, k2, k3, k4⟩ := N0.tk.cells
  have hi1 : (0 : Int) ≤ (k : Int) := by omega
  have hi2 : (k : Int) < (m : Int) := by omega
  clear hH hH1 hr
  go_enter Tryd.func27, Tryd.ntmps27
  go_wp2_with fail
  refine (KY.out _).mono ?_
  rintro e W1 ⟨rfl, b1⟩
  have N1 := N0.below b1
  have B1 := B0.trans (b1.mono B0.size)
  clear N0 B0 b1 k0 k1 k2 k3 k4 KY m0 m1 m2 m3 m4
  obtain ⟨k0, k1, k2, k3, k4⟩ := N1.tk.cells
  go_wp2_with fail
  refine (KZ.out _).mono ?_
  rintro e W1b ⟨rfl, b1⟩
  replace N1 := N1.below b1
  replace B1 := B1.trans (b1.mono B1.size)
  clear b1 k0 k1 k2 k3 k4 KZ
  have d0 : W1b.cell? ⟨w.heap.size, 0, none⟩ = some (.slice po o.length co) := N1.s.cell 0
  have d1 : W1b.cell? ⟨w.heap.size, 1, none⟩ = some (.slice pi st.length ci) := N1.s.cell 1
  have OP := hide (open_ra bk 0 hcd N1.ra N1.hi (by omega))
  have HN := hide N1
  clear N1 hcd
  go_wp2_with fail
  refine OP.out.mono ?_
  rintro e W2 ⟨pi', ci', rfl, hR2, hB2⟩
  have N2 := HN.out.below hB2
  have e0 := N2.re.cell 0
  have e1 := N2.re.cell 1
  have f0 := N2.re.frozen 0
  have f1 := N2.re.frozen 1
  have HFI := hide (NB.fin (w := w) hR2 rfl (B1.trans (hB2.mono B1.size)) o.length (st.length + 1) rfl rfl)
  clear N2 hR2 OP
  go_wp2_with fail
  exact bodyPost_ret (v := .tuple #[.agg #[.slice po o.length co, .slice pi' (st.length + 1) ci'], .bool false]) (by simp only [results, Tryd.results27]; go_simp) rfl ⟨po, co, pi', ci', by rw [HR.out]; rfl, by rw [HR.out]; exact HFI.out.1, HFI.out.2⟩
set_option maxRecDepth 20000 in
set_option maxHeartbeats 2000000 in
theorem behind_none (t : Tok) (g og k m c : Nat) (o : List Tok) (st : List Blk) (po : Option Addr) (co : Nat) (pi : Option Addr) (ci : Nat) (w : World) (rest : List Tok) (hR : RS w po co pi ci o st) (hl : o.length + st.length ≤ 900000) (hg : g < w.heap.size) (hH : Hold2 g (og + k * 5) t w) (hkm : k < m) (hm : m ≤ 1000000) (h1 : isK t [40] = false) (h2 : isK t [123] = false) (h3 : isK t [111, 102] = false) (h4 : isK t [100, 111] = false) (h5 : isK t [100, 111, 115] = false) :
    Calls Tryd.prog 27 #[.agg #[.slice po o.length co, .slice pi st.length ci], .slice (some ⟨g, og, none⟩) m c, .int .i64 k] w (BPost w (behM t rest st o false)) := by
  have hr : behM t rest st o false = (st, o, false) := by unfold behM opensK beginsK; rw [h1, h2, h3, h4, h5]; rfl
  generalize behM t rest st o false = r at *
  have HR := hide hr
  obtain ⟨N1, B1⟩ := NB.start w t hR
  have K1 := hide (fun w => rkey_any t [40] w)
  have K2 := hide (fun w => rkey_any t [123] w)
  have K3 := hide (fun w => rkey_any t [111, 102] w)
  have K4 := hide (fun w => rkey_any t [100, 111] w)
  have K5 := hide (fun w => rkey_any t [100, 111, 115] w)
  rw [h1] at K1
  rw [h2] at K2
  rw [h3] at K3
  rw [h4] at K4
  rw [h5] at K5
  unfold tv at K1 K2 K3 K4 K5
  have hH1 := (Hold2.below hH ((Below.refl _ w).alloc (Nat.le_refl _) (.cells #[.slice po o.length co, .slice pi st.length ci] 50)) hg)
  obtain ⟨m0, m1, m2, m3, m4⟩ := Hold2.below hH1 ((Below.refl _ (w.alloc (.cells #[.slice po o.length co, .slice pi st.length ci] 50))).alloc (Nat.le_refl _) (.cells #[.slice none 0 0, .slice none 0 0] 50)) (by simp; omega)
  have hi1 : (0 : Int) ≤ (k : Int) := by omega
  have hi2 : (k : Int) < (m : Int) := by omega
  clear hH hH1 hr
  obtain ⟨k0, k1, k2, k3, k4⟩ := N1.tk.cells
  go_enter Tryd.func27, Tryd.ntmps27
  go_wp2_with fail
  refine (K1.out _).mono ?_
  rintro e W1 ⟨rfl, b1⟩
  replace N1 := N1.below b1
  replace B1 := B1.trans (b1.mono B1.size)
  clear b1 k0 k1 k2 k3 k4 K1 m0 m1 m2 m3 m4
  obtain ⟨k0, k1, k2, k3, k4⟩ := N1.tk.cells
  go_wp2_with fail
  refine (K2.out _).mono ?_
  rintro e W2 ⟨rfl, b1⟩
  replace N1 := N1.below b1
  replace B1 := B1.trans (b1.mono B1.size)
  clear b1 k0 k1 k2 k3 k4 K2
  obtain ⟨k0, k1, k2, k3, k4⟩ := N1.tk.cells
  go_wp2_with fail
  refine (K3.out _).mono ?_
  rintro e W3 ⟨rfl, b1⟩
  replace N1 := N1.below b1
  replace B1 := B1.trans (b1.mono B1.size)
  clear b1 k0 k1 k2 k3 k4 K3
  obtain ⟨k0, k1, k2, k3, k4⟩ := N1.tk.cells
  go_wp2_with fail
  refine (K4.out _).mono ?_
  rintro e W4 ⟨rfl, b1⟩
  replace N1 := N1.below b1
  replace B1 := B1.trans (b1.mono B1.size)
  clear b1 k0 k1 k2 k3 k4 K4
  obtain ⟨k0, k1, k2, k3, k4⟩ := N1.tk.cells
  go_wp2_with fail
  refine (K5.out _).mono ?_
  rintro e W5 ⟨rfl, b1⟩
  replace N1 := N1.below b1
  replace B1 := B1.trans (b1.mono B1.size)
  clear b1 k0 k1 k2 k3 k4 K5
  have d0 : W5.cell? ⟨w.heap.size, 0, none⟩ = some (.slice po o.length co) := N1.s.cell 0
  have d1 : W5.cell? ⟨w.heap.size, 1, none⟩ = some (.slice pi st.length ci) := N1.s.cell 1
  have e0 := N1.re.cell 0
  have e1 := N1.re.cell 1
  have f0 := N1.re.frozen 0
  have f1 := N1.re.frozen 1
  have HFI := hide (NB.fin (w := w) N1.ra rfl B1 o.length st.length rfl rfl)
  clear N1
  go_wp2_with fail
  exact bodyPost_ret (v := .tuple #[.agg #[.slice po o.length co, .slice pi st.length ci], .bool false]) (by simp only [results, Tryd.results27]; go_simp) rfl ⟨po, co, pi, ci, by rw [HR.out], by rw [HR.out]; exact HFI.out.1, HFI.out.2⟩
end Go.Proofs.YtnifnbndkbmdcaaDoor
