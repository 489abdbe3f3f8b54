/-
  THE WALK OF dawdlerref03.newline.
-/
import Derived.Test.YtnifnbndkbmdcaaDoorRefPut
namespace Go.Proofs.YtnifnbndkbmdcaaDoor
open Go.RowKit
set_option linter.unusedVariables false
/-- A call's own blocks: its state, its token, its result. -/
structure NL (q : Nat) (t : Tok) (W : World) (po : Option Addr) (co : Nat) (pi : Option Addr) (ci : Nat) (o : List Tok) (st : List Blk) : Prop where
  s : Hold q #[.slice po o.length co, .slice pi st.length ci] 50 W
  tk : TB (q + 1) t W
  re : Hold (q + 1 + 1) #[.slice none 0 0, .slice none 0 0] 50 W
  ra : RA q (q + 3) W po co pi ci o st
theorem NL.below {q : Nat} {t : Tok} {W W' : World} {po : Option Addr} {co : Nat} {pi : Option Addr} {ci : Nat} {o : List Tok} {st : List Blk} (h : NL q t W po co pi ci o st) (hb : Below W.heap.size W W') : NL q t W' po co pi ci o st :=
  ⟨h.s.below hb h.s.lt, TB.below h.tk hb (Hold.lt h.tk), h.re.below hb h.re.lt, h.ra.below hb⟩
theorem NL.hi {q : Nat} {t : Tok} {W : World} {po : Option Addr} {co : Nat} {pi : Option Addr} {ci : Nat} {o : List Tok} {st : List Blk} (h : NL q t W po co pi ci o st) : q + 3 ≤ W.heap.size := h.re.lt
theorem NL.store {q : Nat} {t : Tok} {W : World} {po : Option Addr} {co : Nat} {pi : Option Addr} {ci : Nat} {o : List Tok} {st : List Blk} {po' : Option Addr} {co' : Nat} {pi' : Option Addr} {ci' : Nat} {o' : List Tok} {st' : List Blk} (h : NL q t W po co pi ci o st) (hr : RA q (q + 3) W po' co' pi' ci' o' st') :
    NL q t ((W.setCell ⟨q, 0, none⟩ (.slice po' o'.length co')).setCell ⟨q, 1, none⟩ (.slice pi' st'.length ci')) po' co' pi' ci' o' st' :=
  ⟨(h.s.set 0 (.slice po' o'.length co')).set 1 (.slice pi' st'.length ci'), Hold.other (Hold.other h.tk (by omega) 0 _) (by omega) 1 _, (h.re.other (by omega) 0 _).other (by omega) 1 _, (hr.set (by omega) (by omega) 0 _).set (by omega) (by omega) 1 _⟩
/-- At a call's beginning. -/
theorem NL.start (w : World) (t : Tok) {po : Option Addr} {co : Nat} {pi : Option Addr} {ci : Nat} {o : List Tok} {st : List Blk} (h : RS w po co pi ci o st) :
    NL w.heap.size t (((w.alloc (.cells #[.slice po o.length co, .slice pi st.length ci] 50)).alloc (.cells #[.int .i64 t.kd, .string (S t.tx), .int .i64 t.nu, .int .i64 t.ln, .int .i64 t.co] 32)).alloc (.cells #[.slice none 0 0, .slice none 0 0] 50)) po co pi ci o st ∧
    Below w.heap.size w (((w.alloc (.cells #[.slice po o.length co, .slice pi st.length ci] 50)).alloc (.cells #[.int .i64 t.kd, .string (S t.tx), .int .i64 t.nu, .int .i64 t.ln, .int .i64 t.co] 32)).alloc (.cells #[.slice none 0 0, .slice none 0 0] 50)) := by
  have h1 := TB.new (w.alloc (.cells #[.slice po o.length co, .slice pi st.length ci] 50)) t
  have h2 := Hold.new ((w.alloc (.cells #[.slice po o.length co, .slice pi st.length ci] 50)).alloc (.cells #[.int .i64 t.kd, .string (S t.tx), .int .i64 t.nu, .int .i64 t.ln, .int .i64 t.co] 32)) #[.slice none 0 0, .slice none 0 0] 50
  simp only [World.size_alloc] at h1 h2
  have B1 : Below w.heap.size w (((w.alloc (.cells #[.slice po o.length co, .slice pi st.length ci] 50)).alloc (.cells #[.int .i64 t.kd, .string (S t.tx), .int .i64 t.nu, .int .i64 t.ln, .int .i64 t.co] 32)).alloc (.cells #[.slice none 0 0, .slice none 0 0] 50)) := (((Below.refl _ w).alloc (Nat.le_refl _) _).alloc (by simp) _).alloc (by simp; omega) _
  exact ⟨⟨((Hold.new w _ 50).alloc _).alloc _, Hold.alloc h1 _, h2, (h.ra _).below B1⟩, B1⟩
/-- last, wherever one is behind W. -/
theorem last_at {q : Nat} {t : Tok} {W : World} {po : Option Addr} {co : Nat} {pi : Option Addr} {ci : Nat} {o : List Tok} {st : List Blk} (h : NL q t W po co pi ci o st) (hn : st.length ≤ 1000000) (W' : World) (hb : Below W.heap.size W W') :
    Calls Tryd.prog 28 #[.agg #[.slice po o.length co, .slice pi st.length ci]] W' fun e w' => e = .returned (.int .i64 (lastI st)) ∧ Below W.heap.size W w' :=
  (last_ref o st po co pi ci W' (h.ra.rs.below hb) hn).mono fun _ _ k => ⟨k.1, hb.trans (k.2.mono hb.size)⟩
theorem below_drew (n : Nat) (W : World) : Below n W W.drew := ⟨rfl, rfl, rfl, Nat.le_refl _, fun _ _ => rfl⟩
theorem line_step (t : Tok) (b : Blk) (r : List Blk) (o : List Tok) (hb : b.sg = []) (hc : t.co < b.cl) : lineM t (b :: r) o = lineM t r (o ++ [⟨4, [125], 0, t.ln, t.co⟩]) := by
  have e : endM (fun c => decide (t.co < c)) t (b :: r) o = endM (fun c => decide (t.co < c)) t r (o ++ [⟨4, [125], 0, t.ln, t.co⟩]) := by
    rw [endM, hb]; simp [hc]
  unfold lineM; rw [e]
theorem line_stop (t : Tok) (st : List Blk) (o : List Tok) (h : wf st) (hx : ¬ (0 < lastI st ∧ t.co < lastI st)) : lineM t st o = (st, if 0 < lastI st ∧ lastI st = t.co then o ++ [⟨4, [59], 0, t.ln, t.co⟩] else o) := by
  have e : endM (fun c => decide (t.co < c)) t st o = (st, o) := by
    cases st with
    | nil => rfl
    | cons b r =>
      rw [endM, if_neg]
      intro hh
      simp at hh
      have : 0 < lastI (b :: r) := (lastI_pos (b :: r) h).2 ⟨b, r, rfl, hh.1, code_col hh.1⟩
      apply hx
      refine ⟨this, ?_⟩
      have : lastI (b :: r) = b.cl := code_col hh.1
      rw [this]; exact hh.2
  unfold lineM
  rw [e]
  simp only
  congr 1
  cases st with
  | nil => simp [top, lastI]
  | cons b r =>
    show (if ((b.sg == [] && decide (0 < b.cl) && b.cl == t.co) = true) then _ else _) = (if 0 < code b ∧ code b = t.co then _ else _)
    rcases h.2 with ⟨h1, h2⟩ | ⟨h1 | h1, h2⟩
    · rw [code_col h1, h1]
      by_cases hc : b.cl = t.co
      · rw [if_pos (by rw [hc] at h2; simp [h2, hc]), if_pos ⟨h2, hc⟩]; rfl
      · rw [if_neg (by simp [hc]), if_neg (fun k => hc k.2)]
    · rw [code_round h1, h1, if_neg (by simp), if_neg (by omega)]
    · rw [code_curly h1, h1, if_neg (by simp), if_neg (by omega)]
set_option maxRecDepth 20000 in
set_option maxHeartbeats 2000000 in
theorem newline_ref (t : Tok) (o : List Tok) (st : List Blk) (po : Option Addr) (co : Nat) (pi : Option Addr) (ci : Nat) (w : World) (hR : RS w po co pi ci o st) (hwf : wf st) (hl : o.length + st.length ≤ 900000) :
    Calls Tryd.prog 25 #[.agg #[.slice po o.length co, .slice pi st.length ci], tv t] w fun e w' => ∃ po' co', e = .returned (.agg #[.slice po' (lineM t st o).2.length co', .slice pi (lineM t st o).1.length ci]) ∧ RS w' po' co' pi ci (lineM t st o).2 (lineM t st o).1 ∧ Below w.heap.size w w' := by
  obtain ⟨N0, B0⟩ := NL.start w t hR
  obtain ⟨R, hRR⟩ : ∃ R, R = lineM t st o := ⟨_, rfl⟩
  rw [← hRR]
  have HRR := hide hRR.symm
  clear hRR hR
  unfold tv
  go_enter Tryd.func25, Tryd.ntmps25
  go_wp2_with fail
  generalize (((w.alloc (.cells #[.slice po o.length co, .slice pi st.length ci] 50)).alloc (.cells #[.int .i64 t.kd, .string (S t.tx), .int .i64 t.nu, .int .i64 t.ln, .int .i64 t.co] 32)).alloc (.cells #[.slice none 0 0, .slice none 0 0] 50)) = W0 at *
  go_loopg [] (st.length) (fun gk wr => ∃ (po' : Option Addr) (co' : Nat) (o' : List Tok) (st' : List Blk), gk = st'.length ∧ NL w.heap.size t wr po' co' pi ci o' st' ∧ wf st' ∧ o'.length + st'.length ≤ 900000 ∧ lineM t st' o' = R ∧ Below w.heap.size w wr)
  case atStart => exact ⟨po, co, o, st, rfl, N0, hwf, hl, HRR.out, B0⟩
  case round =>
    obtain ⟨po', co', o', st', hgk, hN, hwf', hle, hLR, hB⟩ := hrel
    clear N0 B0 HRR
    have hb := below_drew wr.heap.size wr
    have HL := hide (fun W' hb => last_at hN (by omega) W' hb)
    have HLR := hide hLR
    have HN := hide hN
    have HW := hide hwf'
    clear hwf' hLR
    have c0 : wr.cell? ⟨w.heap.size, 0, none⟩ = some (.slice po' o'.length co') := hN.s.cell 0
    have c1 : wr.cell? ⟨w.heap.size, 1, none⟩ = some (.slice pi st'.length ci) := hN.s.cell 1
    have c4 : wr.cell? ⟨w.heap.size + 1, 4, none⟩ = some (.int .i64 t.co) := Hold.cell hN.tk 4
    have HF : Hid (∀ W' : World, Below wr.heap.size wr W' → W'.cell? ⟨w.heap.size, 0, none⟩ = some (.slice po' o'.length co') ∧ W'.cell? ⟨w.heap.size, 1, none⟩ = some (.slice pi st'.length ci) ∧ W'.cell? ⟨w.heap.size + 1, 4, none⟩ = some (.int .i64 t.co)) := fun W' hb => ⟨(HN.out.below hb).s.cell 0, (HN.out.below hb).s.cell 1, Hold.cell (HN.out.below hb).tk 4⟩
    have HG : Hid (∀ W' : World, Below wr.heap.size wr W' → W'.cell? ⟨w.heap.size, 0, none⟩ = some (.slice po' o'.length co') ∧ W'.cell? ⟨w.heap.size, 1, none⟩ = some (.slice pi st'.length ci) ∧ W'.cell? ⟨w.heap.size + 1 + 1, 0, none⟩ = some (.slice none 0 0) ∧ W'.cell? ⟨w.heap.size + 1 + 1, 1, none⟩ = some (.slice none 0 0) ∧ W'.frozen? ⟨w.heap.size + 1 + 1, 0, none⟩ = false ∧ W'.frozen? ⟨w.heap.size + 1 + 1, 1, none⟩ = false) := fun W' hb => ⟨(HN.out.below hb).s.cell 0, (HN.out.below hb).s.cell 1, (HN.out.below hb).re.cell 0, (HN.out.below hb).re.cell 1, (HN.out.below hb).re.frozen 0, (HN.out.below hb).re.frozen 1⟩
    have HE2 : Hid (∀ W' : World, Below wr.heap.size wr W' → RS ((W'.setCell ⟨w.heap.size + 1 + 1, 0, none⟩ (.slice po' o'.length co')).setCell ⟨w.heap.size + 1 + 1, 1, none⟩ (.slice pi st'.length ci)) po' co' pi ci o' st' ∧ Below w.heap.size w ((W'.setCell ⟨w.heap.size + 1 + 1, 0, none⟩ (.slice po' o'.length co')).setCell ⟨w.heap.size + 1 + 1, 1, none⟩ (.slice pi st'.length ci))) :=
      fun W' hb => ⟨(((HN.out.below hb).ra.set (by omega) (by omega) 0 _).set (by omega) (by omega) 1 _).rs, ((hB.trans (hb.mono hB.size)).setCell (by simp; omega) _).setCell (by simp; omega) _⟩
    clear hN
    by_cases h1 : 0 < lastI st'
    · have hd : decide (0 < lastI st') = true := by simpa using h1
      by_cases h2 : t.co < lastI st'
      · have hd2 : decide (t.co < lastI st') = true := by simpa using h2
        obtain ⟨b, r, hst, hsg, hcl⟩ := (lastI_pos st' HW.out).1 h1
        have HST := hide hst
        have HSG := hide hsg
        have HCL : Hid (t.co < b.cl) := by show t.co < b.cl; rw [← hcl]; exact h2
        clear hst hsg hcl
        generalize hx : lastI st' = x at HL h1 h2 hd hd2
        have HX := hide hx
        clear hx
        go_wp2_with fail
        refine wp_region_noPanic ?_
        refine region_J 10 (N := 10) (S := (fun W' => W'.cell? ⟨w.heap.size, 0, none⟩ = some (.slice po' o'.length co') ∧ W'.cell? ⟨w.heap.size, 1, none⟩ = some (.slice pi st'.length ci) ∧ W'.cell? ⟨w.heap.size + 1, 4, none⟩ = some (.int .i64 t.co))) (by kernel_rfl) (by kernel_rfl) ?_
        have hS := HF.out _ hb
        refine take_D (i := 0) 5 (.agg #[.slice po' o'.length co', .slice pi st'.length ci]) rfl rfl (by kernel_rfl) (by kernel_rfl) (by kernel_rfl) (by kernel_rfl) (fun _ _ _ h => h) (Or.inl ⟨by rfl, fun W' hW => by obtain ⟨s0, s1, s4⟩ := hW; go_simp⟩) hS ?_
        simp only [Act.put, List.setIfInBounds_toArray, List.set_cons_zero, List.set_cons_succ]
        refine ready_J (rs := [1]) (by kernel_rfl) (by simp) ?_
        intro i him
        obtain rfl := List.mem_singleton.1 him
        refine op_W rfl (by rfl) fun K hK => ?_
        go_simp
        refine (HL.out _ hb).mono ?_
        rintro e W1a ⟨rfl, hb⟩
        go_simp
        refine hK _ _ ⟨fun _ => HF.out _ hb, ?_⟩
        clear hK K
        have hS := HF.out _ hb
        refine take_D (i := 2) 7 (.bool true) rfl rfl (by kernel_rfl) (by kernel_rfl) (by kernel_rfl) (by kernel_rfl) (fun _ _ _ h => h) (Or.inl ⟨by rfl, fun W' hW => by obtain ⟨s0, s1, s4⟩ := hW; go_simp⟩) hS ?_
        simp only [Act.put, List.setIfInBounds_toArray, List.set_cons_zero, List.set_cons_succ]
        refine take_D (i := 3) 8 (.bool true) rfl rfl (by kernel_rfl) (by kernel_rfl) (by kernel_rfl) (by kernel_rfl) (fun _ _ _ h => h) (Or.inl ⟨by rfl, fun W' hW => by obtain ⟨s0, s1, s4⟩ := hW; go_simp⟩) hS ?_
        simp only [Act.put, List.setIfInBounds_toArray, List.set_cons_zero, List.set_cons_succ]
        refine take_D (i := 4) 9 (.agg #[.slice po' o'.length co', .slice pi st'.length ci]) rfl rfl (by kernel_rfl) (by kernel_rfl) (by kernel_rfl) (by kernel_rfl) (fun _ _ _ h => h) (Or.inl ⟨by rfl, fun W' hW => by obtain ⟨s0, s1, s4⟩ := hW; go_simp⟩) hS ?_
        simp only [Act.put, List.setIfInBounds_toArray, List.set_cons_zero, List.set_cons_succ]
        refine take_D (i := 6) 11 (.pointer (some ⟨w.heap.size + 1, 4, none⟩)) rfl rfl (by kernel_rfl) (by kernel_rfl) (by kernel_rfl) (by kernel_rfl) (fun _ _ _ h => h) (Or.inl ⟨by rfl, fun W' hW => by obtain ⟨s0, s1, s4⟩ := hW; go_simp⟩) hS ?_
        simp only [Act.put, List.setIfInBounds_toArray, List.set_cons_zero, List.set_cons_succ]
        refine take_D (i := 7) 12 (.int .i64 t.co) rfl rfl (by kernel_rfl) (by kernel_rfl) (by kernel_rfl) (by kernel_rfl) (fun _ _ _ h => h) (Or.inl ⟨by rfl, fun W' hW => by obtain ⟨s0, s1, s4⟩ := hW; go_simp⟩) hS ?_
        simp only [Act.put, List.setIfInBounds_toArray, List.set_cons_zero, List.set_cons_succ]
        refine ready_J (rs := [5]) (by kernel_rfl) (by simp) ?_
        intro i him
        obtain rfl := List.mem_singleton.1 him
        refine op_W rfl (by rfl) fun K hK => ?_
        go_simp
        refine (HL.out _ hb).mono ?_
        rintro e W1b ⟨rfl, hb⟩
        go_simp
        refine hK _ _ ⟨fun _ => HF.out _ hb, ?_⟩
        clear hK K
        have hS := HF.out _ hb
        refine take_D (i := 8) 13 (.bool true) rfl rfl (by kernel_rfl) (by kernel_rfl) (by kernel_rfl) (by kernel_rfl) (fun _ _ _ h => h) (Or.inl ⟨by rfl, fun W' hW => by obtain ⟨s0, s1, s4⟩ := hW; go_simp⟩) hS ?_
        simp only [Act.put, List.setIfInBounds_toArray, List.set_cons_zero, List.set_cons_succ]
        refine take_D (i := 9) 14 (.bool true) rfl rfl (by kernel_rfl) (by kernel_rfl) (by kernel_rfl) (by kernel_rfl) (fun _ _ _ h => h) (Or.inl ⟨by rfl, fun W' hW => by obtain ⟨s0, s1, s4⟩ := hW; go_simp⟩) hS ?_
        simp only [Act.put, List.setIfInBounds_toArray, List.set_cons_zero, List.set_cons_succ]
        refine done_J (by kernel_rfl) ?_ _
        refine NoPanic.normal ?_
        obtain ⟨d0, d1, e0, e1, g0, g1⟩ := HG.out _ hb
        have N1 := HN.out.below hb
        obtain ⟨k0, k1, k2, k3, k4⟩ := N1.tk.cells
        have HLEN : Hid (st'.length = r.length + 1) := by show st'.length = _; rw [HST.out]; simp
        have HP := hide (put_ref [125] t o' st' po' co' pi ci _ N1.ra.rs (by omega))
        unfold tv at HP
        have HN1 := hide N1
        clear N1 hS
        go_wp2_with fail
        refine HP.out.mono ?_
        rintro e W3 ⟨po2, co2, rfl, hR3, hB3, hF3⟩
        have N3 := HN1.out.below hB3
        have R3 : RA w.heap.size (w.heap.size + 3) W3 po2 co2 pi ci (o' ++ [⟨4, [125], 0, t.ln, t.co⟩]) st' := ⟨hR3, hF3.ap _ _ _ HN1.out.hi, N3.ra.ai⟩
        have SH := shut_ref (o' ++ [⟨4, [125], 0, t.ln, t.co⟩]) b r po2 co2 pi ci W3 (by rw [← HST.out]; exact hR3) (by have := HLEN.out; omega)
        rw [List.length_append, List.length_singleton, ← HLEN.out] at SH
        have HSH := hide SH
        have HN3 := hide N3
        have HR3 := hide R3
        clear SH N3 R3 hR3 k0 k1 k2 k3 k4 HP
        go_wp2_with fail
        refine HSH.out.mono ?_
        rintro e W4 ⟨rfl, hR4, hB4⟩
        have N4 := HN3.out.below hB4
        have R4 : RA w.heap.size (w.heap.size + 3) W4 po2 co2 pi ci (o' ++ [⟨4, [125], 0, t.ln, t.co⟩]) r := by
          refine ⟨hR4, HR3.out.ao, ?_⟩
          rcases HR3.out.ai with h | h
          · have := HLEN.out; omega
          · exact .inr h
        have k0 : W4.cell? ⟨w.heap.size, 0, none⟩ = some (.slice po' o'.length co') := N4.s.cell 0
        have k1 : W4.cell? ⟨w.heap.size, 1, none⟩ = some (.slice pi st'.length ci) := N4.s.cell 1
        have k2 := N4.s.frozen 0
        have k3 := N4.s.frozen 1
        have N5 := N4.store R4
        rw [List.length_append, List.length_singleton] at N5
        have HN5 := hide N5
        have HB4 : Hid (Below w.heap.size w W4) := hB.trans (((hb.trans (hB3.mono hb.size)).trans (hB4.mono (Nat.le_trans hb.size hB3.size))).mono hB.size)
        clear N4 N5 R4 hR4 HSH HN3 HR3 d0 d1 e0 e1 g0 g1
        go_wp2_with fail
        go_roundg (r.length)
        case measure => have := HLEN.out; omega
        case rel => exact ⟨po2, co2, _, r, rfl, HN5.out, by have := HW.out; rw [HST.out] at this; exact this.1, by have := HLEN.out; simp; omega, by rw [← line_step t b r o' HSG.out HCL.out, ← HST.out]; exact HLR.out, (HB4.out.setCell (by simp) _).setCell (by simp) _⟩
      · have hd2 : decide (t.co < lastI st') = false := by simpa using h2
        have HS := hide (line_stop t st' o' HW.out (fun k => h2 k.2))
        generalize hx : lastI st' = x at HL h1 h2 hd hd2 HS
        have HX := hide hx
        clear hx
        go_wp2_with fail
        refine wp_region_noPanic ?_
        refine region_J 10 (N := 10) (S := (fun W' => W'.cell? ⟨w.heap.size, 0, none⟩ = some (.slice po' o'.length co') ∧ W'.cell? ⟨w.heap.size, 1, none⟩ = some (.slice pi st'.length ci) ∧ W'.cell? ⟨w.heap.size + 1, 4, none⟩ = some (.int .i64 t.co))) (by kernel_rfl) (by kernel_rfl) ?_
        have hS := HF.out _ hb
        refine take_D (i := 0) 5 (.agg #[.slice po' o'.length co', .slice pi st'.length ci]) rfl rfl (by kernel_rfl) (by kernel_rfl) (by kernel_rfl) (by kernel_rfl) (fun _ _ _ h => h) (Or.inl ⟨by rfl, fun W' hW => by obtain ⟨s0, s1, s4⟩ := hW; go_simp⟩) hS ?_
        simp only [Act.put, List.setIfInBounds_toArray, List.set_cons_zero, List.set_cons_succ]
        refine ready_J (rs := [1]) (by kernel_rfl) (by simp) ?_
        intro i him
        obtain rfl := List.mem_singleton.1 him
        refine op_W rfl (by rfl) fun K hK => ?_
        go_simp
        refine (HL.out _ hb).mono ?_
        rintro e W1a ⟨rfl, hb⟩
        go_simp
        refine hK _ _ ⟨fun _ => HF.out _ hb, ?_⟩
        clear hK K
        have hS := HF.out _ hb
        refine take_D (i := 2) 7 (.bool true) rfl rfl (by kernel_rfl) (by kernel_rfl) (by kernel_rfl) (by kernel_rfl) (fun _ _ _ h => h) (Or.inl ⟨by rfl, fun W' hW => by obtain ⟨s0, s1, s4⟩ := hW; go_simp⟩) hS ?_
        simp only [Act.put, List.setIfInBounds_toArray, List.set_cons_zero, List.set_cons_succ]
        refine take_D (i := 3) 8 (.bool true) rfl rfl (by kernel_rfl) (by kernel_rfl) (by kernel_rfl) (by kernel_rfl) (fun _ _ _ h => h) (Or.inl ⟨by rfl, fun W' hW => by obtain ⟨s0, s1, s4⟩ := hW; go_simp⟩) hS ?_
        simp only [Act.put, List.setIfInBounds_toArray, List.set_cons_zero, List.set_cons_succ]
        refine take_D (i := 4) 9 (.agg #[.slice po' o'.length co', .slice pi st'.length ci]) rfl rfl (by kernel_rfl) (by kernel_rfl) (by kernel_rfl) (by kernel_rfl) (fun _ _ _ h => h) (Or.inl ⟨by rfl, fun W' hW => by obtain ⟨s0, s1, s4⟩ := hW; go_simp⟩) hS ?_
        simp only [Act.put, List.setIfInBounds_toArray, List.set_cons_zero, List.set_cons_succ]
        refine take_D (i := 6) 11 (.pointer (some ⟨w.heap.size + 1, 4, none⟩)) rfl rfl (by kernel_rfl) (by kernel_rfl) (by kernel_rfl) (by kernel_rfl) (fun _ _ _ h => h) (Or.inl ⟨by rfl, fun W' hW => by obtain ⟨s0, s1, s4⟩ := hW; go_simp⟩) hS ?_
        simp only [Act.put, List.setIfInBounds_toArray, List.set_cons_zero, List.set_cons_succ]
        refine take_D (i := 7) 12 (.int .i64 t.co) rfl rfl (by kernel_rfl) (by kernel_rfl) (by kernel_rfl) (by kernel_rfl) (fun _ _ _ h => h) (Or.inl ⟨by rfl, fun W' hW => by obtain ⟨s0, s1, s4⟩ := hW; go_simp⟩) hS ?_
        simp only [Act.put, List.setIfInBounds_toArray, List.set_cons_zero, List.set_cons_succ]
        refine ready_J (rs := [5]) (by kernel_rfl) (by simp) ?_
        intro i him
        obtain rfl := List.mem_singleton.1 him
        refine op_W rfl (by rfl) fun K hK => ?_
        go_simp
        refine (HL.out _ hb).mono ?_
        rintro e W1b ⟨rfl, hb⟩
        go_simp
        refine hK _ _ ⟨fun _ => HF.out _ hb, ?_⟩
        clear hK K
        have hS := HF.out _ hb
        refine take_D (i := 8) 13 (.bool false) rfl rfl (by kernel_rfl) (by kernel_rfl) (by kernel_rfl) (by kernel_rfl) (fun _ _ _ h => h) (Or.inl ⟨by rfl, fun W' hW => by obtain ⟨s0, s1, s4⟩ := hW; go_simp⟩) hS ?_
        simp only [Act.put, List.setIfInBounds_toArray, List.set_cons_zero, List.set_cons_succ]
        refine take_D (i := 9) 14 (.bool false) rfl rfl (by kernel_rfl) (by kernel_rfl) (by kernel_rfl) (by kernel_rfl) (fun _ _ _ h => h) (Or.inl ⟨by rfl, fun W' hW => by obtain ⟨s0, s1, s4⟩ := hW; go_simp⟩) hS ?_
        simp only [Act.put, List.setIfInBounds_toArray, List.set_cons_zero, List.set_cons_succ]
        refine done_J (by kernel_rfl) ?_ _
        refine NoPanic.normal ?_
        go_wp2_with fail
        have hb := hb.trans (below_drew _ _)
        by_cases h3 : x = t.co
        · have hd3 : decide (x = t.co) = true := by simpa using h3
          have hd4 : (x == t.co) = true := by simpa using h3
          have h5 : 0 < t.co := by rw [← h3]; exact h1
          refine wp_region_noPanic ?_
          refine region_J 10 (N := 10) (S := (fun W' => W'.cell? ⟨w.heap.size, 0, none⟩ = some (.slice po' o'.length co') ∧ W'.cell? ⟨w.heap.size, 1, none⟩ = some (.slice pi st'.length ci) ∧ W'.cell? ⟨w.heap.size + 1, 4, none⟩ = some (.int .i64 t.co))) (by kernel_rfl) (by kernel_rfl) ?_
          have hS := HF.out _ hb
          refine take_D (i := 0) 19 (.agg #[.slice po' o'.length co', .slice pi st'.length ci]) rfl rfl (by kernel_rfl) (by kernel_rfl) (by kernel_rfl) (by kernel_rfl) (fun _ _ _ h => h) (Or.inl ⟨by rfl, fun W' hW => by obtain ⟨s0, s1, s4⟩ := hW; go_simp⟩) hS ?_
          simp only [Act.put, List.setIfInBounds_toArray, List.set_cons_zero, List.set_cons_succ]
          refine ready_J (rs := [1]) (by kernel_rfl) (by simp) ?_
          intro i him
          obtain rfl := List.mem_singleton.1 him
          refine op_W rfl (by rfl) fun K hK => ?_
          go_simp
          refine (HL.out _ hb).mono ?_
          rintro e W2a ⟨rfl, hb⟩
          go_simp
          refine hK _ _ ⟨fun _ => HF.out _ hb, ?_⟩
          clear hK K
          have hS := HF.out _ hb
          refine take_D (i := 2) 21 (.bool true) rfl rfl (by kernel_rfl) (by kernel_rfl) (by kernel_rfl) (by kernel_rfl) (fun _ _ _ h => h) (Or.inl ⟨by rfl, fun W' hW => by obtain ⟨s0, s1, s4⟩ := hW; go_simp⟩) hS ?_
          simp only [Act.put, List.setIfInBounds_toArray, List.set_cons_zero, List.set_cons_succ]
          refine take_D (i := 3) 22 (.bool true) rfl rfl (by kernel_rfl) (by kernel_rfl) (by kernel_rfl) (by kernel_rfl) (fun _ _ _ h => h) (Or.inl ⟨by rfl, fun W' hW => by obtain ⟨s0, s1, s4⟩ := hW; go_simp⟩) hS ?_
          simp only [Act.put, List.setIfInBounds_toArray, List.set_cons_zero, List.set_cons_succ]
          refine take_D (i := 4) 23 (.agg #[.slice po' o'.length co', .slice pi st'.length ci]) rfl rfl (by kernel_rfl) (by kernel_rfl) (by kernel_rfl) (by kernel_rfl) (fun _ _ _ h => h) (Or.inl ⟨by rfl, fun W' hW => by obtain ⟨s0, s1, s4⟩ := hW; go_simp⟩) hS ?_
          simp only [Act.put, List.setIfInBounds_toArray, List.set_cons_zero, List.set_cons_succ]
          refine take_D (i := 6) 25 (.pointer (some ⟨w.heap.size + 1, 4, none⟩)) rfl rfl (by kernel_rfl) (by kernel_rfl) (by kernel_rfl) (by kernel_rfl) (fun _ _ _ h => h) (Or.inl ⟨by rfl, fun W' hW => by obtain ⟨s0, s1, s4⟩ := hW; go_simp⟩) hS ?_
          simp only [Act.put, List.setIfInBounds_toArray, List.set_cons_zero, List.set_cons_succ]
          refine take_D (i := 7) 26 (.int .i64 t.co) rfl rfl (by kernel_rfl) (by kernel_rfl) (by kernel_rfl) (by kernel_rfl) (fun _ _ _ h => h) (Or.inl ⟨by rfl, fun W' hW => by obtain ⟨s0, s1, s4⟩ := hW; go_simp⟩) hS ?_
          simp only [Act.put, List.setIfInBounds_toArray, List.set_cons_zero, List.set_cons_succ]
          refine ready_J (rs := [5]) (by kernel_rfl) (by simp) ?_
          intro i him
          obtain rfl := List.mem_singleton.1 him
          refine op_W rfl (by rfl) fun K hK => ?_
          go_simp
          refine (HL.out _ hb).mono ?_
          rintro e W2b ⟨rfl, hb⟩
          go_simp
          refine hK _ _ ⟨fun _ => HF.out _ hb, ?_⟩
          clear hK K
          have hS := HF.out _ hb
          refine take_D (i := 8) 27 (.bool true) rfl rfl (by kernel_rfl) (by kernel_rfl) (by kernel_rfl) (by kernel_rfl) (fun _ _ _ h => h) (Or.inl ⟨by rfl, fun W' hW => by obtain ⟨s0, s1, s4⟩ := hW; go_simp⟩) hS ?_
          simp only [Act.put, List.setIfInBounds_toArray, List.set_cons_zero, List.set_cons_succ]
          refine take_D (i := 9) 28 (.bool true) rfl rfl (by kernel_rfl) (by kernel_rfl) (by kernel_rfl) (by kernel_rfl) (fun _ _ _ h => h) (Or.inl ⟨by rfl, fun W' hW => by obtain ⟨s0, s1, s4⟩ := hW; go_simp⟩) hS ?_
          simp only [Act.put, List.setIfInBounds_toArray, List.set_cons_zero, List.set_cons_succ]
          refine done_J (by kernel_rfl) ?_ _
          refine NoPanic.normal ?_
          have HEND : Hid (R = (st', o' ++ [⟨4, [59], 0, t.ln, t.co⟩])) := by show R = _; rw [← HLR.out, HS.out, if_pos ⟨h1, h3⟩]
          have N1 := HN.out.below hb
          obtain ⟨k0, k1, k2, k3, k4⟩ := N1.tk.cells
          have m0 : W2b.cell? ⟨w.heap.size, 0, none⟩ = some (.slice po' o'.length co') := N1.s.cell 0
          have m1 : W2b.cell? ⟨w.heap.size, 1, none⟩ = some (.slice pi st'.length ci) := N1.s.cell 1
          have HP := hide (put_ref [59] t o' st' po' co' pi ci _ N1.ra.rs (by omega))
          unfold tv at HP
          have HN1 := hide N1
          clear N1 hS
          go_wp2_with fail
          refine HP.out.mono ?_
          rintro e W3 ⟨po2, co2, rfl, hR3, hB3, hF3⟩
          have N3 := HN1.out.below hB3
          have R3 : RA w.heap.size (w.heap.size + 3) W3 po2 co2 pi ci (o' ++ [⟨4, [59], 0, t.ln, t.co⟩]) st' := ⟨hR3, hF3.ap _ _ _ HN1.out.hi, N3.ra.ai⟩
          have j0 : W3.cell? ⟨w.heap.size, 0, none⟩ = some (.slice po' o'.length co') := N3.s.cell 0
          have j1 : W3.cell? ⟨w.heap.size, 1, none⟩ = some (.slice pi st'.length ci) := N3.s.cell 1
          have j2 := N3.s.frozen 0
          have j3 := N3.s.frozen 1
          have N5 := N3.store R3
          rw [List.length_append, List.length_singleton] at N5
          have i0 : ((W3.setCell ⟨w.heap.size, 0, none⟩ (.slice po2 (o'.length + 1) co2)).setCell ⟨w.heap.size, 1, none⟩ (.slice pi st'.length ci)).cell? ⟨w.heap.size, 0, none⟩ = some (.slice po2 (o'.length + 1) co2) := by have := N5.s.cell 0; simp at this; exact this
          have i1 : ((W3.setCell ⟨w.heap.size, 0, none⟩ (.slice po2 (o'.length + 1) co2)).setCell ⟨w.heap.size, 1, none⟩ (.slice pi st'.length ci)).cell? ⟨w.heap.size, 1, none⟩ = some (.slice pi st'.length ci) := N5.s.cell 1
          have i2 := N5.re.cell 0
          have i3 := N5.re.cell 1
          have i4 := N5.re.frozen 0
          have i5 := N5.re.frozen 1
          have HN5 := hide N5
          have HB4 : Hid (Below w.heap.size w W3) := hB.trans ((hb.trans (hB3.mono hb.size)).mono hB.size)
          clear N3 N5 R3 hR3 HP k0 k1 k2 k3 k4 m0 m1
          go_wp2_with fail
          have hra := ((HN5.out.ra.set (b := w.heap.size + 1 + 1) (by omega) (by omega) 0 (.slice po2 (o'.length + 1) co2)).set (b := w.heap.size + 1 + 1) (by omega) (by omega) 1 (.slice pi st'.length ci)).rs
          have hBf := (((HB4.out.setCell (p := ⟨w.heap.size, 0, none⟩) (by simp) (.slice po2 (o'.length + 1) co2)).setCell (p := ⟨w.heap.size, 1, none⟩) (by simp) (.slice pi st'.length ci)).setCell (p := ⟨w.heap.size + 1 + 1, 0, none⟩) (by simp; omega) (.slice po2 (o'.length + 1) co2)).setCell (p := ⟨w.heap.size + 1 + 1, 1, none⟩) (by simp; omega) (.slice pi st'.length ci)
          exact bodyPost_ret (v := .agg #[.slice po2 (o'.length + 1) co2, .slice pi st'.length ci]) (by simp only [results, Tryd.results25]; go_simp) rfl ⟨po2, co2, by rw [HEND.out]; simp, by rw [HEND.out]; exact hra, hBf⟩
        · have hd3 : decide (x = t.co) = false := by simpa using h3
          have hd4 : (x == t.co) = false := by simpa using h3
          have HEND : Hid (R = (st', o')) := by show R = (st', o'); rw [← HLR.out, HS.out, if_neg (fun k => h3 k.2)]
          refine wp_region_noPanic ?_
          refine region_J 10 (N := 10) (S := (fun W' => W'.cell? ⟨w.heap.size, 0, none⟩ = some (.slice po' o'.length co') ∧ W'.cell? ⟨w.heap.size, 1, none⟩ = some (.slice pi st'.length ci) ∧ W'.cell? ⟨w.heap.size + 1, 4, none⟩ = some (.int .i64 t.co))) (by kernel_rfl) (by kernel_rfl) ?_
          have hS := HF.out _ hb
          refine take_D (i := 0) 19 (.agg #[.slice po' o'.length co', .slice pi st'.length ci]) rfl rfl (by kernel_rfl) (by kernel_rfl) (by kernel_rfl) (by kernel_rfl) (fun _ _ _ h => h) (Or.inl ⟨by rfl, fun W' hW => by obtain ⟨s0, s1, s4⟩ := hW; go_simp⟩) hS ?_
          simp only [Act.put, List.setIfInBounds_toArray, List.set_cons_zero, List.set_cons_succ]
          refine ready_J (rs := [1]) (by kernel_rfl) (by simp) ?_
          intro i him
          obtain rfl := List.mem_singleton.1 him
          refine op_W rfl (by rfl) fun K hK => ?_
          go_simp
          refine (HL.out _ hb).mono ?_
          rintro e W2a ⟨rfl, hb⟩
          go_simp
          refine hK _ _ ⟨fun _ => HF.out _ hb, ?_⟩
          clear hK K
          have hS := HF.out _ hb
          refine take_D (i := 2) 21 (.bool true) rfl rfl (by kernel_rfl) (by kernel_rfl) (by kernel_rfl) (by kernel_rfl) (fun _ _ _ h => h) (Or.inl ⟨by rfl, fun W' hW => by obtain ⟨s0, s1, s4⟩ := hW; go_simp⟩) hS ?_
          simp only [Act.put, List.setIfInBounds_toArray, List.set_cons_zero, List.set_cons_succ]
          refine take_D (i := 3) 22 (.bool true) rfl rfl (by kernel_rfl) (by kernel_rfl) (by kernel_rfl) (by kernel_rfl) (fun _ _ _ h => h) (Or.inl ⟨by rfl, fun W' hW => by obtain ⟨s0, s1, s4⟩ := hW; go_simp⟩) hS ?_
          simp only [Act.put, List.setIfInBounds_toArray, List.set_cons_zero, List.set_cons_succ]
          refine take_D (i := 4) 23 (.agg #[.slice po' o'.length co', .slice pi st'.length ci]) rfl rfl (by kernel_rfl) (by kernel_rfl) (by kernel_rfl) (by kernel_rfl) (fun _ _ _ h => h) (Or.inl ⟨by rfl, fun W' hW => by obtain ⟨s0, s1, s4⟩ := hW; go_simp⟩) hS ?_
          simp only [Act.put, List.setIfInBounds_toArray, List.set_cons_zero, List.set_cons_succ]
          refine take_D (i := 6) 25 (.pointer (some ⟨w.heap.size + 1, 4, none⟩)) rfl rfl (by kernel_rfl) (by kernel_rfl) (by kernel_rfl) (by kernel_rfl) (fun _ _ _ h => h) (Or.inl ⟨by rfl, fun W' hW => by obtain ⟨s0, s1, s4⟩ := hW; go_simp⟩) hS ?_
          simp only [Act.put, List.setIfInBounds_toArray, List.set_cons_zero, List.set_cons_succ]
          refine take_D (i := 7) 26 (.int .i64 t.co) rfl rfl (by kernel_rfl) (by kernel_rfl) (by kernel_rfl) (by kernel_rfl) (fun _ _ _ h => h) (Or.inl ⟨by rfl, fun W' hW => by obtain ⟨s0, s1, s4⟩ := hW; go_simp⟩) hS ?_
          simp only [Act.put, List.setIfInBounds_toArray, List.set_cons_zero, List.set_cons_succ]
          refine ready_J (rs := [5]) (by kernel_rfl) (by simp) ?_
          intro i him
          obtain rfl := List.mem_singleton.1 him
          refine op_W rfl (by rfl) fun K hK => ?_
          go_simp
          refine (HL.out _ hb).mono ?_
          rintro e W2b ⟨rfl, hb⟩
          go_simp
          refine hK _ _ ⟨fun _ => HF.out _ hb, ?_⟩
          clear hK K
          have hS := HF.out _ hb
          refine take_D (i := 8) 27 (.bool false) rfl rfl (by kernel_rfl) (by kernel_rfl) (by kernel_rfl) (by kernel_rfl) (fun _ _ _ h => h) (Or.inl ⟨by rfl, fun W' hW => by obtain ⟨s0, s1, s4⟩ := hW; go_simp⟩) hS ?_
          simp only [Act.put, List.setIfInBounds_toArray, List.set_cons_zero, List.set_cons_succ]
          refine take_D (i := 9) 28 (.bool false) rfl rfl (by kernel_rfl) (by kernel_rfl) (by kernel_rfl) (by kernel_rfl) (fun _ _ _ h => h) (Or.inl ⟨by rfl, fun W' hW => by obtain ⟨s0, s1, s4⟩ := hW; go_simp⟩) hS ?_
          simp only [Act.put, List.setIfInBounds_toArray, List.set_cons_zero, List.set_cons_succ]
          refine done_J (by kernel_rfl) ?_ _
          refine NoPanic.normal ?_
          obtain ⟨d0, d1, e0, e1, g0, g1⟩ := HG.out _ hb
          go_wp2_with fail
          exact bodyPost_ret (v := .agg #[.slice po' o'.length co', .slice pi st'.length ci]) (by simp only [results, Tryd.results25]; go_simp) rfl ⟨po', co', by rw [HEND.out], by rw [HEND.out]; exact (HE2.out _ hb).1, (HE2.out _ hb).2⟩
    · have HS := hide (line_stop t st' o' HW.out (fun k => h1 k.1))
      generalize hx : lastI st' = x at HL h1 HS
      have hd : decide (0 < x) = false := by simpa using h1
      have HEND : Hid (R = (st', o')) := by show R = (st', o'); rw [← HLR.out, HS.out, if_neg (fun k => h1 k.1)]
      have HX := hide hx
      clear hx
      go_wp2_with fail
      refine wp_region_noPanic ?_
      refine region_J 10 (N := 10) (S := (fun W' => W'.cell? ⟨w.heap.size, 0, none⟩ = some (.slice po' o'.length co') ∧ W'.cell? ⟨w.heap.size, 1, none⟩ = some (.slice pi st'.length ci) ∧ W'.cell? ⟨w.heap.size + 1, 4, none⟩ = some (.int .i64 t.co))) (by kernel_rfl) (by kernel_rfl) ?_
      have hS := HF.out _ hb
      refine take_D (i := 0) 5 (.agg #[.slice po' o'.length co', .slice pi st'.length ci]) rfl rfl (by kernel_rfl) (by kernel_rfl) (by kernel_rfl) (by kernel_rfl) (fun _ _ _ h => h) (Or.inl ⟨by rfl, fun W' hW => by obtain ⟨s0, s1, s4⟩ := hW; go_simp⟩) hS ?_
      simp only [Act.put, List.setIfInBounds_toArray, List.set_cons_zero, List.set_cons_succ]
      refine ready_J (rs := [1]) (by kernel_rfl) (by simp) ?_
      intro i him
      obtain rfl := List.mem_singleton.1 him
      refine op_W rfl (by rfl) fun K hK => ?_
      go_simp
      refine (HL.out _ hb).mono ?_
      rintro e W1a ⟨rfl, hb⟩
      go_simp
      refine hK _ _ ⟨fun _ => HF.out _ hb, ?_⟩
      clear hK K
      have hS := HF.out _ hb
      refine take_D (i := 2) 7 (.bool false) rfl rfl (by kernel_rfl) (by kernel_rfl) (by kernel_rfl) (by kernel_rfl) (fun _ _ _ h => h) (Or.inl ⟨by rfl, fun W' hW => by obtain ⟨s0, s1, s4⟩ := hW; go_simp⟩) hS ?_
      simp only [Act.put, List.setIfInBounds_toArray, List.set_cons_zero, List.set_cons_succ]
      refine take_D (i := 3) 8 (.bool false) rfl rfl (by kernel_rfl) (by kernel_rfl) (by kernel_rfl) (by kernel_rfl) (fun _ _ _ h => h) (Or.inl ⟨by rfl, fun W' hW => by obtain ⟨s0, s1, s4⟩ := hW; go_simp⟩) hS ?_
      simp only [Act.put, List.setIfInBounds_toArray, List.set_cons_zero, List.set_cons_succ]
      refine take_D (i := 4) 9 undef rfl rfl (by kernel_rfl) (by kernel_rfl) (by kernel_rfl) (by kernel_rfl) (fun _ _ _ h => h) (Or.inr ⟨by rfl, rfl⟩) hS ?_
      simp only [Act.put, List.setIfInBounds_toArray, List.set_cons_zero, List.set_cons_succ]
      refine take_D (i := 5) 10 undef rfl rfl (by kernel_rfl) (by kernel_rfl) (by kernel_rfl) (by kernel_rfl) (fun _ _ _ h => h) (Or.inr ⟨by rfl, rfl⟩) hS ?_
      simp only [Act.put, List.setIfInBounds_toArray, List.set_cons_zero, List.set_cons_succ]
      refine take_D (i := 6) 11 undef rfl rfl (by kernel_rfl) (by kernel_rfl) (by kernel_rfl) (by kernel_rfl) (fun _ _ _ h => h) (Or.inr ⟨by rfl, rfl⟩) hS ?_
      simp only [Act.put, List.setIfInBounds_toArray, List.set_cons_zero, List.set_cons_succ]
      refine take_D (i := 7) 12 undef rfl rfl (by kernel_rfl) (by kernel_rfl) (by kernel_rfl) (by kernel_rfl) (fun _ _ _ h => h) (Or.inr ⟨by rfl, rfl⟩) hS ?_
      simp only [Act.put, List.setIfInBounds_toArray, List.set_cons_zero, List.set_cons_succ]
      refine take_D (i := 8) 13 undef rfl rfl (by kernel_rfl) (by kernel_rfl) (by kernel_rfl) (by kernel_rfl) (fun _ _ _ h => h) (Or.inr ⟨by rfl, rfl⟩) hS ?_
      simp only [Act.put, List.setIfInBounds_toArray, List.set_cons_zero, List.set_cons_succ]
      refine take_D (i := 9) 14 (.bool false) rfl rfl (by kernel_rfl) (by kernel_rfl) (by kernel_rfl) (by kernel_rfl) (fun _ _ _ h => h) (Or.inl ⟨by rfl, fun W' hW => by obtain ⟨s0, s1, s4⟩ := hW; go_simp⟩) hS ?_
      simp only [Act.put, List.setIfInBounds_toArray, List.set_cons_zero, List.set_cons_succ]
      refine done_J (by kernel_rfl) ?_ _
      refine NoPanic.normal ?_
      go_wp2_with fail
      have hb := hb.trans (below_drew _ _)
      refine wp_region_noPanic ?_
      refine region_J 10 (N := 10) (S := (fun W' => W'.cell? ⟨w.heap.size, 0, none⟩ = some (.slice po' o'.length co') ∧ W'.cell? ⟨w.heap.size, 1, none⟩ = some (.slice pi st'.length ci) ∧ W'.cell? ⟨w.heap.size + 1, 4, none⟩ = some (.int .i64 t.co))) (by kernel_rfl) (by kernel_rfl) ?_
      have hS := HF.out _ hb
      refine take_D (i := 0) 19 (.agg #[.slice po' o'.length co', .slice pi st'.length ci]) rfl rfl (by kernel_rfl) (by kernel_rfl) (by kernel_rfl) (by kernel_rfl) (fun _ _ _ h => h) (Or.inl ⟨by rfl, fun W' hW => by obtain ⟨s0, s1, s4⟩ := hW; go_simp⟩) hS ?_
      simp only [Act.put, List.setIfInBounds_toArray, List.set_cons_zero, List.set_cons_succ]
      refine ready_J (rs := [1]) (by kernel_rfl) (by simp) ?_
      intro i him
      obtain rfl := List.mem_singleton.1 him
      refine op_W rfl (by rfl) fun K hK => ?_
      go_simp
      refine (HL.out _ hb).mono ?_
      rintro e W2a ⟨rfl, hb⟩
      go_simp
      refine hK _ _ ⟨fun _ => HF.out _ hb, ?_⟩
      clear hK K
      have hS := HF.out _ hb
      refine take_D (i := 2) 21 (.bool false) rfl rfl (by kernel_rfl) (by kernel_rfl) (by kernel_rfl) (by kernel_rfl) (fun _ _ _ h => h) (Or.inl ⟨by rfl, fun W' hW => by obtain ⟨s0, s1, s4⟩ := hW; go_simp⟩) hS ?_
      simp only [Act.put, List.setIfInBounds_toArray, List.set_cons_zero, List.set_cons_succ]
      refine take_D (i := 3) 22 (.bool false) rfl rfl (by kernel_rfl) (by kernel_rfl) (by kernel_rfl) (by kernel_rfl) (fun _ _ _ h => h) (Or.inl ⟨by rfl, fun W' hW => by obtain ⟨s0, s1, s4⟩ := hW; go_simp⟩) hS ?_
      simp only [Act.put, List.setIfInBounds_toArray, List.set_cons_zero, List.set_cons_succ]
      refine take_D (i := 4) 23 undef rfl rfl (by kernel_rfl) (by kernel_rfl) (by kernel_rfl) (by kernel_rfl) (fun _ _ _ h => h) (Or.inr ⟨by rfl, rfl⟩) hS ?_
      simp only [Act.put, List.setIfInBounds_toArray, List.set_cons_zero, List.set_cons_succ]
      refine take_D (i := 5) 24 undef rfl rfl (by kernel_rfl) (by kernel_rfl) (by kernel_rfl) (by kernel_rfl) (fun _ _ _ h => h) (Or.inr ⟨by rfl, rfl⟩) hS ?_
      simp only [Act.put, List.setIfInBounds_toArray, List.set_cons_zero, List.set_cons_succ]
      refine take_D (i := 6) 25 undef rfl rfl (by kernel_rfl) (by kernel_rfl) (by kernel_rfl) (by kernel_rfl) (fun _ _ _ h => h) (Or.inr ⟨by rfl, rfl⟩) hS ?_
      simp only [Act.put, List.setIfInBounds_toArray, List.set_cons_zero, List.set_cons_succ]
      refine take_D (i := 7) 26 undef rfl rfl (by kernel_rfl) (by kernel_rfl) (by kernel_rfl) (by kernel_rfl) (fun _ _ _ h => h) (Or.inr ⟨by rfl, rfl⟩) hS ?_
      simp only [Act.put, List.setIfInBounds_toArray, List.set_cons_zero, List.set_cons_succ]
      refine take_D (i := 8) 27 undef rfl rfl (by kernel_rfl) (by kernel_rfl) (by kernel_rfl) (by kernel_rfl) (fun _ _ _ h => h) (Or.inr ⟨by rfl, rfl⟩) hS ?_
      simp only [Act.put, List.setIfInBounds_toArray, List.set_cons_zero, List.set_cons_succ]
      refine take_D (i := 9) 28 (.bool false) rfl rfl (by kernel_rfl) (by kernel_rfl) (by kernel_rfl) (by kernel_rfl) (fun _ _ _ h => h) (Or.inl ⟨by rfl, fun W' hW => by obtain ⟨s0, s1, s4⟩ := hW; go_simp⟩) hS ?_
      simp only [Act.put, List.setIfInBounds_toArray, List.set_cons_zero, List.set_cons_succ]
      refine done_J (by kernel_rfl) ?_ _
      refine NoPanic.normal ?_
      obtain ⟨d0, d1, e0, e1, g0, g1⟩ := HG.out _ hb
      go_wp2_with fail
      exact bodyPost_ret (v := .agg #[.slice po' o'.length co', .slice pi st'.length ci]) (by simp only [results, Tryd.results25]; go_simp) rfl ⟨po', co', by rw [HEND.out], by rw [HEND.out]; exact (HE2.out _ hb).1, (HE2.out _ hb).2⟩
end Go.Proofs.YtnifnbndkbmdcaaDoor
