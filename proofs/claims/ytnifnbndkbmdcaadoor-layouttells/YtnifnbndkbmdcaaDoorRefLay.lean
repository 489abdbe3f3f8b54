/-
  THE WALK OF dawdlerref03.Layout: it says what layM says, of any tokens up to 100,000.
-/
import Derived.Test.YtnifnbndkbmdcaaDoorRefLayA
namespace Go.Proofs.YtnifnbndkbmdcaaDoor
open Go.RowKit
set_option linter.unusedVariables false
/-- What holds at the head of a round. -/
def RelL (w : World) (l : List Tok) (s0 : Sm) (m : Nat) (gk : Nat) (f i : Value) (wr : World) : Prop :=
  ∃ (k : Nat) (fb : Bool) (po : Option Addr) (co : Nat) (pi : Option Addr) (ci : Nat) (o : List Tok) (st : List Blk), k ≤ m ∧ gk = m - k ∧ f = .bool fb ∧ i = .int .i64 k ∧ o.length + st.length ≤ 2 + 4 * k ∧ LH w.heap.size wr po co pi ci o st ∧ wf st ∧ Below w.heap.size w wr ∧ ((k = 0 ∧ o = [] ∧ st = []) ∨ (0 < k ∧ goM none l s0 = goM (prevM l k) (l.drop k) (st, o, fb)))
set_option maxRecDepth 100000 in
set_option maxHeartbeats 6400000 in
theorem layref_cons (g og m c : Nat) (t : Tok) (r : List Tok) (w : World) (hl : (t :: r).length = m) (hm : m ≤ 100000) (hmc : m ≤ c) (hg : g < w.heap.size) (hgm : ∀ i x, (t :: r)[i]? = some x → Hold2 g (og + i * 5) x w) :
    Calls Tryd.prog 10 #[.slice (some ⟨g, og, none⟩) m c] w fun e W' => ∃ pa cp, e = .returned (.tuple #[.slice pa (layM (t :: r)).1.length cp, .agg #[.int .i64 (layM (t :: r)).2.1.1, .int .i64 (layM (t :: r)).2.1.2], .int .i64 (layM (t :: r)).2.2]) ∧ TMem W' pa (layM (t :: r)).1 ∧ Below w.heap.size w W' := by
  have hm1 : r.length + 1 = m := by simpa using hl
  have hm0 : 0 < m := by omega
  have HGM := hide hgm
  clear hgm
  obtain ⟨u, hu⟩ : ∃ u, u = (t :: r).getLast (by simp) := ⟨_, rfl⟩
  have HLM : Hid (layM (t :: r) = resM u (goM none (t :: r) (start t))) := by show layM (t :: r) = _; rw [hu]; rfl
  generalize layM (t :: r) = R at *
  have P0 := Hold.new w #[.int .i64 0, .int .i64 0] 25
  have P1 := P0.alloc (.cells #[.slice none 0 0, .slice none 0 0] 50)
  have S1 := Hold.new (w.alloc (.cells #[.int .i64 0, .int .i64 0] 25)) #[.slice none 0 0, .slice none 0 0] 50
  have B1 := ((Below.refl _ w).alloc (Nat.le_refl _) (.cells #[.int .i64 0, .int .i64 0] 25)).alloc (by simp) (.cells #[.slice none 0 0, .slice none 0 0] 50)
  rw [World.size_alloc] at S1
  have hR : RS ((w.alloc (.cells #[.int .i64 0, .int .i64 0] 25)).alloc (.cells #[.slice none 0 0, .slice none 0 0] 50)) none 0 none 0 [] [] := ⟨.inl rfl, .inl rfl, Nat.le_refl _, fun _ => rfl, fun _ => rfl⟩
  have L1 : LH w.heap.size ((w.alloc (.cells #[.int .i64 0, .int .i64 0] 25)).alloc (.cells #[.slice none 0 0, .slice none 0 0] 50)) none 0 none 0 [] [] := ⟨P1, S1, hR⟩
  clear P0 P1 S1 hR
  have hst : (start t).2.1.length + (start t).1.length ≤ 2 := by unfold start; split <;> simp
  have hu2 : (t :: r)[m - 1]? = some u := by rw [← hl, ← List.getLast?_eq_getElem?, List.getLast?_eq_some_getLast (by simp), hu]
  have ht0 : (t :: r)[0]? = some t := rfl
  clear hu
  generalize hs0 : start t = s0 at *
  generalize t :: r = l at *
  go_enter Tryd.func10, Tryd.ntmps10
  go_wp2_with fail
  generalize ((w.alloc (.cells #[.int .i64 0, .int .i64 0] 25)).alloc (.cells #[.slice none 0 0, .slice none 0 0] 50)) = W1 at *
  go_loopg [6, 7] m (fun gk f i wr => RelL w l s0 m gk f i wr)
  case atStart => exact ⟨0, true, none, 0, none, 0, [], [], Nat.zero_le _, by omega, rfl, rfl, by simp, L1, trivial, B1, .inl ⟨rfl, rfl, rfl⟩⟩
  case round =>
    obtain ⟨k, fb, po, co, pi, ci, o, st, hk, hgk, rfl, rfl, hsm, L2, hwf, B2, hgo⟩ := hrel
    clear L1 B1
    have HGO := hide hgo
    have HWF := hide hwf
    clear hgo hwf
    by_cases hlt : k < m
    · have hkl : k < l.length := by omega
      have hdr := List.drop_eq_getElem_cons hkl
      have hgr : g < wr.heap.size := Nat.lt_of_lt_of_le hg B2.size
      have GK : Hold2 g (og + k * 5) l[k] wr := Hold2.below (HGM.out k l[k] (by simp)) B2 hg
      obtain ⟨x, hx⟩ : ∃ x, x = l[k] := ⟨_, rfl⟩
      have hxk : l[k]? = some x := by rw [hx]; simp
      rw [← hx] at GK hdr
      clear hx
      have T3 := TB.new wr x
      have B3 := B2.alloc B2.size (.cells #[.int .i64 x.kd, .string (S x.tx), .int .i64 x.nu, .int .i64 x.ln, .int .i64 x.co] 32)
      have L3 := L2.below ((Below.refl _ wr).alloc (Nat.le_refl _) (.cells #[.int .i64 x.kd, .string (S x.tx), .int .i64 x.nu, .int .i64 x.ln, .int .i64 x.co] 32))
      have hpq : w.heap.size + 2 ≤ wr.heap.size := L2.hi
      obtain ⟨n0, n1, n2, n3, n4⟩ := GK
      have hk1 : (0 : Int) ≤ (k : Int) := by omega
      have hk2 : (k : Int) < (m : Int) := by omega
      clear L2 B2
      obtain ⟨c0, c1, c2, c3, c4⟩ := T3.cells
      have I := hide (fun w => rkey_any x [123] w)
      unfold tv at I
      go_upto_region 7 with fail
      generalize hwq : (wr.alloc (.cells #[.int .i64 x.kd, .string (S x.tx), .int .i64 x.nu, .int .i64 x.ln, .int .i64 x.co] 32)) = W3 at *
      clear n0 n1 n2 n3 n4 hwq
      generalize hpp : wr.heap.size = pt at *
      clear hpp
      go_cut [6, 7, 8, 28] (fun s6 s7 s8 s28 wx => s6 = .bool fb ∧ s7 = .int .i64 k ∧ s8 = .pointer (some ⟨pt, 0, none⟩) ∧ s28 = .bool (decide (k = 0) && !isK x [123]) ∧ LH w.heap.size wx po co pi ci o st ∧ TB pt x wx ∧ Below w.heap.size w wx)
      case first =>
        by_cases hk0 : k = 0
        · subst hk0
          go_wp2_with fail
          refine (I.out _).mono ?_
          rintro e w4 ⟨rfl, b4⟩
          go_wp2_with fail
          go_meet
          case rel => exact ⟨rfl, rfl, rfl, by simp, L3.below b4, TB.below T3 b4 (Hold.lt T3), B3.trans (b4.mono B3.size)⟩
        · have hkb : ((k : Int) == 0) = false := by simpa using hk0
          go_wp2_with fail
          go_meet
          case rel => exact ⟨rfl, rfl, rfl, by simp [hk0], L3, T3, B3⟩
      case rest =>
        obtain ⟨rfl, rfl, rfl, rfl, L4, T4, B4⟩ := hcut
        clear L3 T3 B3 c0 c1 c2 c3 c4 I
        obtain ⟨r0, hr0⟩ : ∃ r0 : List Blk × List Tok, r0 = (if k = 0 then ((start x).1, (start x).2.1) else (st, o)) := ⟨_, rfl⟩
        have hxt : k = 0 → x = t := fun h => by subst h; rw [ht0] at hxk; cases hxk; rfl
        have hwf0 : wf r0.1 := by
          rw [hr0]; split
          · exact wf_start x
          · exact HWF.out
        have HGO2 : Hid (goM none l s0 = match stepM (over (prevM l k) x) x (l.drop (k + 1)) (r0.1, r0.2, fb) with | none => .error x | some s' => goM (some x) (l.drop (k + 1)) s') := by
          show goM none l s0 = _
          rcases HGO.out with ⟨h0, _, _⟩ | ⟨h0, h1⟩
          · subst h0
            have e : l = x :: l.drop 1 := by simpa using hdr
            have e2 := hxt rfl
            rw [hr0, if_pos rfl, e2, hs0]
            conv => lhs; rw [e, e2]
            rfl
          · rw [h1, hdr, hr0, if_neg (by omega)]; rfl
        have hsm0 : r0.2.length + r0.1.length ≤ 2 + 4 * k := by
          rw [hr0]; split
          · rename_i h; rw [hxt h, hs0]; simp only; omega
          · exact hsm
        have hst1 : r0 = (st, o) ∨ (k = 0 ∧ o = [] ∧ st = [] ∧ isK x [123] = false ∧ r0 = ([⟨[], max x.co 1⟩], [pt1 123 x])) := by
          rcases HGO.out with ⟨h0, h1, h2⟩ | ⟨h0, h1⟩
          · rw [hr0, if_pos h0, h1, h2]
            unfold start
            cases isK x [123]
            · exact .inr ⟨h0, rfl, rfl, rfl, rfl⟩
            · exact .inl rfl
          · exact .inl (by rw [hr0, if_neg (by omega)])
        have hst2 : (decide (k = 0) && !isK x [123]) = true → (k = 0 ∧ o = [] ∧ st = [] ∧ isK x [123] = false ∧ r0 = ([⟨[], max x.co 1⟩], [pt1 123 x])) := by
          intro h
          rcases HGO.out with ⟨h0, h1, h2⟩ | ⟨h0, h1⟩
          · rw [hr0, if_pos h0, h1, h2]
            unfold start
            cases hi : isK x [123]
            · exact ⟨h0, rfl, rfl, rfl, rfl⟩
            · simp [hi] at h
          · simp at h; omega
        have hst3 : (decide (k = 0) && !isK x [123]) = false → r0 = (st, o) := by
          intro h
          rcases hst1 with h1 | ⟨h0, _, _, h1, _⟩
          · exact h1
          · simp [h0, h1] at h
        have HS2 := hide hst2
        have HS3 := hide hst3
        have HWF0 := hide hwf0
        clear hst1 hst2 hst3 hr0 HGO hwf0 HWF hdr hsm hxt hs0 hst
        generalize hgg : (decide (k = 0) && !isK x [123]) = gg at *
        clear hgg
        obtain ⟨c0, c1, c2, c3, c4⟩ := T4.cells
        have d0 : wc.cell? ⟨w.heap.size + 1, 0, none⟩ = some (.slice po o.length co) := L4.s.cell 0
        have d1 : wc.cell? ⟨w.heap.size + 1, 1, none⟩ = some (.slice pi st.length ci) := L4.s.cell 1
        have d2 := L4.s.frozen 0
        have d3 := L4.s.frozen 1
        go_upto_if 28 with fail
        go_cut [6, 7, 8] (fun s6 s7 s8 wx => s6 = .bool fb ∧ s7 = .int .i64 k ∧ s8 = .pointer (some ⟨pt, 0, none⟩) ∧ (∃ po co pi ci, LH w.heap.size wx po co pi ci r0.2 r0.1) ∧ TB pt x wx ∧ Below w.heap.size w wx)
        case first =>
          cases gg
          · have h3 := HS3.out rfl
            subst h3
            go_wp2_with fail
            go_meet
            case rel => exact ⟨rfl, rfl, rfl, ⟨po, co, pi, ci, L4⟩, T4, B4⟩
          · obtain ⟨hk0, ho, hs, hi, h3⟩ := HS2.out rfl
            subst ho hs
            clear HS2 HS3 hk0
            go_wp2_with fail
            simp only [List.length_nil] at d0 d1
            have HL4 := hide L4
            have HT4 := hide T4
            have HF : Hid (∀ W' : World, Below wc.heap.size wc W' → W'.cell? ⟨w.heap.size + 1, 0, none⟩ = some (.slice po 0 co) ∧ W'.cell? ⟨w.heap.size + 1, 1, none⟩ = some (.slice pi 0 ci) ∧ W'.cell? ⟨pt, 0, none⟩ = some (.int .i64 x.kd) ∧ W'.cell? ⟨pt, 1, none⟩ = some (.string (S x.tx)) ∧ W'.cell? ⟨pt, 2, none⟩ = some (.int .i64 x.nu) ∧ W'.cell? ⟨pt, 3, none⟩ = some (.int .i64 x.ln) ∧ W'.cell? ⟨pt, 4, none⟩ = some (.int .i64 x.co)) := fun W' hb => ⟨(HL4.out.below hb).s.cell 0, (HL4.out.below hb).s.cell 1, TB.cells (TB.below HT4.out hb (Hold.lt HT4.out))⟩
            have hb := below_drew wc.heap.size wc
            refine wp_region_noPanic ?_
            refine region_J 8 (N := 7) (S := (fun W' => W'.cell? ⟨w.heap.size + 1, 0, none⟩ = some (.slice po 0 co) ∧ W'.cell? ⟨w.heap.size + 1, 1, none⟩ = some (.slice pi 0 ci) ∧ W'.cell? ⟨pt, 0, none⟩ = some (.int .i64 x.kd) ∧ W'.cell? ⟨pt, 1, none⟩ = some (.string (S x.tx)) ∧ W'.cell? ⟨pt, 2, none⟩ = some (.int .i64 x.nu) ∧ W'.cell? ⟨pt, 3, none⟩ = some (.int .i64 x.ln) ∧ W'.cell? ⟨pt, 4, none⟩ = some (.int .i64 x.co))) (by kernel_rfl) (by kernel_rfl) ?_
            have hS := HF.out _ hb
            refine take_D (i := 0) 29 (.agg #[.slice po 0 co, .slice pi 0 ci]) rfl rfl (by kernel_rfl) (by kernel_rfl) (by kernel_rfl) (by kernel_rfl) (fun _ _ _ h => h) (Or.inl ⟨by rfl, fun W' hW => by obtain ⟨s0, s1, s2, s3, s4, s5, s6⟩ := hW; go_simp⟩) hS ?_
            simp only [Act.put, List.setIfInBounds_toArray, List.set_cons_zero, List.set_cons_succ]
            refine take_D (i := 1) 30 (.agg #[.int .i64 x.kd, .string (S x.tx), .int .i64 x.nu, .int .i64 x.ln, .int .i64 x.co]) rfl rfl (by kernel_rfl) (by kernel_rfl) (by kernel_rfl) (by kernel_rfl) (fun _ _ _ h => h) (Or.inl ⟨by rfl, fun W' hW => by obtain ⟨s0, s1, s2, s3, s4, s5, s6⟩ := hW; go_simp⟩) hS ?_
            simp only [Act.put, List.setIfInBounds_toArray, List.set_cons_zero, List.set_cons_succ]
            refine take_D (i := 3) 32 (.pointer (some ⟨pt, 4, none⟩)) rfl rfl (by kernel_rfl) (by kernel_rfl) (by kernel_rfl) (by kernel_rfl) (fun _ _ _ h => h) (Or.inl ⟨by rfl, fun W' hW => by obtain ⟨s0, s1, s2, s3, s4, s5, s6⟩ := hW; go_simp⟩) hS ?_
            simp only [Act.put, List.setIfInBounds_toArray, List.set_cons_zero, List.set_cons_succ]
            refine take_D (i := 4) 33 (.int .i64 x.co) rfl rfl (by kernel_rfl) (by kernel_rfl) (by kernel_rfl) (by kernel_rfl) (fun _ _ _ h => h) (Or.inl ⟨by rfl, fun W' hW => by obtain ⟨s0, s1, s2, s3, s4, s5, s6⟩ := hW; go_simp⟩) hS ?_
            simp only [Act.put, List.setIfInBounds_toArray, List.set_cons_zero, List.set_cons_succ]
            refine take_D (i := 5) 34 (.int .i64 (max x.co 1)) rfl rfl (by kernel_rfl) (by kernel_rfl) (by kernel_rfl) (by kernel_rfl) (fun _ _ _ h => h) (Or.inl ⟨by rfl, fun W' hW => by obtain ⟨s0, s1, s2, s3, s4, s5, s6⟩ := hW; go_simp; split <;> omega⟩) hS ?_
            simp only [Act.put, List.setIfInBounds_toArray, List.set_cons_zero, List.set_cons_succ]
            have hP := put_ref [123] x [] [] po co pi ci _ (HL4.out.below hb).rs (by simp)
            simp only [List.length_nil, List.nil_append, Nat.zero_add] at hP
            unfold tv at hP
            have HP := hide hP
            clear hP
            refine ready_J (rs := [2]) (by kernel_rfl) (by simp) ?_
            intro i him
            obtain rfl := List.mem_singleton.1 him
            refine op_W rfl (by rfl) fun K hK => ?_
            go_simp
            refine HP.out.mono ?_
            rintro e W4 ⟨po2, co2, rfl, hR4, hB4, hF4⟩
            have hb4 := hb.trans (hB4.mono hb.size)
            go_simp
            refine hK _ _ ⟨fun _ => HF.out _ hb4, ?_⟩
            clear hK K HP
            have hP2 := open_ref [pt1 123 x] ⟨[], max x.co 1⟩ (max x.co 1) rfl [] po2 co2 pi ci _ hR4 (by simp)
            simp only [List.length_nil, List.length_singleton, Nat.zero_add] at hP2
            have HP := hide hP2
            clear hP2 hR4
            refine ready_J (rs := [6]) (by kernel_rfl) (by simp) ?_
            intro i him
            obtain rfl := List.mem_singleton.1 him
            refine op_W rfl (by rfl) fun K hK => ?_
            go_simp
            refine HP.out.mono ?_
            rintro e W5 ⟨pi3, ci3, rfl, hR5, hB5, hF5⟩
            have hb5 := hb4.trans (hB5.mono hb4.size)
            go_simp
            refine hK _ _ ⟨fun _ => HF.out _ hb5, ?_⟩
            clear hK K HP
            have L5 := HL4.out.below hb5
            have e0 : W5.cell? ⟨w.heap.size + 1, 0, none⟩ = some (.slice po 0 co) := L5.s.cell 0
            have e1 : W5.cell? ⟨w.heap.size + 1, 1, none⟩ = some (.slice pi 0 ci) := L5.s.cell 1
            have f0 := L5.s.frozen 0
            have f1 := L5.s.frozen 1
            have T5 := TB.below HT4.out hb5 (Hold.lt HT4.out)
            have HL6 := hide (L5.store hR5 1 1 rfl rfl)
            have HT6 := hide (Hold.store (q := w.heap.size) T5 (by omega) (.slice po2 1 co2) (.slice pi3 1 ci3))
            have HB6 := hide (((B4.trans (hb5.mono B4.size)).setCell (p := ⟨w.heap.size + 1, 0, none⟩) (by simp) (.slice po2 1 co2)).setCell (p := ⟨w.heap.size + 1, 1, none⟩) (by simp) (.slice pi3 1 ci3))
            clear L5 T5 hR5
            refine ready_J (rs := [7]) (by kernel_rfl) (by simp) ?_
            intro i him
            obtain rfl := List.mem_singleton.1 him
            refine op_W rfl (by rfl) fun K hK => ?_
            go_simp
            refine hK _ _ ⟨fun h => absurd h (by decide), ?_⟩
            clear hK K
            refine done_J (by kernel_rfl) ?_ _
            refine NoPanic.normal ?_
            go_wp2_with fail
            go_meet
            case rel => exact ⟨rfl, rfl, rfl, ⟨po2, co2, pi3, ci3, by rw [h3]; exact HL6.out⟩, HT6.out, HB6.out⟩
        case rest =>
          obtain ⟨rfl, rfl, rfl, ⟨po1, co1, pi1, ci1, L5⟩, T5, B5⟩ := hcut
          clear L4 T4 B4 c0 c1 c2 c3 c4 d0 d1 d2 d3 HS2 HS3
          clear o st po co pi ci
          obtain ⟨st0, o0⟩ := r0
          simp only at L5 hsm0 HWF0 HGO2
          generalize hbb : over (prevM l k) x = bb at *
          have x3 : wc.cell? ⟨pt, 3, none⟩ = some (.int .i64 x.ln) := Hold.cell T5 3
          go_upto_region 9 with fail
          go_cut [6, 7, 8, 52] (fun s6 s7 s8 s52 wx => s6 = .bool fb ∧ s7 = .int .i64 k ∧ s8 = .pointer (some ⟨pt, 0, none⟩) ∧ s52 = .bool (bb && !fb) ∧ LH w.heap.size wx po1 co1 pi1 ci1 o0 st0 ∧ TB pt x wx ∧ Below w.heap.size w wx)
          case first =>
            have L6 := L5.below (below_drew _ _)
            have T6 := TB.below T5 (below_drew _ _) (Hold.lt T5)
            have B6 := B5.trans (below_drew _ _)
            by_cases hk0 : 0 < k
            · obtain ⟨y, hy⟩ : ∃ y, l[k - 1]? = some y := ⟨_, List.getElem?_eq_getElem (by omega)⟩
              have hb0 : bb = decide (y.ln < x.ln) := by
                rw [← hbb]
                obtain ⟨j, rfl⟩ : ∃ j, k = j + 1 := ⟨k - 1, by omega⟩
                show over (l[j]?) x = _
                rw [Nat.add_sub_cancel] at hy; rw [hy]; rfl
              have y3 : wc.cell? ⟨g, og + (k - 1) * 5 + 3, none⟩ = some (.int .i64 y.ln) := (Hold2.below (HGM.out (k - 1) y hy) B5 hg).2.2.2.1
              clear hy
              cases fb
              · by_cases hyx : y.ln < x.ln
                · have hb1 : bb = true := by rw [hb0]; exact decide_eq_true hyx
                  subst hb1
                  clear hb0 hbb
                  go_region
                  all_goals (go_wp2_with fail; go_meet; case rel => exact ⟨rfl, rfl, rfl, rfl, L6, T6, B6⟩)
                · have hb1 : bb = false := by rw [hb0]; exact decide_eq_false hyx
                  subst hb1
                  clear hb0 hbb
                  go_region
                  all_goals (go_wp2_with fail; go_meet; case rel => exact ⟨rfl, rfl, rfl, rfl, L6, T6, B6⟩)
              · clear hb0 hbb
                go_region
                all_goals (go_wp2_with fail; go_meet; case rel => exact ⟨rfl, rfl, rfl, by simp, L6, T6, B6⟩)
            · have hb0 : bb = false := by
                rw [← hbb]
                obtain rfl : k = 0 := by omega
                rfl
              subst hb0
              clear hbb
              go_region
              all_goals (go_wp2_with fail; go_meet; case rel => exact ⟨rfl, rfl, rfl, rfl, L6, T6, B6⟩)
          case rest =>
            obtain ⟨rfl, rfl, rfl, rfl, L6, T6, B6⟩ := hcut
            clear L5 T5 B5 x3 hbb
            obtain ⟨r1, hr1⟩ : ∃ r1, r1 = (if (bb && !fb) = true then lineM x st0 o0 else (st0, o0)) := ⟨_, rfl⟩
            have hr1s : r1.2.length + r1.1.length ≤ 3 + 4 * k := by
              rw [hr1]; split
              · have := lineM_sum x st0 o0; omega
              · simp only; omega
            have hr1w : wf r1.1 := by
              rw [hr1]; split
              · exact wf_line x _ _ HWF0.out
              · exact HWF0.out
            have HRW := hide hr1w
            have HMID : Hid (mid bb x (st0, o0, fb) = closeM x r1.1 r1.2) := by show mid bb x (st0, o0, fb) = _; rw [hr1]; rfl
            have LW := hide (newline_ref x o0 st0 po1 co1 pi1 ci1 _ L6.rs HWF0.out (by omega))
            unfold tv at LW
            obtain ⟨c0, c1, c2, c3, c4⟩ := T6.cells
            have d0 : wc.cell? ⟨w.heap.size + 1, 0, none⟩ = some (.slice po1 o0.length co1) := L6.s.cell 0
            have d1 : wc.cell? ⟨w.heap.size + 1, 1, none⟩ = some (.slice pi1 st0.length ci1) := L6.s.cell 1
            clear hr1w
            go_upto_if 52 with fail
            go_cut [6, 7, 8] (fun s6 s7 s8 wx => s6 = .bool fb ∧ s7 = .int .i64 k ∧ s8 = .pointer (some ⟨pt, 0, none⟩) ∧ (∃ po co pi ci, LH w.heap.size wx po co pi ci r1.2 r1.1) ∧ TB pt x wx ∧ Below w.heap.size w wx)
            case first =>
              cases hbf : (bb && !fb)
              · rw [hbf, if_neg (by decide)] at hr1
                go_wp2_with fail
                go_meet
                case rel => rw [hr1]; exact ⟨rfl, rfl, rfl, ⟨_, _, _, _, L6⟩, T6, B6⟩
              · rw [hbf, if_pos rfl] at hr1
                rw [← hr1] at LW
                clear hr1
                go_wp2_with fail
                refine LW.out.mono ?_
                rintro e w9 ⟨po2, co2, rfl, R9, b9⟩
                have L9 := L6.below b9
                have d2 : w9.cell? ⟨w.heap.size + 1, 0, none⟩ = some (.slice po1 o0.length co1) := L9.s.cell 0
                have d3 : w9.cell? ⟨w.heap.size + 1, 1, none⟩ = some (.slice pi1 st0.length ci1) := L9.s.cell 1
                have d4 := L9.s.frozen 0
                have d5 := L9.s.frozen 1
                have HL10 := hide (L9.store R9 _ _ rfl rfl)
                have HT10 := hide (Hold.store (q := w.heap.size) (TB.below T6 b9 (Hold.lt T6)) (by omega) (.slice po2 r1.2.length co2) (.slice pi1 r1.1.length ci1))
                have HB10 := hide (((B6.trans (b9.mono B6.size)).setCell (p := ⟨w.heap.size + 1, 0, none⟩) (by simp) (.slice po2 r1.2.length co2)).setCell (p := ⟨w.heap.size + 1, 1, none⟩) (by simp) (.slice pi1 r1.1.length ci1))
                clear L9 R9 LW
                go_wp2_with fail
                go_meet
                case rel => exact ⟨rfl, rfl, rfl, ⟨_, _, _, _, HL10.out⟩, HT10.out, HB10.out⟩
            case rest =>
              obtain ⟨rfl, rfl, rfl, ⟨po2, co2, pi2, ci2, L7⟩, T7, B7⟩ := hcut
              clear L6 T6 B6 c0 c1 c2 c3 c4 d0 d1 LW hr1
              obtain ⟨st1, o1⟩ := r1
              simp only at L7 hr1s HRW HMID
              have CL := hide (closing_ref x o1 st1 po2 co2 pi2 ci2 _ L7.rs HRW.out (by omega))
              unfold tv at CL
              have HN : Hid (closeM x st1 o1 = none → goM none l s0 = .error x) := by
                intro h; rw [HGO2.out]; unfold stepM; rw [HMID.out, h]
              have HS : Hid (∀ r2, closeM x st1 o1 = some r2 → goM none l s0 = goM (some x) (l.drop (k + 1)) (behM x (l.drop (k + 1)) r2.1 (r2.2 ++ [x]) false)) := by
                intro r2 h; rw [HGO2.out]; unfold stepM; rw [HMID.out, h]
              have HSM : Hid (∀ r2, closeM x st1 o1 = some r2 → r2.2.length + r2.1.length ≤ 3 + 4 * k) := by
                intro r2 h
                have := mid_sum (HMID.out.trans h)
                simp only at this
                have h2 := hsm0
                omega
              have HW2 : Hid (∀ r2, closeM x st1 o1 = some r2 → wf r2.1) := by
                intro r2 h
                exact wf_mid (s := (st0, o0, fb)) HWF0.out (HMID.out.trans h)
              generalize closeM x st1 o1 = cm at *
              clear HGO2 HMID HRW HWF0 hsm0 po1 co1 pi1 ci1
              obtain ⟨c0, c1, c2, c3, c4⟩ := T7.cells
              have d0 : wc.cell? ⟨w.heap.size + 1, 0, none⟩ = some (.slice po2 o1.length co2) := L7.s.cell 0
              have d1 : wc.cell? ⟨w.heap.size + 1, 1, none⟩ = some (.slice pi2 st1.length ci2) := L7.s.cell 1
              go_wp2_with fail
              refine CL.out.mono ?_
              rintro e w9 ⟨b9, po3, co3, n3, m3, ok, rfl, hcase⟩
              have L9 := L7.below b9
              have T9 := TB.below T7 b9 (Hold.lt T7)
              have B9 := B7.trans (b9.mono B7.size)
              clear L7 T7 B7 c0 c1 c2 c3 c4 d0 d1 CL
              have L10 := L9.below ((Below.refl _ w9).alloc (Nat.le_refl _) (.cells #[.slice po3 n3 co3, .slice pi2 m3 ci2] 50))
              have T10 := TB.below T9 ((Below.refl _ w9).alloc (Nat.le_refl _) (.cells #[.slice po3 n3 co3, .slice pi2 m3 ci2] 50)) (Hold.lt T9)
              have B10 := B9.alloc B9.size (.cells #[.slice po3 n3 co3, .slice pi2 m3 ci2] 50)
              have N10 := Hold.new w9 #[.slice po3 n3 co3, .slice pi2 m3 ci2] 50
              rcases hcase with ⟨rfl, hcm⟩ | ⟨rfl, r2, hcm, hn3, hm3, R9⟩
              · have hR : R = ([], (x.ln, x.co), 30) := by rw [HLM.out, HN.out hcm]; rfl
                have HR := hide hR
                clear HLM HN HS HSM HW2 hcm hR
                obtain ⟨c0, c1, c2, c3, c4⟩ := T10.cells
                have p0 : (w9.alloc (.cells #[.slice po3 n3 co3, .slice pi2 m3 ci2] 50)).cell? ⟨w.heap.size, 0, none⟩ = some (.int .i64 0) := L10.pl.cell 0
                have p1 : (w9.alloc (.cells #[.slice po3 n3 co3, .slice pi2 m3 ci2] 50)).cell? ⟨w.heap.size, 1, none⟩ = some (.int .i64 0) := L10.pl.cell 1
                have f0 := L10.pl.frozen 0
                have f1 := L10.pl.frozen 1
                go_wp2_with fail
                go_region
                all_goals (go_wp2_with fail; exact bodyPost_ret (v := .tuple #[.slice none 0 0, .agg #[.int .i64 x.ln, .int .i64 x.co], .int .i64 30]) (by simp only [results, Tryd.results10]; go_simp) rfl ⟨none, 0, by rw [HR.out]; rfl, by rw [HR.out]; exact .inl rfl, ((B10.trans (below_drew _ _)).setCell (by simp) _).setCell (by simp) _⟩)
              · obtain ⟨st2, o2⟩ := r2
                simp only at hn3 hm3 R9
                subst hn3 hm3
                have HGO3 := hide (HS.out _ hcm)
                have hsm2 := HSM.out _ hcm
                have hw2 := HW2.out _ hcm
                have HWW := hide hw2
                simp only at HGO3 hsm2 HWW
                clear HN HS HSM HW2 hcm hw2
                have R10 := R9.below ((Below.refl _ w9).alloc (Nat.le_refl _) (.cells #[.slice po3 o2.length co3, .slice pi2 st2.length ci2] 50))
                have L11 := L10.store R10 _ _ rfl rfl
                have T11 := Hold.store (q := w.heap.size) T10 (by omega) (.slice po3 o2.length co3) (.slice pi2 st2.length ci2)
                have B11 := (B10.setCell (p := ⟨w.heap.size + 1, 0, none⟩) (by simp) (.slice po3 o2.length co3)).setCell (p := ⟨w.heap.size + 1, 1, none⟩) (by simp) (.slice pi2 st2.length ci2)
                have e0 : (w9.alloc (.cells #[.slice po3 o2.length co3, .slice pi2 st2.length ci2] 50)).cell? ⟨w9.heap.size, 0, none⟩ = some (.slice po3 o2.length co3) := N10.cell 0
                have e1 : (w9.alloc (.cells #[.slice po3 o2.length co3, .slice pi2 st2.length ci2] 50)).cell? ⟨w9.heap.size, 1, none⟩ = some (.slice pi2 st2.length ci2) := N10.cell 1
                have d0 : (w9.alloc (.cells #[.slice po3 o2.length co3, .slice pi2 st2.length ci2] 50)).cell? ⟨w.heap.size + 1, 0, none⟩ = some (.slice po2 o1.length co2) := L10.s.cell 0
                have d1 : (w9.alloc (.cells #[.slice po3 o2.length co3, .slice pi2 st2.length ci2] 50)).cell? ⟨w.heap.size + 1, 1, none⟩ = some (.slice pi2 st1.length ci2) := L10.s.cell 1
                have d2 := L10.s.frozen 0
                have d3 := L10.s.frozen 1
                have HL11 := hide L11
                have HT11 := hide T11
                have HB11 := hide B11
                clear L9 L10 L11 T9 T10 T11 B9 B10 B11 N10 R9 R10
                go_upto_region 15 with fail
                generalize (((w9.alloc (.cells #[.slice po3 o2.length co3, .slice pi2 st2.length ci2] 50)).setCell ⟨w.heap.size + 1, 0, none⟩ (.slice po3 o2.length co3)).setCell ⟨w.heap.size + 1, 1, none⟩ (.slice pi2 st2.length ci2)) = V at *
                clear e0 e1 d0 d1 d2 d3
                go_cut [7] (fun s7 wx => s7 = .int .i64 k ∧ (∃ po co, LH w.heap.size wx po co pi2 ci2 (o2 ++ [x]) st2) ∧ Below w.heap.size w wx)
                case first =>
                  obtain ⟨i0, hi, hz0, hz1, hz2⟩ := info_parts info32
                  have HF : Hid (∀ W : World, Below V.heap.size V W → W.cell? ⟨w.heap.size + 1, 0, none⟩ = some (.slice po3 o2.length co3) ∧ W.cell? ⟨pt, 0, none⟩ = some (.int .i64 x.kd) ∧ W.cell? ⟨pt, 1, none⟩ = some (.string (S x.tx)) ∧ W.cell? ⟨pt, 2, none⟩ = some (.int .i64 x.nu) ∧ W.cell? ⟨pt, 3, none⟩ = some (.int .i64 x.ln) ∧ W.cell? ⟨pt, 4, none⟩ = some (.int .i64 x.co)) := fun W hb => ⟨(HL11.out.below hb).s.cell 0, TB.cells (TB.below HT11.out hb (Hold.lt HT11.out))⟩
                  obtain ⟨T, hT⟩ : ∃ T : Obj, T = .cells #[.int .i64 x.kd, .string (S x.tx), .int .i64 x.nu, .int .i64 x.ln, .int .i64 x.co] 32 := ⟨_, rfl⟩
                  have HSRC : Hid (∀ W : World, Below V.heap.size V W → (po3 = none ∧ o2.length = 0 ∧ co3 = 0) ∨ ∃ ad, po3 = some ad ∧ ∀ j u, (tcs o2)[j]? = some u → W.cell? (ad.add j) = some u) := fun W hW => tmem_src (HL11.out.rs.out.below (Nat.le_refl _) hW) rfl HL11.out.rs.no
                  have HA : Hid (Below V.heap.size V ((V.alloc (.cells #[] 32)).drew) ∧ ((V.alloc (.cells #[] 32)).drew).ownsRow V.heap.size 32 5 (.slice (some ⟨V.heap.size, 0, none⟩) 0 0) 0 []) := by
                    have b : Below V.heap.size V (V.alloc (.cells #[] 32)) := (Below.refl _ V).alloc (Nat.le_refl _) _
                    refine ⟨b.trans (below_drew _ _), rfl, .inr ⟨V.heap.size, 0, #[], rfl, Nat.le_refl _, Hold.new V #[] 32, Nat.le_refl _, Nat.zero_le _, rfl, rfl⟩⟩
                  have HBB : Hid (Below V.heap.size V (((V.alloc (.cells #[] 32)).alloc T).drew) ∧ (((V.alloc (.cells #[] 32)).alloc T).drew).ownsRow V.heap.size 32 5 (.slice (some ⟨V.heap.size, 0, none⟩) 0 0) 0 [] ∧ Hold (V.heap.size + 1) #[.int .i64 x.kd, .string (S x.tx), .int .i64 x.nu, .int .i64 x.ln, .int .i64 x.co] 32 (((V.alloc (.cells #[] 32)).alloc T).drew)) := by
                    have b : Below V.heap.size V ((V.alloc (.cells #[] 32)).alloc T) := ((Below.refl _ V).alloc (Nat.le_refl _) _).alloc (by simp) _
                    have k := Hold.new (V.alloc (.cells #[] 32)) #[.int .i64 x.kd, .string (S x.tx), .int .i64 x.nu, .int .i64 x.ln, .int .i64 x.co] 32
                    rw [World.size_alloc, ← hT] at k
                    exact ⟨b.trans (below_drew _ _), ⟨rfl, .inr ⟨V.heap.size, 0, #[], rfl, Nat.le_refl _, (Hold.new V #[] 32).alloc T, Nat.le_refl _, Nat.zero_le _, rfl, rfl⟩⟩, k⟩
                  have HCC : Hid (Below V.heap.size V (((V.alloc T).alloc (.cells #[] 32)).drew) ∧ (((V.alloc T).alloc (.cells #[] 32)).drew).ownsRow V.heap.size 32 5 (.slice (some ⟨V.heap.size + 1, 0, none⟩) 0 0) 0 [] ∧ Hold V.heap.size #[.int .i64 x.kd, .string (S x.tx), .int .i64 x.nu, .int .i64 x.ln, .int .i64 x.co] 32 (((V.alloc T).alloc (.cells #[] 32)).drew)) := by
                    have b : Below V.heap.size V ((V.alloc T).alloc (.cells #[] 32)) := ((Below.refl _ V).alloc (Nat.le_refl _) _).alloc (by simp) _
                    have k := Hold.new (V.alloc T) #[] 32
                    rw [World.size_alloc] at k
                    have k2 := Hold.new V #[.int .i64 x.kd, .string (S x.tx), .int .i64 x.nu, .int .i64 x.ln, .int .i64 x.co] 32
                    rw [← hT] at k2
                    exact ⟨b.trans (below_drew _ _), ⟨rfl, .inr ⟨V.heap.size + 1, 0, #[], rfl, by omega, k, Nat.le_refl _, Nat.zero_le _, rfl, rfl⟩⟩, k2.alloc _⟩
                  have HTT : Hid (Below V.heap.size V ((V.alloc T).drew)) := ((Below.refl _ V).alloc (Nat.le_refl _) _).trans (below_drew _ _)
                  have HX1 := hide (fun (W : World) (k : Nat) (hrow : W.ownsRow V.heap.size 32 5 (.slice (some ⟨k, 0, none⟩) 0 0) 0 []) (hW : Below V.heap.size V W) o' a K Q s x ho hs hx => @wp_spread W o' a K Q s x 22 32 i0 _ 5 48 Tryd.underlying22 hi hz0 hz1 hz2 rfl (by omega) (none22 _) ho V.heap.size (some ⟨k, 0, none⟩) 0 0 [] hs hrow po3 o2.length co3 (tcs o2) hx (tcs_len o2) (HSRC.out W hW) (tcs_one o2) (by omega) (by omega) hW.size)
                  have HX2 := hide (fun (W : World) (k : Nat) (pa : Option Addr) (cp : Nat) (hrow : W.ownsRow V.heap.size 32 5 (.slice pa o2.length cp) o2.length (tcs o2)) (hW : Below V.heap.size V W) (hk : Hold k #[.int .i64 x.kd, .string (S x.tx), .int .i64 x.nu, .int .i64 x.ln, .int .i64 x.co] 32 W) o' a K Q s y ho hs hx => @wp_spread W o' a K Q s y 22 32 i0 _ 5 48 Tryd.underlying22 hi hz0 hz1 hz2 rfl (by omega) (none22 _) ho V.heap.size pa o2.length cp (tcs o2) hs hrow (some ⟨k, 0, none⟩) 1 1 [.int .i64 x.kd, .string (S x.tx), .int .i64 x.nu, .int .i64 x.ln, .int .i64 x.co] hx rfl (.inr ⟨_, rfl, World.news_of_block hk⟩) (by simp [Value.oneCell']) (by omega) (by omega) hW.size)
                  have HFIN : Hid (∀ (w3 : World) (pa3 : Option Addr) (cp3 : Nat), w3.ownsRow V.heap.size 32 5 (.slice pa3 (o2.length + 1) cp3) (o2.length + 1) (tcs o2 ++ [.int .i64 x.kd, .string (S x.tx), .int .i64 x.nu, .int .i64 x.ln, .int .i64 x.co]) → Below V.heap.size V w3 →
                      LH w.heap.size (w3.setCell ⟨w.heap.size + 1, 0, none⟩ (.slice pa3 (o2.length + 1) cp3)) pa3 cp3 pi2 ci2 (o2 ++ [x]) st2 ∧ Below w.heap.size w (w3.setCell ⟨w.heap.size + 1, 0, none⟩ (.slice pa3 (o2.length + 1) cp3))) := by
                    intro w3 pa3 cp3 hown3 b3
                    have L3 := HL11.out.below b3
                    have hB3 : Below w.heap.size w w3 := HB11.out.trans (b3.mono HB11.out.size)
                    have hfr : pa3 ≠ none := by
                      rcases hown3.2 with ⟨hv, h0⟩ | ⟨g', cap, cur, hv, hb, _, h1, _⟩
                      · cases hv
                      · cases hv; simp
                    rw [show tcs o2 ++ [.int .i64 x.kd, .string (S x.tx), .int .i64 x.nu, .int .i64 x.ln, .int .i64 x.co] = tcs (o2 ++ [x]) from (tcs_snoc o2 x).symm] at hown3
                    have hs := L3.s.set 0 (.slice pa3 (o2.length + 1) cp3)
                    rw [show o2.length + 1 = (o2 ++ [x]).length by simp] at hs hown3 ⊢
                    exact ⟨⟨L3.pl.other (by omega) 0 _, hs, ⟨TMem.two (row_tmem hown3).1 L3.s 0 _, L3.rs.opn.two L3.s 0 _, L3.rs.cap, fun h => absurd h hfr, L3.rs.ni⟩⟩, hB3.setCell (by simp) _⟩
                  subst hT
                  refine wp_region_noPanic ?_
                  refine region_J 9 (N := 7) (S := (fun W => W.cell? ⟨w.heap.size + 1, 0, none⟩ = some (.slice po3 o2.length co3) ∧ W.cell? ⟨pt, 0, none⟩ = some (.int .i64 x.kd) ∧ W.cell? ⟨pt, 1, none⟩ = some (.string (S x.tx)) ∧ W.cell? ⟨pt, 2, none⟩ = some (.int .i64 x.nu) ∧ W.cell? ⟨pt, 3, none⟩ = some (.int .i64 x.ln) ∧ W.cell? ⟨pt, 4, none⟩ = some (.int .i64 x.co))) (by kernel_rfl) (by kernel_rfl) ?_
                  have hS := HF.out _ (below_drew _ V)
                  refine take_D (i := 1) 71 (.pointer (some ⟨w.heap.size + 1, 0, none⟩)) rfl rfl (by kernel_rfl) (by kernel_rfl) (by kernel_rfl) (by kernel_rfl) (fun _ _ _ h => h) (Or.inl ⟨by rfl, fun W' hW => by obtain ⟨s0, s1, s2, s3, s4, s5⟩ := hW; go_simp⟩) hS ?_
                  simp only [Act.put, List.setIfInBounds_toArray, List.set_cons_zero, List.set_cons_succ]
                  refine take_D (i := 2) 72 (.slice po3 o2.length co3) rfl rfl (by kernel_rfl) (by kernel_rfl) (by kernel_rfl) (by kernel_rfl) (fun _ _ _ h => h) (Or.inl ⟨by rfl, fun W' hW => by obtain ⟨s0, s1, s2, s3, s4, s5⟩ := hW; go_simp⟩) hS ?_
                  simp only [Act.put, List.setIfInBounds_toArray, List.set_cons_zero, List.set_cons_succ]
                  refine take_D (i := 4) 74 (.agg #[.int .i64 x.kd, .string (S x.tx), .int .i64 x.nu, .int .i64 x.ln, .int .i64 x.co]) rfl rfl (by kernel_rfl) (by kernel_rfl) (by kernel_rfl) (by kernel_rfl) (fun _ _ _ h => h) (Or.inl ⟨by rfl, fun W' hW => by obtain ⟨s0, s1, s2, s3, s4, s5⟩ := hW; go_simp⟩) hS ?_
                  simp only [Act.put, List.setIfInBounds_toArray, List.set_cons_zero, List.set_cons_succ]
                  refine ready_J (rs := [0, 5]) (by kernel_rfl) (by simp) ?_
                  intro i him
                  rcases List.mem_cons.1 him with rfl | him
                  · refine op_J rfl rfl fun K hK => ?_
                    go_simp
                    refine hK _ _ ⟨fun _ => HF.out _ HA.out.1, ?_⟩
                    clear hK K
                    refine ready_J (rs := [3, 5]) (by kernel_rfl) (by simp) ?_
                    intro i him
                    rcases List.mem_cons.1 him with rfl | him
                    · refine op_J (o := { dst := some 73, op := .call { callee := .builtin .append, args := #[.tmp 70, .tmp 72], argTypes := #[22, 22] }, type := 22, pos := "ref.go:120", after := #[{ on := 0, ground := .data }, { on := 2, ground := .data }], guard := none }) rfl rfl fun K hK => ?_
                      refine HX1.out _ _ HA.out.2 HA.out.1 _ _ _ _ _ _ (by rfl) (by rfl) (by rfl) ?_
                      intro pa cp w2 hown hgrow
                      rw [Nat.zero_add, List.nil_append] at hown
                      have b2 := Below.trans HA.out.1 (below_row HA.out.2 (Below.size HA.out.1) hgrow)
                      refine hK _ _ ⟨fun _ => HF.out _ b2, ?_⟩
                      clear hK K hgrow
                      simp only [Nat.zero_add, Act.put, List.setIfInBounds_toArray, List.set_cons_zero, List.set_cons_succ]
                      refine ready_J (rs := [5]) (by kernel_rfl) (by simp) ?_
                      intro i him
                      obtain rfl := List.mem_singleton.1 him
                      refine op_J rfl rfl fun K hK => ?_
                      go_simp
                      refine hK _ _ ⟨fun _ => HF.out _ (b2.alloc b2.size _), ?_⟩
                      clear hK K
                      refine ready_J (rs := [6]) (by kernel_rfl) (by simp) ?_
                      intro i him
                      obtain rfl := List.mem_singleton.1 him
                      refine op_J (o := { dst := some 76, op := .call { callee := .builtin .append, args := #[.tmp 73, .tmp 75], argTypes := #[22, 22] }, type := 22, pos := "ref.go:120", after := #[{ on := 3, ground := .data }, { on := 5, ground := .data }, { on := 3, ground := .chain }], guard := none }) rfl rfl fun K hK => ?_
                      refine HX2.out _ _ _ _ (hown.alloc _) (b2.alloc b2.size _) (Hold.new w2 #[.int .i64 x.kd, .string (S x.tx), .int .i64 x.nu, .int .i64 x.ln, .int .i64 x.co] 32) _ _ _ _ _ _ (by rfl) (by rfl) (by rfl) ?_
                      intro pa3 cp3 w3 hown3 hgrow3
                      have b3 := (b2.alloc b2.size _).trans (below_row (hown.alloc _) (b2.alloc b2.size _).size hgrow3)
                      refine hK _ _ ⟨fun _ => HF.out _ b3, ?_⟩
                      clear hK K hgrow3
                      simp only [Act.put, List.setIfInBounds_toArray, List.set_cons_zero, List.set_cons_succ]
                      have L3 := HL11.out.below b3
                      have d0 : w3.cell? ⟨w.heap.size + 1, 0, none⟩ = some (.slice po3 o2.length co3) := L3.s.cell 0
                      have f0 := L3.s.frozen 0
                      have HFI := hide (HFIN.out w3 pa3 cp3 hown3 b3)
                      clear L3
                      refine ready_J (rs := [7]) (by kernel_rfl) (by simp) ?_
                      intro i him
                      obtain rfl := List.mem_singleton.1 him
                      refine op_J rfl rfl fun K hK => ?_
                      go_simp
                      refine hK _ _ ⟨fun h => absurd h (by decide), ?_⟩
                      clear hK K
                      refine ready_J (rs := [8]) (by kernel_rfl) (by simp) ?_
                      intro i him
                      obtain rfl := List.mem_singleton.1 him
                      refine op_J rfl rfl fun K hK => ?_
                      go_simp
                      refine hK _ _ ⟨fun h => absurd h (by decide), ?_⟩
                      clear hK K
                      refine done_J (by kernel_rfl) ?_ _
                      refine NoPanic.normal ?_
                      go_wp2_with fail
                      go_meet
                      case rel => exact ⟨rfl, ⟨pa3, cp3, HFI.out.1⟩, HFI.out.2⟩
                    · obtain rfl := List.mem_singleton.1 him
                      refine op_J rfl rfl fun K hK => ?_
                      go_simp
                      refine hK _ _ ⟨fun _ => HF.out _ HBB.out.1, ?_⟩
                      clear hK K
                      refine ready_J (rs := [3]) (by kernel_rfl) (by simp) ?_
                      intro i him
                      obtain rfl := List.mem_singleton.1 him
                      refine op_J (o := { dst := some 73, op := .call { callee := .builtin .append, args := #[.tmp 70, .tmp 72], argTypes := #[22, 22] }, type := 22, pos := "ref.go:120", after := #[{ on := 0, ground := .data }, { on := 2, ground := .data }], guard := none }) rfl rfl fun K hK => ?_
                      refine HX1.out _ _ HBB.out.2.1 HBB.out.1 _ _ _ _ _ _ (by rfl) (by rfl) (by rfl) ?_
                      intro pa cp w2 hown hgrow
                      rw [Nat.zero_add, List.nil_append] at hown
                      have b2 := Below.trans HBB.out.1 (below_row HBB.out.2.1 (Below.size HBB.out.1) hgrow)
                      have k2 := (hgrow.block _ (Hold.lt HBB.out.2.2) (by simp [Value.ownBlock])).trans HBB.out.2.2
                      refine hK _ _ ⟨fun _ => HF.out _ b2, ?_⟩
                      clear hK K hgrow
                      simp only [Nat.zero_add, Act.put, List.setIfInBounds_toArray, List.set_cons_zero, List.set_cons_succ]
                      refine ready_J (rs := [6]) (by kernel_rfl) (by simp) ?_
                      intro i him
                      obtain rfl := List.mem_singleton.1 him
                      refine op_J (o := { dst := some 76, op := .call { callee := .builtin .append, args := #[.tmp 73, .tmp 75], argTypes := #[22, 22] }, type := 22, pos := "ref.go:120", after := #[{ on := 3, ground := .data }, { on := 5, ground := .data }, { on := 3, ground := .chain }], guard := none }) rfl rfl fun K hK => ?_
                      refine HX2.out _ _ _ _ hown b2 k2 _ _ _ _ _ _ (by rfl) (by rfl) (by rfl) ?_
                      intro pa3 cp3 w3 hown3 hgrow3
                      have b3 := b2.trans (below_row hown b2.size hgrow3)
                      refine hK _ _ ⟨fun _ => HF.out _ b3, ?_⟩
                      clear hK K hgrow3
                      simp only [Act.put, List.setIfInBounds_toArray, List.set_cons_zero, List.set_cons_succ]
                      have L3 := HL11.out.below b3
                      have d0 : w3.cell? ⟨w.heap.size + 1, 0, none⟩ = some (.slice po3 o2.length co3) := L3.s.cell 0
                      have f0 := L3.s.frozen 0
                      have HFI := hide (HFIN.out w3 pa3 cp3 hown3 b3)
                      clear L3
                      refine ready_J (rs := [7]) (by kernel_rfl) (by simp) ?_
                      intro i him
                      obtain rfl := List.mem_singleton.1 him
                      refine op_J rfl rfl fun K hK => ?_
                      go_simp
                      refine hK _ _ ⟨fun h => absurd h (by decide), ?_⟩
                      clear hK K
                      refine ready_J (rs := [8]) (by kernel_rfl) (by simp) ?_
                      intro i him
                      obtain rfl := List.mem_singleton.1 him
                      refine op_J rfl rfl fun K hK => ?_
                      go_simp
                      refine hK _ _ ⟨fun h => absurd h (by decide), ?_⟩
                      clear hK K
                      refine done_J (by kernel_rfl) ?_ _
                      refine NoPanic.normal ?_
                      go_wp2_with fail
                      go_meet
                      case rel => exact ⟨rfl, ⟨pa3, cp3, HFI.out.1⟩, HFI.out.2⟩
                  · obtain rfl := List.mem_singleton.1 him
                    refine op_J rfl rfl fun K hK => ?_
                    go_simp
                    refine hK _ _ ⟨fun _ => HF.out _ HTT.out, ?_⟩
                    clear hK K
                    refine ready_J (rs := [0]) (by kernel_rfl) (by simp) ?_
                    intro i him
                    obtain rfl := List.mem_singleton.1 him
                    refine op_J rfl rfl fun K hK => ?_
                    go_simp
                    refine hK _ _ ⟨fun _ => HF.out _ HCC.out.1, ?_⟩
                    clear hK K
                    refine ready_J (rs := [3]) (by kernel_rfl) (by simp) ?_
                    intro i him
                    obtain rfl := List.mem_singleton.1 him
                    refine op_J (o := { dst := some 73, op := .call { callee := .builtin .append, args := #[.tmp 70, .tmp 72], argTypes := #[22, 22] }, type := 22, pos := "ref.go:120", after := #[{ on := 0, ground := .data }, { on := 2, ground := .data }], guard := none }) rfl rfl fun K hK => ?_
                    refine HX1.out _ _ HCC.out.2.1 HCC.out.1 _ _ _ _ _ _ (by rfl) (by rfl) (by rfl) ?_
                    intro pa cp w2 hown hgrow
                    rw [Nat.zero_add, List.nil_append] at hown
                    have b2 := Below.trans HCC.out.1 (below_row HCC.out.2.1 (Below.size HCC.out.1) hgrow)
                    have k2 := (hgrow.block _ (Hold.lt HCC.out.2.2) (by simp [Value.ownBlock])).trans HCC.out.2.2
                    refine hK _ _ ⟨fun _ => HF.out _ b2, ?_⟩
                    clear hK K hgrow
                    simp only [Nat.zero_add, Act.put, List.setIfInBounds_toArray, List.set_cons_zero, List.set_cons_succ]
                    refine ready_J (rs := [6]) (by kernel_rfl) (by simp) ?_
                    intro i him
                    obtain rfl := List.mem_singleton.1 him
                    refine op_J (o := { dst := some 76, op := .call { callee := .builtin .append, args := #[.tmp 73, .tmp 75], argTypes := #[22, 22] }, type := 22, pos := "ref.go:120", after := #[{ on := 3, ground := .data }, { on := 5, ground := .data }, { on := 3, ground := .chain }], guard := none }) rfl rfl fun K hK => ?_
                    refine HX2.out _ _ _ _ hown b2 k2 _ _ _ _ _ _ (by rfl) (by rfl) (by rfl) ?_
                    intro pa3 cp3 w3 hown3 hgrow3
                    have b3 := b2.trans (below_row hown b2.size hgrow3)
                    refine hK _ _ ⟨fun _ => HF.out _ b3, ?_⟩
                    clear hK K hgrow3
                    simp only [Act.put, List.setIfInBounds_toArray, List.set_cons_zero, List.set_cons_succ]
                    have L3 := HL11.out.below b3
                    have d0 : w3.cell? ⟨w.heap.size + 1, 0, none⟩ = some (.slice po3 o2.length co3) := L3.s.cell 0
                    have f0 := L3.s.frozen 0
                    have HFI := hide (HFIN.out w3 pa3 cp3 hown3 b3)
                    clear L3
                    refine ready_J (rs := [7]) (by kernel_rfl) (by simp) ?_
                    intro i him
                    obtain rfl := List.mem_singleton.1 him
                    refine op_J rfl rfl fun K hK => ?_
                    go_simp
                    refine hK _ _ ⟨fun h => absurd h (by decide), ?_⟩
                    clear hK K
                    refine ready_J (rs := [8]) (by kernel_rfl) (by simp) ?_
                    intro i him
                    obtain rfl := List.mem_singleton.1 him
                    refine op_J rfl rfl fun K hK => ?_
                    go_simp
                    refine hK _ _ ⟨fun h => absurd h (by decide), ?_⟩
                    clear hK K
                    refine done_J (by kernel_rfl) ?_ _
                    refine NoPanic.normal ?_
                    go_wp2_with fail
                    go_meet
                    case rel => exact ⟨rfl, ⟨pa3, cp3, HFI.out.1⟩, HFI.out.2⟩
                case rest =>
                  obtain ⟨rfl, ⟨po4, co4, L12⟩, B12⟩ := hcut
                  clear HL11 HT11 HB11
                  have hlen : (o2 ++ [x]).length + st2.length ≤ 4 + 4 * k := by simp; omega
                  generalize o2 ++ [x] = o3 at *
                  have hbs := behM_sum x (l.drop (k + 1)) st2 o3 false
                  have BH := hide (behind_ref x l g og k m c o3 st2 po4 co4 pi2 ci2 wc L12.rs HWW.out (by omega) (Nat.lt_of_lt_of_le hg B12.size) (fun i y hy => Hold2.below (HGM.out i y hy) B12 hg) hxk hl (by omega))
                  unfold BPost at BH
                  have hwb := hide (wf_beh x (l.drop (k + 1)) st2 o3 false HWW.out)
                  have hpv : prevM l (k + 1) = some x := hxk
                  generalize behM x (l.drop (k + 1)) st2 o3 false = s2 at *
                  have d0 : wc.cell? ⟨w.heap.size + 1, 0, none⟩ = some (.slice po4 o3.length co4) := L12.s.cell 0
                  have d1 : wc.cell? ⟨w.heap.size + 1, 1, none⟩ = some (.slice pi2 st2.length ci2) := L12.s.cell 1
                  go_wp2_with fail
                  refine BH.out.mono ?_
                  rintro e w13 ⟨po5, co5, pi5, ci5, rfl, R13, b13⟩
                  have L13 := L12.below b13
                  have B13 := B12.trans (b13.mono B12.size)
                  have d2 : w13.cell? ⟨w.heap.size + 1, 0, none⟩ = some (.slice po4 o3.length co4) := L13.s.cell 0
                  have d3 : w13.cell? ⟨w.heap.size + 1, 1, none⟩ = some (.slice pi2 st2.length ci2) := L13.s.cell 1
                  have d4 := L13.s.frozen 0
                  have d5 := L13.s.frozen 1
                  have HL14 := hide (L13.store R13 _ _ rfl rfl)
                  have HB14 := hide ((B13.setCell (p := ⟨w.heap.size + 1, 0, none⟩) (by simp) (.slice po5 s2.2.1.length co5)).setCell (p := ⟨w.heap.size + 1, 1, none⟩) (by simp) (.slice pi5 s2.1.length ci5))
                  clear L12 L13 B12 B13 d0 d1 BH R13
                  go_wp2_with fail
                  go_roundg (m - (k + 1))
                  case measure => omega
                  case rel => exact ⟨k + 1, s2.2.2, po5, co5, pi5, ci5, s2.2.1, s2.1, by omega, rfl, rfl, by go_num, by omega, HL14.out, hwb.out, HB14.out, .inr ⟨by omega, by rw [hpv]; exact HGO3.out⟩⟩
    · have hkm : k = m := by omega
      have hgo2 : goM none l s0 = .ok (st, o, fb) := by
        rcases HGO.out with ⟨h0, _⟩ | ⟨_, h1⟩
        · omega
        · rw [h1, List.drop_eq_nil_of_le (by omega)]; rfl
      have HR : Hid (R = finM u (st, o, fb)) := by show R = _; rw [HLM.out, hgo2]; rfl
      clear HGO hgo2 HLM hs0 hst ht0 hlt
      have HU := hide (HGM.out (m - 1) u hu2)
      clear HGM hu2
      subst hkm
      generalize k = m at *
      have hm2 : ((m : Int) - 1).toNat = m - 1 := by omega
      have hm3 : (0 : Int) ≤ (m : Int) - 1 := by omega
      have hm4 : (m : Int) - 1 < (m : Int) := by omega
      have hm5 : ¬ (m : Int) < 1 := by omega
      have hm6 : IntKind.i64.wrap ((m : Int) - 1) = (m : Int) - 1 := wrap_i (by omega) (by omega)
      go_wp2_with fail
      go_loopg [] (st.length) (fun gk wx => ∃ (po' : Option Addr) (co' : Nat) (o' : List Tok) (st' : List Blk), gk = st'.length ∧ LH w.heap.size wx po' co' pi ci o' st' ∧ wf st' ∧ o'.length + st'.length ≤ 900000 ∧ endM every u st' o' = endM every u st o ∧ Below w.heap.size w wx)
      case atStart => exact ⟨po, co, o, st, rfl, L2, HWF.out, by omega, rfl, B2⟩
      case round =>
        obtain ⟨po', co', o', st', hgk2, L3, hwf', hle, hER, B3⟩ := hrel
        clear L2 B2 HWF
        have HLA := hide (last_ref o' st' po' co' pi ci wr L3.rs (by omega))
        have HER := hide hER
        have HW := hide hwf'
        have c0 : wr.cell? ⟨w.heap.size + 1, 0, none⟩ = some (.slice po' o'.length co') := L3.s.cell 0
        have c1 : wr.cell? ⟨w.heap.size + 1, 1, none⟩ = some (.slice pi st'.length ci) := L3.s.cell 1
        clear hwf' hER
        by_cases h1 : 0 < lastI st'
        · have hd : decide (0 < lastI st') = true := by simpa using h1
          obtain ⟨b, rr, hst, hsg, hcl⟩ := (lastI_pos st' HW.out).1 h1
          have HST := hide hst
          have HSG := hide hsg
          clear hst hsg hcl
          generalize hx : lastI st' = lx at HLA h1 hd
          clear hx
          go_wp2_with fail
          refine HLA.out.mono ?_
          rintro e W2 ⟨rfl, hb2⟩
          have L4 := L3.below hb2
          have B4 := B3.trans (hb2.mono B3.size)
          clear L3 B3 c0 c1 HLA
          have HL4 := hide L4
          have HB4 := hide B4
          have c0 : W2.cell? ⟨w.heap.size + 1, 0, none⟩ = some (.slice po' o'.length co') := L4.s.cell 0
          have c1 : W2.cell? ⟨w.heap.size + 1, 1, none⟩ = some (.slice pi st'.length ci) := L4.s.cell 1
          clear L4 B4
          go_wp2_with fail
          · have HF : Hid (∀ W' : World, Below W2.heap.size W2 W' → W'.cell? ⟨w.heap.size + 1, 0, none⟩ = some (.slice po' o'.length co') ∧ W'.cell? ⟨w.heap.size + 1, 1, none⟩ = some (.slice pi st'.length ci) ∧ W'.cell? ⟨g, og + (m - 1) * 5, none⟩ = some (.int .i64 u.kd) ∧ W'.cell? ⟨g, og + (m - 1) * 5 + 1, none⟩ = some (.string (S u.tx)) ∧ W'.cell? ⟨g, og + (m - 1) * 5 + 2, none⟩ = some (.int .i64 u.nu) ∧ W'.cell? ⟨g, og + (m - 1) * 5 + 3, none⟩ = some (.int .i64 u.ln) ∧ W'.cell? ⟨g, og + (m - 1) * 5 + 4, none⟩ = some (.int .i64 u.co)) := fun W' hb => ⟨(HL4.out.below hb).s.cell 0, (HL4.out.below hb).s.cell 1, Hold2.below HU.out (HB4.out.trans (hb.mono HB4.out.size)) hg⟩
            have hb := below_drew W2.heap.size W2
            refine wp_region_noPanic ?_
            refine region_J 10 (N := 9) (S := (fun W' => W'.cell? ⟨w.heap.size + 1, 0, none⟩ = some (.slice po' o'.length co') ∧ W'.cell? ⟨w.heap.size + 1, 1, none⟩ = some (.slice pi st'.length ci) ∧ W'.cell? ⟨g, og + (m - 1) * 5, none⟩ = some (.int .i64 u.kd) ∧ W'.cell? ⟨g, og + (m - 1) * 5 + 1, none⟩ = some (.string (S u.tx)) ∧ W'.cell? ⟨g, og + (m - 1) * 5 + 2, none⟩ = some (.int .i64 u.nu) ∧ W'.cell? ⟨g, og + (m - 1) * 5 + 3, none⟩ = some (.int .i64 u.ln) ∧ W'.cell? ⟨g, og + (m - 1) * 5 + 4, none⟩ = some (.int .i64 u.co))) (by kernel_rfl) (by kernel_rfl) ?_
            have hS := HF.out _ hb
            refine take_D (i := 0) 88 (.agg #[.slice po' o'.length co', .slice pi st'.length ci]) rfl rfl (by kernel_rfl) (by kernel_rfl) (by kernel_rfl) (by kernel_rfl) (fun _ _ _ h => h) (Or.inl ⟨by rfl, fun W' hW => by obtain ⟨s0, s1, s2, s3, s4, s5, s6⟩ := hW; go_simp⟩) hS ?_
            simp only [Act.put, List.setIfInBounds_toArray, List.set_cons_zero, List.set_cons_succ]
            refine take_D (i := 1) 89 (.slice (some ⟨g, og, none⟩) m c) rfl rfl (by kernel_rfl) (by kernel_rfl) (by kernel_rfl) (by kernel_rfl) (fun _ _ _ h => h) (Or.inl ⟨by rfl, fun W' hW => by obtain ⟨s0, s1, s2, s3, s4, s5, s6⟩ := hW; go_simp⟩) hS ?_
            simp only [Act.put, List.setIfInBounds_toArray, List.set_cons_zero, List.set_cons_succ]
            refine take_D (i := 2) 90 (.slice (some ⟨g, og, none⟩) m c) rfl rfl (by kernel_rfl) (by kernel_rfl) (by kernel_rfl) (by kernel_rfl) (fun _ _ _ h => h) (Or.inl ⟨by rfl, fun W' hW => by obtain ⟨s0, s1, s2, s3, s4, s5, s6⟩ := hW; go_simp⟩) hS ?_
            simp only [Act.put, List.setIfInBounds_toArray, List.set_cons_zero, List.set_cons_succ]
            refine take_D (i := 3) 91 (.int .i64 m) rfl rfl (by kernel_rfl) (by kernel_rfl) (by kernel_rfl) (by kernel_rfl) (fun _ _ _ h => h) (Or.inl ⟨by rfl, fun W' hW => by obtain ⟨s0, s1, s2, s3, s4, s5, s6⟩ := hW; go_simp⟩) hS ?_
            simp only [Act.put, List.setIfInBounds_toArray, List.set_cons_zero, List.set_cons_succ]
            refine take_D (i := 4) 92 (.int .i64 ((m : Int) - 1)) rfl rfl (by kernel_rfl) (by kernel_rfl) (by kernel_rfl) (by kernel_rfl) (fun _ _ _ h => h) (Or.inl ⟨by rfl, fun W' hW => by obtain ⟨s0, s1, s2, s3, s4, s5, s6⟩ := hW; go_simp⟩) hS ?_
            simp only [Act.put, List.setIfInBounds_toArray, List.set_cons_zero, List.set_cons_succ]
            refine take_D (i := 5) 93 (.pointer (some ⟨g, og + (m - 1) * 5, none⟩)) rfl rfl (by kernel_rfl) (by kernel_rfl) (by kernel_rfl) (by kernel_rfl) (fun _ _ _ h => h) (Or.inl ⟨by rfl, fun W' hW => by obtain ⟨s0, s1, s2, s3, s4, s5, s6⟩ := hW; go_simp⟩) hS ?_
            simp only [Act.put, List.setIfInBounds_toArray, List.set_cons_zero, List.set_cons_succ]
            refine take_D (i := 6) 94 (.agg #[.int .i64 u.kd, .string (S u.tx), .int .i64 u.nu, .int .i64 u.ln, .int .i64 u.co]) rfl rfl (by kernel_rfl) (by kernel_rfl) (by kernel_rfl) (by kernel_rfl) (fun _ _ _ h => h) (Or.inl ⟨by rfl, fun W' hW => by obtain ⟨s0, s1, s2, s3, s4, s5, s6⟩ := hW; go_simp⟩) hS ?_
            simp only [Act.put, List.setIfInBounds_toArray, List.set_cons_zero, List.set_cons_succ]
            have HP := hide (put_ref [125] u o' st' po' co' pi ci _ (HL4.out.below hb).rs (by omega))
            unfold tv at HP
            refine ready_J (rs := [7]) (by kernel_rfl) (by simp) ?_
            intro i him
            obtain rfl := List.mem_singleton.1 him
            refine op_W rfl (by rfl) fun K hK => ?_
            go_simp
            refine HP.out.mono ?_
            rintro e W4 ⟨po2, co2, rfl, hR4, hB4, hF4⟩
            have hb4 := hb.trans (hB4.mono hb.size)
            go_simp
            refine hK _ _ ⟨fun _ => HF.out _ hb4, ?_⟩
            clear hK K HP
            have HLEN : Hid (st'.length = rr.length + 1) := by show st'.length = _; rw [HST.out]; simp
            have SH := shut_ref (o' ++ [⟨4, [125], 0, u.ln, u.co⟩]) b rr po2 co2 pi ci W4 (by rw [← HST.out]; exact hR4) (by have := HLEN.out; omega)
            rw [List.length_append, List.length_singleton, ← HLEN.out] at SH
            have HP := hide SH
            clear SH hR4
            refine ready_J (rs := [8]) (by kernel_rfl) (by simp) ?_
            intro i him
            obtain rfl := List.mem_singleton.1 him
            refine op_W rfl (by rfl) fun K hK => ?_
            go_simp
            refine HP.out.mono ?_
            rintro e W5 ⟨rfl, hR5, hB5⟩
            have hb5 := hb4.trans (hB5.mono hb4.size)
            go_simp
            refine hK _ _ ⟨fun _ => HF.out _ hb5, ?_⟩
            clear hK K HP
            have L5 := HL4.out.below hb5
            have e0 : W5.cell? ⟨w.heap.size + 1, 0, none⟩ = some (.slice po' o'.length co') := L5.s.cell 0
            have e1 : W5.cell? ⟨w.heap.size + 1, 1, none⟩ = some (.slice pi st'.length ci) := L5.s.cell 1
            have f0 := L5.s.frozen 0
            have f1 := L5.s.frozen 1
            have HL6 := hide (L5.store hR5 (o'.length + 1) rr.length (by simp) rfl)
            have HB6 := hide (((HB4.out.trans (hb5.mono HB4.out.size)).setCell (p := ⟨w.heap.size + 1, 0, none⟩) (by simp) (.slice po2 (o'.length + 1) co2)).setCell (p := ⟨w.heap.size + 1, 1, none⟩) (by simp) (.slice pi rr.length ci))
            clear L5 hR5
            refine ready_J (rs := [9]) (by kernel_rfl) (by simp) ?_
            intro i him
            obtain rfl := List.mem_singleton.1 him
            refine op_W rfl (by rfl) fun K hK => ?_
            go_simp
            refine hK _ _ ⟨fun h => absurd h (by decide), ?_⟩
            clear hK K
            refine done_J (by kernel_rfl) ?_ _
            refine NoPanic.normal ?_
            go_wp2_with fail
            go_roundg (rr.length)
            case measure => have := HLEN.out; omega
            case rel => exact ⟨po2, co2, _, rr, rfl, HL6.out, (by have h := HW.out; rw [HST.out] at h; exact h.1), (by have := HLEN.out; simp; omega), (by rw [← HER.out, HST.out, end_step u b rr o' HSG.out]), HB6.out⟩
        · have hd : decide (0 < lastI st') = false := by simpa using h1
          have hes := end_stop u st' o' HW.out h1
          have HF0 : Hid (st' = [] → R = (o', (0, 0), 0)) := by
            intro h; rw [HR.out]; unfold finM; simp only; rw [← HER.out, hes, h]
          have HF1 : Hid (∀ b3 s3, st' = b3 :: s3 → R = ([], (u.ln, u.co), 30)) := by
            intro b3 s3 h; rw [HR.out]; unfold finM; simp only; rw [← HER.out, hes, h]
          clear hes HER HR
          generalize hx : lastI st' = lx at HLA h1 hd
          clear hx
          go_wp2_with fail
          refine HLA.out.mono ?_
          rintro e W2 ⟨rfl, hb2⟩
          have L4 := L3.below hb2
          have B4 := B3.trans (hb2.mono B3.size)
          clear L3 B3 c0 c1 HLA
          have c0 : W2.cell? ⟨w.heap.size + 1, 0, none⟩ = some (.slice po' o'.length co') := L4.s.cell 0
          have c1 : W2.cell? ⟨w.heap.size + 1, 1, none⟩ = some (.slice pi st'.length ci) := L4.s.cell 1
          have p0 : W2.cell? ⟨w.heap.size, 0, none⟩ = some (.int .i64 0) := L4.pl.cell 0
          have p1 : W2.cell? ⟨w.heap.size, 1, none⟩ = some (.int .i64 0) := L4.pl.cell 1
          have f0 := L4.pl.frozen 0
          have f1 := L4.pl.frozen 1
          obtain ⟨n0, n1, n2, n3, n4⟩ := Hold2.below HU.out B4 hg
          cases st' with
          | nil =>
            have hR : R = (o', (0, 0), 0) := HF0.out rfl
            have HR2 := hide hR
            clear HF0 HF1 hR
            simp only [List.length_nil] at c1
            have TM := TMem.place (L4.rs.out.place L4.pl 0 (.int .i64 0)) (show Hold w.heap.size #[.int .i64 0, .int .i64 0] 25 _ from L4.pl.set 0 (.int .i64 0)) 1 (.int .i64 0)
            have HTM := hide TM
            clear TM L4
            go_wp2_with fail
            exact bodyPost_ret (v := .tuple #[.slice po' o'.length co', .agg #[.int .i64 0, .int .i64 0], .int .i64 0]) (by simp only [results, Tryd.results10]; go_simp) rfl ⟨po', co', by rw [HR2.out], by rw [HR2.out]; exact HTM.out, (B4.setCell (by simp) _).setCell (by simp) _⟩
          | cons bk st3 =>
            have hR : R = ([], (u.ln, u.co), 30) := HF1.out _ _ rfl
            have HR2 := hide hR
            clear HF0 HF1 hR L4
            simp only [List.length_cons] at c1
            go_wp2_with fail
            go_region
            all_goals (go_wp2_with fail; exact bodyPost_ret (v := .tuple #[.slice none 0 0, .agg #[.int .i64 u.ln, .int .i64 u.co], .int .i64 30]) (by simp only [results, Tryd.results10]; go_simp) rfl ⟨none, 0, by rw [HR2.out]; rfl, by rw [HR2.out]; exact .inl rfl, ((B4.trans (below_drew _ _)).setCell (by simp) _).setCell (by simp) _⟩)
/-- The document's answer is layM's, too. -/
theorem layref_any (p : Option Addr) (m c : Nat) (l : List Tok) (w : World) (hl : l.length = m) (hm : m ≤ 100000) (hmc : m ≤ c) (hM : TMem w p l) :
    Calls Tryd.prog 10 #[.slice p m c] w fun e W' => ∃ pa cp, e = .returned (.tuple #[.slice pa (layM l).1.length cp, .agg #[.int .i64 (layM l).2.1.1, .int .i64 (layM l).2.1.2], .int .i64 (layM l).2.2]) ∧ TMem W' pa (layM l).1 ∧ Below w.heap.size w W' := by
  cases l with
  | nil =>
    obtain rfl : m = 0 := by simpa using hl.symm
    exact layref_nil p c w
  | cons t r =>
    rcases hM with he | ⟨g, og, rfl, hg, hgm⟩
    · cases he
    · exact layref_cons g og m c t r w hl hm hmc hg hgm
end Go.Proofs.YtnifnbndkbmdcaaDoor
