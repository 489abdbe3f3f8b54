/-
  THE WALK OF web.tie.
-/
import Derived.Test.YteoflpalmckikaaDoorLayP
namespace Go.Proofs.YteoflpalmckikaaDoor
open Go.RowKit
set_option linter.unusedVariables false
set_option linter.unusedSimpArgs false
theorem mergeF_none {fc : Nat → Option Shp} {a b : Nat} (h : fc b = none) : mergeF fc a b = fc := by
  funext r
  unfold mergeF
  split
  · rename_i hc
    rw [h, hc.1, hc.2]
  · rfl
theorem mergeF_upd {fc : Nat → Option Shp} {a b : Nat} {s : Shp} (ha : fc a = none) (h : fc b = some s) : mergeF fc a b = updN fc a s := by
  funext r
  unfold mergeF updN
  by_cases e : r = a
  · rw [if_pos ⟨e, ha⟩, if_pos e, h]
  · rw [if_neg (fun hc => e hc.1), if_neg e]
theorem mergeF_some {fc : Nat → Option Shp} {a b : Nat} {s : Shp} (ha : fc a = some s) : mergeF fc a b = fc := by
  funext r
  unfold mergeF
  rw [if_neg (fun hc => by rw [ha] at hc; cases hc.2)]
theorem S_inj {a b : List UInt8} (h : S a = S b) : a = b := by have := congrArg (fun s => s.data.toList) h; simpa [S_data] using this
theorem zero81 (w : World) : (zeroValue 81).run Tryd.prog w = .ok (.agg #[.string ⟨#[]⟩, .slice none 0 0]) w := by kernel_rfl
/-- What is looked up of a place. -/
theorem WM.look {D B hB fB lB : Nat} {v : Value} {ties : List Nat} {hp : Int → Option Nat} {fc : Nat → Option Shp} {le : Nat → Option Int} {w : World} (h : WM D B hB fB lB v ties hp fc le w) (i : Nat) : ∃ (s : ByteArray) (p : Option Addr) (n c : Nat) (kn : Bool), (Instr.lookup 62 (.map (some fB)) (.int .i64 (i : Nat)) true).run Tryd.prog w = .ok (.tuple #[.agg #[.string s, .slice p n c], .bool kn]) w ∧
    ((kn = true ∧ ∃ sh : Shp, fc i = some sh ∧ s = S sh.1 ∧ n = sh.2.length ∧ w.ownsRow D 3 1 (.slice p n c) n (natV sh.2) ∧ ∀ g, (Value.slice p n c).ownBlock = some g → some g ≠ v.ownBlock) ∨ (kn = false ∧ fc i = none)) := by
  obtain ⟨fv, f1, f2, f3⟩ := h.fac
  have hr := f1.run_look_ok (P := Tryd.prog) (T := 62) (K := 3) (E := 81) Tryd.underlying62 Tryd.underlying3 (zero81 w) (i : Nat)
  cases hf : fc i with
  | none =>
    rw [f3 i hf] at hr
    exact ⟨_, _, _, _, false, hr, .inr ⟨rfl, rfl⟩⟩
  | some sh =>
    obtain ⟨x, e1, p, c, rfl, h2, h3⟩ := f2 i sh hf
    rw [e1] at hr
    exact ⟨_, _, _, _, true, hr, .inl ⟨rfl, sh, rfl, rfl, rfl, h2, h3⟩⟩
/-- What a call of tie comes to, in memory. -/
def TieQ (n D B hB fB lB : Nat) (v : Value) (hp : Int → Option Nat) (le : Nat → Option Int) (sh : Nat → Option Shp) (x y a b : Nat) (ties : List Nat) (fc : Nat → Option Shp) (ro : Nat → Nat) (w : World) (r : Ending) (w' : World) : Prop := ∃ res : Bool, r = .returned (.bool res) ∧ KP (Wk B hB fB lB v w) w w' ∧ (res = false → ∀ V, Fit sh V → V x ≠ V y) ∧
  (res = true → ∃ ties' fc' ro' d', WM D B hB fB lB v ties' hp fc' le w' ∧ Fo ties' ro' d' ∧ TieR sh x y a b fc ro true fc' ro' ∧ ties'.length = n ∧ rootN ties' ≤ rootN ties)
set_option maxHeartbeats 8000000 in
set_option maxRecDepth 100000 in
theorem tie_any {n D B hB fB lB : Nat} {hp : Int → Option Nat} {le : Nat → Option Int} {sh : Nat → Option Shp} {x y : Nat} (hsh : ∀ i s, sh i = some s → s.2.length ≤ 100000 ∧ ∀ j ∈ s.2, j < n) (m : Nat) : ∀ {ties : List Nat} {fc : Nat → Option Shp} {ro d : Nat → Nat} {w : World} {a b : Nat} {v : Value}, rootN ties = m → ties.length = n → WM D B hB fB lB v ties hp fc le w → Fo ties ro d → WS sh x y fc ro → Must sh x y a b → a < n → b < n →
    Calls Tryd.prog 43 #[.pointer (some ⟨B, 0, none⟩), .int .i64 a, .int .i64 b] w (TieQ n D B hB fB lB v hp le sh x y a b ties fc ro w) := by
  induction m using Nat.strongRecOn with
  | _ m ih =>
    intro ties fc ro d w a b v hrt hln hM hF hWS hMu han hbn
    have HIH := hide ih
    have HRT := hide hrt
    obtain ⟨g, c, hv, hDg, hgl, cur, hcur⟩ := hM.slice (by omega)
    have hn : ties.length ≤ 100000 := hM.few
    rw [hln] at hv hn
    subst hv
    have hBl := hM.cell.lt
    have ht1 := teller_any hM hF (i := a) (by omega)
    have hrl : ∀ i, i < n → ro i < n := fun i hi => by have := (hF.root (i := i) (by omega)).1; omega
    have hra := hrl a han; have hrb := hrl b hbn
    have HM := hide hM; have HF := hide hF; have HWS := hide hWS; have HMU := hide hMu; have HLN := hide hln; have HT1 := hide ht1; have HRL := hide hrl
    clear ih hrt hln hM hF hWS hMu ht1 hcur hrl
    go_enter Tryd.func43, Tryd.ntmps43
    go_wp2_with fail
    refine HT1.out.mono ?_
    rintro r w1 ⟨rfl, ts1, hm1, hf1, hl1, hk1⟩
    have ht2 := teller_any hm1 hf1 (i := b) (by have := HLN.out; omega)
    have HM1 := hide hm1; have HF1 := hide hf1; have HL1 := hide hl1; have HK1 : Hid (KP (Wk B hB fB lB (.slice (some ⟨g, 0, none⟩) n c) w) w w1) := hide (hk1.mono fun b hb => ⟨hb.1, hb.2.2.2.2.2⟩); have HT2 := hide ht2
    clear hm1 hf1 hl1 hk1 ht2
    go_wp2_with fail
    refine HT2.out.mono ?_
    rintro r w2 ⟨rfl, ts2, hm2, hf2, hl2, hk2⟩
    have hl2' : ts2.length = n := by rw [hl2, HL1.out]; exact HLN.out
    have hrn2 : rootN ts2 = rootN ties := HF.out.rootN_eq hf2 (by rw [hl2', HLN.out])
    have HM2 := hide hm2; have HF2 := hide hf2; have HL2 := hide hl2'; have HRN2 := hide hrn2
    have HK2 : Hid (KP (Wk B hB fB lB (.slice (some ⟨g, 0, none⟩) n c) w) w w2) := hide (HK1.out.trans (hk2.mono fun b hb => ⟨(hb.step HK1.out.size (VB.refl _ _)).1, (hb.step HK1.out.size (VB.refl _ _)).2.2.2.2.2⟩))
    clear hm2 hf2 hl2 hl2' hrn2 hk2
    by_cases heq : ro a = ro b
    · have heqi : ((ro a : Nat) : Int) = (ro b : Nat) := by omega
      go_wp2_with fail
      go_ret
      exact ⟨true, rfl, HK2.out, fun h => (by cases h), fun _ => ⟨ts2, fc, ro, d, HM2.out, HF2.out, tie_same HWS.out heq, HL2.out, by rw [HRN2.out]; exact Nat.le_refl _⟩⟩
    · have heqi : (((ro a : Nat) : Int) == ((ro b : Nat) : Int)) = false := by simp; omega
      obtain ⟨s7, p7, n7, c7, k7, hlk7, h7⟩ := HM2.out.look (ro a)
      obtain ⟨s9, p9, n9, c9, k9, hlk9, h9⟩ := (HM2.out.alloc (.cells #[.string s7, .slice p7 n7 c7] 81)).look (ro b)
      have HM3 := hide ((HM2.out.alloc (.cells #[.string s7, .slice p7 n7 c7] 81)).alloc (.cells #[.string s9, .slice p9 n9 c9] 81))
      have z0 := HM3.out.cell.cell 0
      have z2 := HM3.out.cell.cell 2
      have y0 := HM2.out.cell.cell 0
      have y2 := HM2.out.cell.cell 2
      have y2' := (HM2.out.alloc (.cells #[.string s7, .slice p7 n7 c7] 81)).cell.cell 2
      have hB2 : B < w2.heap.size := HM2.out.cell.lt
      simp only [List.getElem?_toArray, List.getElem?_cons_succ, List.getElem?_cons_zero] at z0 z2 y0 y2 y2'
      have hbr : ts2[ro b]? = some (ro b) := (HF2.out.root_iff (by have := HL2.out; omega)).2 (HWS.out.idem b)
      have har : ts2[ro a]? = some (ro a) := (HF2.out.root_iff (by have := HL2.out; omega)).2 (HWS.out.idem a)
      have hcg : ((w2.alloc (.cells #[.string s7, .slice p7 n7 c7] 81)).alloc (.cells #[.string s9, .slice p9 n9 c9] 81)).cell? ⟨g, ro b, none⟩ = some (.int .i64 (ro b : Nat)) := HM3.out.at (by rw [HL2.out]) hbr
      have hfg : ((w2.alloc (.cells #[.string s7, .slice p7 n7 c7] 81)).alloc (.cells #[.string s9, .slice p9 n9 c9] 81)).frozen? ⟨g, ro b, none⟩ = false := by
        obtain ⟨g', c', hv', _, _, cur', hcur'⟩ := HM3.out.slice (by have := HL2.out; omega)
        cases hv'
        exact hcur'.frozen _
      have htie := WM.tie (x := ro a) (i := ro b) (by have := HM3.out; rw [← HL2.out] at this; exact this) (by have := HL2.out; omega)
      rw [HL2.out] at htie
      have HKA : Hid (KP (Wk B hB fB lB (.slice (some ⟨g, 0, none⟩) n c) w) w ((w2.alloc (.cells #[.string s7, .slice p7 n7 c7] 81)).alloc (.cells #[.string s9, .slice p9 n9 c9] 81))) := hide ((HK2.out.trans (KP.alloc _ _ fun b hb => by have := hb.1; have := HK2.out.size; omega)).trans (KP.alloc _ _ fun b hb => by have := hb.1; have := HK2.out.size; simp; omega))
      have HK4 : Hid (KP (Wk B hB fB lB (.slice (some ⟨g, 0, none⟩) n c) w) w (((w2.alloc (.cells #[.string s7, .slice p7 n7 c7] 81)).alloc (.cells #[.string s9, .slice p9 n9 c9] 81)).setCell ⟨g, ro b, none⟩ (.int .i64 (ro a : Nat)))) := hide (HKA.out.trans (htie.2.mono fun b hb => hb.2.2.2.2.2))
      have HM4 := hide htie.1
      have hfo4 := HF2.out.merge har hbr heq
      have HFO4 := hide hfo4
      have hl4 : (ts2.set (ro b) (ro a)).length = n := by rw [List.length_set]; exact HL2.out
      have HL4 := hide hl4
      have hr4 : rootN (ts2.set (ro b) (ro a)) < rootN ties := by rw [← HRN2.out]; exact rootN_merge hbr heq
      have HR4 := hide hr4
      have hrbi : ((ro b : Nat) : Int) < n := by omega
      have HX7 : Hid (Hold w2.heap.size #[.string s7, .slice p7 n7 c7] 81 ((w2.alloc (.cells #[.string s7, .slice p7 n7 c7] 81)).alloc (.cells #[.string s9, .slice p9 n9 c9] 81))) := hide ((Hold.new w2 _ 81).alloc _)
      have HX9 : Hid (Hold (w2.heap.size + 1) #[.string s9, .slice p9 n9 c9] 81 ((w2.alloc (.cells #[.string s7, .slice p7 n7 c7] 81)).alloc (.cells #[.string s9, .slice p9 n9 c9] 81))) := by
        have := Hold.new (w2.alloc (.cells #[.string s7, .slice p7 n7 c7] 81)) #[.string s9, .slice p9 n9 c9] 81
        rw [World.size_alloc] at this
        exact hide this
      have HG2 : Hid (g < w2.heap.size) := by
        obtain ⟨g', c', hv', _, hg', _⟩ := HM2.out.slice (by have := HL2.out; omega)
        cases hv'
        exact hide hg'
      have HX7' : Hid (Hold w2.heap.size #[.string s7, .slice p7 n7 c7] 81 (((w2.alloc (.cells #[.string s7, .slice p7 n7 c7] 81)).alloc (.cells #[.string s9, .slice p9 n9 c9] 81)).setCell ⟨g, ro b, none⟩ (.int .i64 (ro a : Nat)))) := hide (HX7.out.other (by have := HG2.out; omega) _ _)
      have HX9' : Hid (Hold (w2.heap.size + 1) #[.string s9, .slice p9 n9 c9] 81 (((w2.alloc (.cells #[.string s7, .slice p7 n7 c7] 81)).alloc (.cells #[.string s9, .slice p9 n9 c9] 81)).setCell ⟨g, ro b, none⟩ (.int .i64 (ro a : Nat)))) := hide (HX9.out.other (by have := HG2.out; omega) _ _)
      clear htie hfo4 hl4 hr4 har
      rcases h9 with ⟨rfl, sb, hsb, rfl, rfl, hrb9, hnb9⟩ | ⟨rfl, hnb⟩
      · rcases h7 with ⟨rfl, sa, hsa, rfl, rfl, hra7, hna7⟩ | ⟨rfl, hna⟩
        · have HRB : Hid ((((w2.alloc (.cells #[.string (S sa.1), .slice p7 sa.2.length c7] 81)).alloc (.cells #[.string (S sb.1), .slice p9 sb.2.length c9] 81)).setCell ⟨g, ro b, none⟩ (.int .i64 (ro a : Nat))).ownsRow D 3 1 (.slice p9 sb.2.length c9) sb.2.length (natV sb.2)) := hide (row_keep hrb9 fun g' hg' hl' => (Below.heap_setCell _ _ _ g' (fun e => hnb9 g' hg' (by rw [show g' = g from e]; rfl))).trans (Below.heap_alloc _ _ g' hl'))
          have HRA : Hid ((((w2.alloc (.cells #[.string (S sa.1), .slice p7 sa.2.length c7] 81)).alloc (.cells #[.string (S sb.1), .slice p9 sb.2.length c9] 81)).setCell ⟨g, ro b, none⟩ (.int .i64 (ro a : Nat))).ownsRow D 3 1 (.slice p7 sa.2.length c7) sa.2.length (natV sa.2)) := hide (row_keep hra7 fun g' hg' hl' => (Below.heap_setCell _ _ _ g' (fun e => hna7 g' hg' (by rw [show g' = g from e]; rfl))).trans ((Below.heap_alloc _ _ g' (by simp; omega)).trans (Below.heap_alloc _ _ g' hl')))
          have HNA7 := hide hna7; have HNB9 := hide hnb9
          have q0 := HX9'.out.cell 0; have q1 := HX9'.out.cell 1
          have u0 := HX7'.out.cell 0; have u1 := HX7'.out.cell 1
          simp only [List.getElem?_toArray, List.getElem?_cons_succ, List.getElem?_cons_zero] at q0 q1 u0 u1
          have HSHA : Hid (sa.2.length ≤ 100000 ∧ ∀ j ∈ sa.2, j < n) := by
            obtain ⟨i, _, hi⟩ := HWS.out.own (ro a) sa (HWS.out.idem a) hsa
            exact hide (hsh i sa hi)
          have HSHB : Hid (sb.2.length ≤ 100000 ∧ ∀ j ∈ sb.2, j < n) := by
            obtain ⟨i, _, hi⟩ := HWS.out.own (ro b) sb (HWS.out.idem b) hsb
            exact hide (hsh i sb hi)
          have hla := HSHA.out.1; have hlb := HSHB.out.1
          have HSA := hide hsa; have HSB := hide hsb
          clear hnb9 hrb9 hra7 hna7 hsa hsb
          by_cases hnm : sa.1 = sb.1
          · have hse : (S sa.1).toList = (S sb.1).toList := by rw [hnm]
            have HNM := hide hnm
            clear hnm
            by_cases hle : sa.2.length = sb.2.length
            · have hlei : (((sa.2.length : Nat) : Int) != ((sb.2.length : Nat) : Int)) = false := by simp; omega
              have HLE := hide hle
              clear hle
              go_wp2_with fail
              generalize (((w2.alloc (.cells #[.string (S sa.1), .slice p7 sa.2.length c7] 81)).alloc (.cells #[.string (S sb.1), .slice p9 sb.2.length c9] 81)).setCell ⟨g, ro b, none⟩ (.int .i64 (ro a : Nat))) = W4 at *
              have hmg := tie_merge HWS.out HMU.out heq (fun s t hs ht => by rw [HSA.out] at hs; rw [HSB.out] at ht; cases hs; cases ht; exact ⟨HNM.out, HLE.out⟩)
              rw [mergeF_some HSA.out] at hmg
              have HMG := hide hmg.1
              have hbq : (((ro a : Nat) : Int) == ((ro b : Nat) : Int)) = false := by simp; omega

              have HEQ := hide heq
              clear hmg hlk7 hlk9 z0 z2 y0 y2 y2' hcg hfg q0 q1 u0 u1 heq heqi hbq
              generalize hnk : sa.2.length = nk at *
              have HNK := hide hnk
              clear hnk
              go_loopg [73] nk (fun k s73 wr => ∃ (i : Nat) (ties' : List Nat) (fc' : Nat → Option Shp) (ro' d' : Nat → Nat), i ≤ nk ∧ k = nk - i ∧ s73 = .int .i64 i ∧ Goes sh x y ((sa.2.zip sb.2).take i) fc (mergeR ro (ro a) (ro b)) fc' ro' ∧ WM D B hB fB lB (.slice (some ⟨g, 0, none⟩) n c) ties' hp fc' le wr ∧ Fo ties' ro' d' ∧ ties'.length = n ∧ rootN ties' < rootN ties ∧ KP (Wk B hB fB lB (.slice (some ⟨g, 0, none⟩) n c) w) w wr ∧ KP (Wk B hB fB lB (.slice (some ⟨g, 0, none⟩) n c) W4) W4 wr)
              case atStart => exact ⟨0, _, fc, _, _, Nat.zero_le _, by omega, rfl, Goes.refl HMG.out (fun p hp => (by cases hp)), HM4.out, HFO4.out, HL4.out, HR4.out, HK4.out, KP.refl _ _⟩
              case round =>
                obtain ⟨i, ties', fc', ro', d', hi1, rfl, rfl, hgo, hwm, hfo, hlt', hrn, hkp, hk4⟩ := hrel
                have HGO := hide hgo; have HWM := hide hwm; have HFO' := hide hfo; have HLT := hide hlt'; have HRN := hide hrn; have HKP := hide hkp; have HK4' := hide hk4
                obtain ⟨mB, mh, mf, ml⟩ := HM.out.maps_lt
                have hw24 := HK2.out.size
                have hg2 := HG2.out
                have hx7l := HX7'.out.lt
                have hx9l := HX9'.out.lt
                have hb7 : Wk B hB fB lB (.slice (some ⟨g, 0, none⟩) n c) W4 w2.heap.size := ⟨by omega, by omega, by omega, by omega, by omega, fun e => by have e' : w2.heap.size = g := (by simpa [Value.ownBlock] using e); omega⟩
                have hb9 : Wk B hB fB lB (.slice (some ⟨g, 0, none⟩) n c) W4 (w2.heap.size + 1) := ⟨by omega, by omega, by omega, by omega, by omega, fun e => by have e' : w2.heap.size + 1 = g := (by simpa [Value.ownBlock] using e); omega⟩
                have HB7 := hide hb7; have HB9 := hide hb9
                have x7 := HX7'.out.kp hk4 hb7
                have x9 := HX9'.out.kp hk4 hb9
                have q1 := x9.cell 1
                have u1 := x7.cell 1
                simp only [List.getElem?_toArray, List.getElem?_cons_succ, List.getElem?_cons_zero] at q1 u1
                by_cases hlt : i < nk
                · have hia : i < sa.2.length := by rw [HNK.out]; exact hlt
                  have hib : i < sb.2.length := by have := HLE.out; omega
                  have hu := List.getElem?_eq_getElem hia
                  have hv := List.getElem?_eq_getElem hib
                  obtain ⟨g7, rfl⟩ : ∃ g7, p7 = some ⟨g7, 0, none⟩ := by
                    rcases HRA.out.2 with ⟨_, h3⟩ | ⟨g', cap, cur, hv', _⟩
                    · omega
                    · cases hv'; exact ⟨g', rfl⟩
                  obtain ⟨g9, rfl⟩ : ∃ g9, p9 = some ⟨g9, 0, none⟩ := by
                    rcases HRB.out.2 with ⟨_, h3⟩ | ⟨g', cap, cur, hv', _⟩
                    · omega
                    · cases hv'; exact ⟨g', rfl⟩
                  have hun := HSHA.out.2 _ (List.getElem_mem hia)
                  have hvn := HSHB.out.2 _ (List.getElem_mem hib)
                  generalize sa.2[i] = u at *
                  generalize sb.2[i] = v at *
                  have hWg : ∀ {gg nn cc} {xs : List Value}, W4.ownsRow D 3 1 (.slice (some ⟨gg, 0, none⟩) nn cc) nn xs → (∀ g', (Value.slice (some ⟨gg, 0, none⟩) nn cc).ownBlock = some g' → some g' ≠ (Value.slice (some ⟨g, 0, none⟩) n c).ownBlock) → gg < W4.heap.size ∧ Wk B hB fB lB (.slice (some ⟨g, 0, none⟩) n c) W4 gg := fun {gg nn cc xs} hr hne => by
                    have hl := (row_own hr rfl).2
                    obtain ⟨fv, f1, _⟩ := HM4.out.fac
                    obtain ⟨lv, l1, _⟩ := HM4.out.lea
                    have e1 := row_ne HM4.out.cell hr (by decide)
                    have e2 := HM4.out.hol.row_ne hr
                    have e3 := f1.row_ne hr
                    have e4 := l1.row_ne hr
                    have hh : (Value.slice (some ⟨gg, 0, none⟩) nn cc).ownBlock = some gg := rfl
                    rw [hh] at e1 e2 e3 e4
                    exact ⟨hl, hl, fun e => e1 (by rw [e]), fun e => e2 (by rw [e]), fun e => e3 (by rw [e]), fun e => e4 (by rw [e]), hne gg rfl⟩
                  obtain ⟨l7, k7⟩ := hWg HRA.out HNA7.out
                  obtain ⟨l9, k9⟩ := hWg HRB.out HNB9.out
                  have ca : wr.cell? ⟨g7, i, none⟩ = some (.int .i64 (u : Nat)) := (hk4.cell k7 i).trans (row_cell HRA.out (natV_at hu))
                  have cb : wr.cell? ⟨g9, i, none⟩ = some (.int .i64 (v : Nat)) := (hk4.cell k9 i).trans (row_cell HRB.out (natV_at hv))
                  have hmu := must_args HWS.out HMU.out HSA.out HSB.out hu hv
                  have hcall := HIH.out _ (by have := HRT.out; omega) rfl hlt' (hwm.below (below_drew wr)) hfo hgo.ws hmu hun hvn
                  have HC := hide hcall; have HU := hide hu; have HV := hide hv; have HK7 := hide k7; have HK9 := hide k9
                  have hii : (i : Int) < nk := by omega
                  have hii2 : (i : Int) < (sb.2.length : Nat) := by omega
                  clear hgo hwm hfo hlt' hrn hkp hk4 hb7 hb9 hWg hcall hu hv hmu k7 k9
                  go_upto_region 17 with fail
                  refine wp_region_noPanic ?_
                  refine region_J 13 (N := 13) (S := (fun W' : World => W'.cell? ⟨w2.heap.size, 1, none⟩ = some (.slice (some ⟨g7, 0, none⟩) nk c7) ∧ W'.cell? ⟨w2.heap.size + 1, 1, none⟩ = some (.slice (some ⟨g9, 0, none⟩) sb.2.length c9) ∧ W'.cell? ⟨g7, i, none⟩ = some (.int .i64 (u : Nat)) ∧ W'.cell? ⟨g9, i, none⟩ = some (.int .i64 (v : Nat)))) (by kernel_rfl) (by kernel_rfl) ?_
                  have hS : (fun W' : World => W'.cell? ⟨w2.heap.size, 1, none⟩ = some (.slice (some ⟨g7, 0, none⟩) nk c7) ∧ W'.cell? ⟨w2.heap.size + 1, 1, none⟩ = some (.slice (some ⟨g9, 0, none⟩) sb.2.length c9) ∧ W'.cell? ⟨g7, i, none⟩ = some (.int .i64 (u : Nat)) ∧ W'.cell? ⟨g9, i, none⟩ = some (.int .i64 (v : Nat))) wr.drew := ⟨u1, q1, ca, cb⟩
                  refine take_D (i := 0) 76 (.pointer (some ⟨B, 0, none⟩)) rfl rfl (by kernel_rfl) (by kernel_rfl) (by kernel_rfl) (by kernel_rfl) (fun _ _ _ h => h) (Or.inl ⟨by rfl, fun W' hW => by obtain ⟨s0, s1, s2, s3⟩ := hW; go_simp⟩) hS ?_
                  simp only [Act.put, List.setIfInBounds_toArray, List.set_cons_zero, List.set_cons_succ]
                  refine take_D (i := 1) 77 (.pointer (some ⟨w2.heap.size, 1, none⟩)) rfl rfl (by kernel_rfl) (by kernel_rfl) (by kernel_rfl) (by kernel_rfl) (fun _ _ _ h => h) (Or.inl ⟨by rfl, fun W' hW => by obtain ⟨s0, s1, s2, s3⟩ := hW; go_simp⟩) hS ?_
                  simp only [Act.put, List.setIfInBounds_toArray, List.set_cons_zero, List.set_cons_succ]
                  refine take_D (i := 2) 78 (.slice (some ⟨g7, 0, none⟩) nk c7) rfl rfl (by kernel_rfl) (by kernel_rfl) (by kernel_rfl) (by kernel_rfl) (fun _ _ _ h => h) (Or.inl ⟨by rfl, fun W' hW => by obtain ⟨s0, s1, s2, s3⟩ := hW; go_simp⟩) hS ?_
                  simp only [Act.put, List.setIfInBounds_toArray, List.set_cons_zero, List.set_cons_succ]
                  refine take_D (i := 3) 79 (.int .i64 i) rfl rfl (by kernel_rfl) (by kernel_rfl) (by kernel_rfl) (by kernel_rfl) (fun _ _ _ h => h) (Or.inl ⟨by rfl, fun W' hW => by obtain ⟨s0, s1, s2, s3⟩ := hW; go_simp⟩) hS ?_
                  simp only [Act.put, List.setIfInBounds_toArray, List.set_cons_zero, List.set_cons_succ]
                  refine take_D (i := 4) 80 (.pointer (some ⟨g7, i, none⟩)) rfl rfl (by kernel_rfl) (by kernel_rfl) (by kernel_rfl) (by kernel_rfl) (fun _ _ _ h => h) (Or.inl ⟨by rfl, fun W' hW => by obtain ⟨s0, s1, s2, s3⟩ := hW; go_simp⟩) hS ?_
                  simp only [Act.put, List.setIfInBounds_toArray, List.set_cons_zero, List.set_cons_succ]
                  refine take_D (i := 5) 81 (.int .i64 (u : Nat)) rfl rfl (by kernel_rfl) (by kernel_rfl) (by kernel_rfl) (by kernel_rfl) (fun _ _ _ h => h) (Or.inl ⟨by rfl, fun W' hW => by obtain ⟨s0, s1, s2, s3⟩ := hW; go_simp⟩) hS ?_
                  simp only [Act.put, List.setIfInBounds_toArray, List.set_cons_zero, List.set_cons_succ]
                  refine take_D (i := 6) 82 (.pointer (some ⟨w2.heap.size + 1, 1, none⟩)) rfl rfl (by kernel_rfl) (by kernel_rfl) (by kernel_rfl) (by kernel_rfl) (fun _ _ _ h => h) (Or.inl ⟨by rfl, fun W' hW => by obtain ⟨s0, s1, s2, s3⟩ := hW; go_simp⟩) hS ?_
                  simp only [Act.put, List.setIfInBounds_toArray, List.set_cons_zero, List.set_cons_succ]
                  refine take_D (i := 7) 83 (.slice (some ⟨g9, 0, none⟩) sb.2.length c9) rfl rfl (by kernel_rfl) (by kernel_rfl) (by kernel_rfl) (by kernel_rfl) (fun _ _ _ h => h) (Or.inl ⟨by rfl, fun W' hW => by obtain ⟨s0, s1, s2, s3⟩ := hW; go_simp⟩) hS ?_
                  simp only [Act.put, List.setIfInBounds_toArray, List.set_cons_zero, List.set_cons_succ]
                  refine take_D (i := 8) 84 (.int .i64 i) rfl rfl (by kernel_rfl) (by kernel_rfl) (by kernel_rfl) (by kernel_rfl) (fun _ _ _ h => h) (Or.inl ⟨by rfl, fun W' hW => by obtain ⟨s0, s1, s2, s3⟩ := hW; go_simp⟩) hS ?_
                  simp only [Act.put, List.setIfInBounds_toArray, List.set_cons_zero, List.set_cons_succ]
                  refine take_D (i := 9) 85 (.pointer (some ⟨g9, i, none⟩)) rfl rfl (by kernel_rfl) (by kernel_rfl) (by kernel_rfl) (by kernel_rfl) (fun _ _ _ h => h) (Or.inl ⟨by rfl, fun W' hW => by obtain ⟨s0, s1, s2, s3⟩ := hW; go_simp⟩) hS ?_
                  simp only [Act.put, List.setIfInBounds_toArray, List.set_cons_zero, List.set_cons_succ]
                  refine take_D (i := 10) 86 (.int .i64 (v : Nat)) rfl rfl (by kernel_rfl) (by kernel_rfl) (by kernel_rfl) (by kernel_rfl) (fun _ _ _ h => h) (Or.inl ⟨by rfl, fun W' hW => by obtain ⟨s0, s1, s2, s3⟩ := hW; go_simp⟩) hS ?_
                  simp only [Act.put, List.setIfInBounds_toArray, List.set_cons_zero, List.set_cons_succ]
                  refine ready_J (rs := [11]) (by kernel_rfl) (by simp) ?_
                  intro jj hjj
                  obtain rfl := List.mem_singleton.1 hjj
                  clear hjj
                  refine op_J rfl rfl fun K hK => ?_
                  go_simp
                  refine HC.out.mono ?_
                  rintro r w5 ⟨res, rfl, hk5, hno, hyes⟩
                  have hk45 : KP (Wk B hB fB lB (.slice (some ⟨g, 0, none⟩) n c) W4) W4 w5 := (HK4'.out.drew).trans (hk5.mono fun b hb => hb.step (w' := wr.drew) HK4'.out.size (VB.refl _ _))
                  have hkw5 : KP (Wk B hB fB lB (.slice (some ⟨g, 0, none⟩) n c) w) w w5 := (HKP.out.drew).trans (hk5.mono fun b hb => hb.step (w' := wr.drew) HKP.out.size (VB.refl _ _))
                  have y7 := (HX7'.out.kp hk45 HB7.out).cell 1
                  have y9 := (HX9'.out.kp hk45 HB9.out).cell 1
                  have ca5 : w5.cell? ⟨g7, i, none⟩ = some (.int .i64 (u : Nat)) := (hk45.cell HK7.out i).trans (row_cell HRA.out (natV_at HU.out))
                  have cb5 : w5.cell? ⟨g9, i, none⟩ = some (.int .i64 (v : Nat)) := (hk45.cell HK9.out i).trans (row_cell HRB.out (natV_at HV.out))
                  simp only [List.getElem?_toArray, List.getElem?_cons_succ, List.getElem?_cons_zero] at y7 y9
                  have HK45 := hide hk45; have HKW5 := hide hkw5; have HNO := hide hno; have HYES := hide hyes
                  clear hk45 hkw5 hno hyes hk5
                  refine hK _ _ ⟨fun _ => ⟨y7, y9, ca5, cb5⟩, ?_⟩
                  clear hK K
                  refine ready_J (rs := [12]) (by kernel_rfl) (by simp) ?_
                  intro jj hjj
                  obtain rfl := List.mem_singleton.1 hjj
                  clear hjj
                  refine op_J rfl rfl fun K hK => ?_
                  go_simp
                  refine hK _ _ ⟨fun _ => ⟨y7, y9, ca5, cb5⟩, ?_⟩
                  clear hK K
                  refine done_J (by kernel_rfl) ?_ _
                  refine NoPanic.normal ?_
                  cases res with
                  | true =>
                    go_wp2_with fail
                    go_roundg (nk - (i + 1))
                    case measure => omega
                    case rel =>
                      obtain ⟨ties2, fc2, ro2, d2, h1, h2, h3, h4, h5⟩ := HYES.out (by simp)
                      exact ⟨i + 1, ties2, fc2, ro2, d2, by omega, rfl, by go_num, goes_next HGO.out HU.out HV.out h3, h1, h2, h4, by have := HRN.out; omega, HKW5.out, HK45.out⟩
                  | false =>
                    go_wp2_with fail
                    go_ret
                    exact ⟨false, rfl, HKW5.out, fun _ => HNO.out (by simp), fun h => (by cases h)⟩
                · have hz : (sa.2.zip sb.2).take i = sa.2.zip sb.2 := List.take_of_length_le (by rw [List.length_zip, HNK.out]; omega)
                  rw [hz] at HGO
                  have hii : ¬ (i : Int) < nk := by omega
                  clear hgo hwm hfo hlt' hrn hkp hk4 hb7 hb9 hz
                  go_wp2_with fail
                  go_ret
                  refine ⟨true, rfl, HKP.out, fun h => (by cases h), fun _ => ⟨ties', fc', ro', d', HWM.out, HFO'.out, ?_, HLT.out, by have := HRN.out; omega⟩⟩
                  exact tie_args HWS.out HMU.out HEQ.out HSA.out HSB.out ⟨HNM.out, by have := HLE.out; have := HNK.out; omega⟩ (by rw [mergeF_some HSA.out]; exact HGO.out)
            · have hlei : (((sa.2.length : Nat) : Int) != ((sb.2.length : Nat) : Int)) = true := by simp; omega
              have HLE := hide hle
              clear hle
              go_wp2_with fail
              go_ret
              exact ⟨false, rfl, HK4.out, fun _ => tie_bad HWS.out HMU.out HSA.out HSB.out (fun h => HLE.out h.2), fun h => (by cases h)⟩
          · have hse : ¬ (S sa.1).toList = (S sb.1).toList := fun h => hnm (by rw [S_list, S_list] at h; exact h)
            have HNM := hide hnm
            clear hnm
            go_wp2_with fail
            go_ret
            exact ⟨false, rfl, HK4.out, fun _ => tie_bad HWS.out HMU.out HSA.out HSB.out (fun h => HNM.out h.1), fun h => (by cases h)⟩
        · have HRB : Hid ((((w2.alloc (.cells #[.string s7, .slice p7 n7 c7] 81)).alloc (.cells #[.string (S sb.1), .slice p9 sb.2.length c9] 81)).setCell ⟨g, ro b, none⟩ (.int .i64 (ro a : Nat))).ownsRow D 3 1 (.slice p9 sb.2.length c9) sb.2.length (natV sb.2)) := hide (row_keep hrb9 fun g' hg' hl' => (Below.heap_setCell _ _ _ g' (fun e => hnb9 g' hg' (by rw [show g' = g from e]; rfl))).trans (Below.heap_alloc _ _ g' hl'))
          have htl := tie_leaf HWS.out HMU.out heq (.inl hna)
          have HTL := hide htl
          clear htl
          go_upto_region 10 with fail
          have m2 := HM4.out.cell.cell 2
          have q0 := HX9'.out.cell 0; have q1 := HX9'.out.cell 1
          simp only [List.getElem?_toArray, List.getElem?_cons_succ, List.getElem?_cons_zero] at m2 q0 q1
          have HNB9 := hide hnb9
          clear hlk7 hlk9 z0 z2 y0 y2 y2' hcg hfg hnb9 hrb9
          generalize (((w2.alloc (.cells #[.string s7, .slice p7 n7 c7] 81)).alloc (.cells #[.string (S sb.1), .slice p9 sb.2.length c9] 81)).setCell ⟨g, ro b, none⟩ (.int .i64 (ro a : Nat))) = W4 at *
          refine region_J 7 (N := 6) (S := (fun W' : World => W'.cell? ⟨B, 2, none⟩ = some (.map (some fB)) ∧ W'.cell? ⟨w2.heap.size + 1, 0, none⟩ = some (.string (S sb.1)) ∧ W'.cell? ⟨w2.heap.size + 1, 1, none⟩ = some (.slice p9 sb.2.length c9))) (by kernel_rfl) (by kernel_rfl) ?_
          have hS : (fun W' : World => W'.cell? ⟨B, 2, none⟩ = some (.map (some fB)) ∧ W'.cell? ⟨w2.heap.size + 1, 0, none⟩ = some (.string (S sb.1)) ∧ W'.cell? ⟨w2.heap.size + 1, 1, none⟩ = some (.slice p9 sb.2.length c9)) W4.drew := ⟨m2, q0, q1⟩
          refine take_D (i := 0) 50 (.pointer (some ⟨B, 0, none⟩)) rfl rfl (by kernel_rfl) (by kernel_rfl) (by kernel_rfl) (by kernel_rfl) (fun _ _ _ h => h) (Or.inl ⟨by rfl, fun W' hW => by obtain ⟨s0, s1, s2⟩ := hW; go_simp⟩) hS ?_
          simp only [Act.put, List.setIfInBounds_toArray, List.set_cons_zero, List.set_cons_succ]
          refine take_D (i := 1) 51 (.pointer (some ⟨B, 0, none⟩)) rfl rfl (by kernel_rfl) (by kernel_rfl) (by kernel_rfl) (by kernel_rfl) (fun _ _ _ h => h) (Or.inl ⟨by rfl, fun W' hW => by obtain ⟨s0, s1, s2⟩ := hW; go_simp⟩) hS ?_
          simp only [Act.put, List.setIfInBounds_toArray, List.set_cons_zero, List.set_cons_succ]
          refine take_D (i := 2) 52 (.pointer (some ⟨B, 2, none⟩)) rfl rfl (by kernel_rfl) (by kernel_rfl) (by kernel_rfl) (by kernel_rfl) (fun _ _ _ h => h) (Or.inl ⟨by rfl, fun W' hW => by obtain ⟨s0, s1, s2⟩ := hW; go_simp⟩) hS ?_
          simp only [Act.put, List.setIfInBounds_toArray, List.set_cons_zero, List.set_cons_succ]
          refine take_D (i := 3) 53 (.map (some fB)) rfl rfl (by kernel_rfl) (by kernel_rfl) (by kernel_rfl) (by kernel_rfl) (fun _ _ _ h => h) (Or.inl ⟨by rfl, fun W' hW => by obtain ⟨s0, s1, s2⟩ := hW; go_simp⟩) hS ?_
          simp only [Act.put, List.setIfInBounds_toArray, List.set_cons_zero, List.set_cons_succ]
          refine take_D (i := 4) 54 (.int .i64 (ro a : Nat)) rfl rfl (by kernel_rfl) (by kernel_rfl) (by kernel_rfl) (by kernel_rfl) (fun _ _ _ h => h) (Or.inl ⟨by rfl, fun W' hW => by obtain ⟨s0, s1, s2⟩ := hW; go_simp⟩) hS ?_
          simp only [Act.put, List.setIfInBounds_toArray, List.set_cons_zero, List.set_cons_succ]
          refine take_D (i := 5) 55 (.agg #[.string (S sb.1), .slice p9 sb.2.length c9]) rfl rfl (by kernel_rfl) (by kernel_rfl) (by kernel_rfl) (by kernel_rfl) (fun _ _ _ h => h) (Or.inl ⟨by rfl, fun W' hW => by obtain ⟨s0, s1, s2⟩ := hW; go_simp⟩) hS ?_
          simp only [Act.put, List.setIfInBounds_toArray, List.set_cons_zero, List.set_cons_succ]
          refine ready_J (rs := [6]) (by kernel_rfl) (by simp) ?_
          intro jj hjj
          obtain rfl := List.mem_singleton.1 hjj
          clear hjj
          refine op_J rfl rfl fun K hK => ?_
          obtain ⟨fv, f1, f2, f3⟩ := HM4.out.fac
          refine wpO_store _ _ _ _ 62 rfl 3 81 Tryd.underlying62 Tryd.underlying3 fB fv rfl (show MapI W4.drew fB fv from f1) (ro a : Nat) (.agg #[.string (S sb.1), .slice p9 sb.2.length c9]) rfl rfl fun V6 hm6 hst6 => ?_
          refine hK _ _ ⟨fun h => absurd h (by omega), ?_⟩
          clear hK K
          refine done_J (by kernel_rfl) ?_ _
          have hshv : ShV W4.drew D (.slice (some ⟨g, 0, none⟩) n c) sb (.agg #[.string (S sb.1), .slice p9 sb.2.length c9]) := ⟨p9, c9, rfl, HRB.out, HNB9.out⟩
          have H6 := WM.fact (HM4.out.below (below_drew W4)) ⟨fun j s hs => by
            obtain ⟨x, e1, e2⟩ := f2 j s hs
            exact ⟨x, e1, e2.keep fun g _ _ _ => rfl⟩, f3⟩ f1 hst6 hm6 hshv
          have HM6 := hide H6.1
          have HK6 : Hid (KP (Wk B hB fB lB (.slice (some ⟨g, 0, none⟩) n c) w) w V6) := hide ((HK4.out.drew).trans (H6.2.mono fun b hb => (hb.step HK4.out.size (VB.refl _ _)).step (Nat.le_refl _) (VB.refl _ _)))
          clear H6 hm6 hst6 hS hshv f1 f2 f3
          go_wp2_with fail
          go_ret
          exact ⟨true, rfl, HK6.out, fun h => (by cases h), fun _ => ⟨_, _, _, _, HM6.out, HFO4.out, by rw [← mergeF_upd hna hsb]; exact HTL.out, HL4.out, by have := HR4.out; omega⟩⟩
      · have htl := tie_leaf HWS.out HMU.out heq (.inr hnb)
        rw [mergeF_none hnb] at htl
        have HTL := hide htl
        clear htl h7
        go_wp2_with fail
        go_ret
        exact ⟨true, rfl, HK4.out, fun h => (by cases h), fun _ => ⟨_, fc, _, _, HM4.out, HFO4.out, HTL.out, HL4.out, by have := HR4.out; omega⟩⟩
end Go.Proofs.YteoflpalmckikaaDoor
