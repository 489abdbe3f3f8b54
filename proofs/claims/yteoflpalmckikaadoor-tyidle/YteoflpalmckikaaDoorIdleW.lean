/-
  THE WALK OF TyIdle.
-/
import Derived.Test.YteoflpalmckikaaDoorAwakeP
import Derived.Test.YteoflpalmckikaaDoorFactsP
namespace Go.Proofs.YteoflpalmckikaaDoor
open Go.RowKit
set_option linter.unusedVariables false
set_option linter.unusedSimpArgs false
theorem in_any {l : List Int} {n : Int} {v : Value} {base : Nat} {w : World} (h : IL base v l w) : Calls Tryd.prog 27 #[v, .int .i64 n] w fun r w' => r = .returned (.bool (decide (n ∈ l))) ∧ w' = w := by
  obtain ⟨p, c, rfl, hg⟩ := h.slice
  have hlm : l.length ≤ 9223372036854775807 := by
    rcases h.2 with ⟨_, h2⟩ | ⟨g, cap, cur, hv, _, _, r1, r2, _⟩
    · omega
    · unfold maxLen at r2; omega
  generalize hnk : l.length = nk at *
  generalize hbb : decide (n ∈ l) = bb
  have HNK := hide hnk; have HIL := hide h; have HG := hide hg; have HBB := hide hbb
  clear hnk h hg hbb
  go_enter Tryd.func27, Tryd.ntmps27
  go_wp2_with fail
  go_loopg [5] nk (fun k s5 wr => ∃ i : Nat, i ≤ nk ∧ k = nk - i ∧ s5 = .int .i64 i ∧ n ∉ l.take i ∧ wr = w)
  case atStart => exact ⟨0, Nat.zero_le _, by omega, rfl, by simp, rfl⟩
  case round =>
    obtain ⟨i, hi1, rfl, rfl, hno, rfl⟩ := hrel
    have HNO := hide hno
    clear hno
    by_cases hlt : i < nk
    · have hil : i < l.length := by rw [HNK.out]; exact hlt
      obtain ⟨g, rfl, hgb, hgl⟩ := HG.out (by omega)
      have hu := List.getElem?_eq_getElem hil
      have htk : l.take (i + 1) = l.take i ++ [l[i]] := List.take_succ_eq_append_getElem hil
      have hmem := List.getElem_mem hil
      generalize l[i] = x at *
      have ca : wr.cell? ⟨g, i, none⟩ = some (.int .i64 x) := row_cell (by have h := HIL.out; unfold IL at h; rw [HNK.out] at h; exact h) (intV_at hu)
      have hii : (i : Int) < nk := by omega
      have HTK := hide htk; have HME := hide hmem
      clear hu htk hmem
      by_cases hx : x = n
      · have hxb : (x == n) = true := by simp [hx]
        have hd : bb = true := by rw [← HBB.out, ← hx]; exact decide_eq_true HME.out
        subst hd
        have HX := hide hx
        clear hx
        go_wp2_with fail
        go_ret
        exact ⟨rfl, rfl⟩
      · have hxb : (x == n) = false := by simp [hx]
        have hn2 : n ∉ l.take (i + 1) := by
          rw [HTK.out]
          intro h
          rcases List.mem_append.1 h with h | h
          · exact HNO.out h
          · exact hx (List.mem_singleton.1 h).symm
        have HN2 := hide hn2
        have HX := hide hx
        clear hx hn2
        go_wp2_with fail
        go_roundg (nk - (i + 1))
        case measure => omega
        case rel => exact ⟨i + 1, by omega, rfl, by go_num, HN2.out, rfl⟩
    · have hii : ¬ (i : Int) < nk := by omega
      have hd : bb = false := by
        have h1 : l.take i = l := List.take_of_length_le (by rw [HNK.out]; omega)
        have h2 := HNO.out
        rw [h1] at h2
        rw [← HBB.out]
        exact decide_eq_false h2
      subst hd
      go_wp2_with fail
      go_ret
      exact ⟨rfl, rfl⟩
theorem rm_one {P : Nat → Prop} {W : World} {b : Nat} {n : Int} {t : Ty} {p : Option Addr} {c : Nat} (hb : Hold b #[.int .i64 n, .string (S t.nm), .int .i64 t.n, .slice p t.ar.length c] 34 W) (hP : P b) (h0 : -9223372036854775808 ≤ n ∧ n ≤ 9223372036854775807) (hT : TyIn P W t [.string (S t.nm), .int .i64 t.n, .slice p t.ar.length c]) : RM 4 P W (FaIn P W) (some ⟨b, 0, none⟩) [(n, t)] :=
  .inr ⟨b, 0, rfl, hP, fun i f hf => by
    cases i with
    | zero =>
      cases hf
      refine ⟨[.int .i64 n, .string (S t.nm), .int .i64 t.n, .slice p t.ar.length c], rfl, fun j d hd => ?_, _, rfl, h0, hT⟩
      rw [show (0 + 0 * 4 + j) = j by omega, hb.cell]
      simpa using hd
    | succ i => simp at hf⟩
theorem idle_self {t : Ty} (n : Int) (ht : chk t = true) (hn : 0 ≤ n) : applyM [(n, hole n)] t = t := by
  rw [applyM_ok ht (fun f hf => by obtain rfl := List.mem_singleton.1 hf; exact ⟨hn, chk_hole hn⟩)]
  have : look [(n, hole n)] = hole := by
    funext m
    unfold look
    by_cases h : n = m
    · subst h; simp
    · simp [h]
  rw [this, sub_id t ((chk_iff t).1 ht).1]
theorem idle_not {t b : Ty} {n : Int} (ht : chk t = true) (hb : chk b = true) (hn : 0 ≤ n) (h : n ∉ hs t) : applyM [(n, b)] t = t := by
  rw [applyM_ok ht (fun f hf => by obtain rfl := List.mem_singleton.1 hf; exact ⟨hn, hb⟩)]
  have : sub (look [(n, b)]) t = sub hole t := sub_congr t fun m hm => look_none fun f hf e => by
    obtain rfl := List.mem_singleton.1 hf
    exact h ((hs_mem t n).2 (by rw [show n = m from e]; exact hm))
  rw [this, sub_id t ((chk_iff t).1 ht).1]
theorem idle_gone {t b : Ty} {n : Int} (ht : chk t = true) (hb : chk b = true) (hn : 0 ≤ n) (h : n ∉ hs b) : n ∉ hs (applyM [(n, b)] t) := by
  rw [applyM_ok ht (fun f hf => by obtain rfl := List.mem_singleton.1 hf; exact ⟨hn, hb⟩)]
  intro hm
  rw [hs_mem, hls_sub] at hm
  obtain ⟨m, _, h2⟩ := List.mem_flatMap.1 hm
  by_cases hnm : n = m
  · subst hnm
    have : look [(n, b)] n = b := by unfold look; simp
    rw [this] at h2
    exact h ((hs_mem b n).2 h2)
  · rw [look_none (fun f hf e => by obtain rfl := List.mem_singleton.1 hf; exact hnm e), hls_hole] at h2
    exact hnm (List.mem_singleton.1 h2)
set_option maxHeartbeats 16000000 in
set_option maxRecDepth 100000 in
theorem idle_walk (t : Ty) (n : Int) (by_ : Ty) {w : World} {pt pb : Option Addr} {ct cb : Nat} (hn0 : 0 ≤ n) (hn1 : n ≤ 65535) (hG : GT w) (hT : TyIn (fun x => x < w.heap.size) w t [.string (S t.nm), .int .i64 t.n, .slice pt t.ar.length ct]) (hB : TyIn (fun x => x < w.heap.size) w by_ [.string (S by_.nm), .int .i64 by_.n, .slice pb by_.ar.length cb]) :
    Calls Tryd.prog 10 #[.agg (cs3 t pt ct), .int .u16 n, .agg (cs3 by_ pb cb)] w fun r w' => r = .returned (.bool true) ∧ Below w.heap.size w w' := by
  have HTT : Hid (∀ W, Below w.heap.size w W → TyIn (fun x => x < w.heap.size) W t [.string (S t.nm), .int .i64 t.n, .slice pt t.ar.length ct]) := hide fun W hb => TyIn.keep (KP.of_below hb fun x hx => hx) (fun x hx => hx) _ _ hT
  have HTB : Hid (∀ W, Below w.heap.size w W → TyIn (fun x => x < w.heap.size) W by_ [.string (S by_.nm), .int .i64 by_.n, .slice pb by_.ar.length cb]) := hide fun W hb => TyIn.keep (KP.of_below hb fun x hx => hx) (fun x hx => hx) _ _ hB
  have hX : Hold w.heap.size #[.string (S t.nm), .int .i64 t.n, .slice pt t.ar.length ct] 24 ((w.alloc (.cells #[.string (S t.nm), .int .i64 t.n, .slice pt t.ar.length ct] 24)).alloc (.cells #[.string (S by_.nm), .int .i64 by_.n, .slice pb by_.ar.length cb] 24)) := (Hold.new w _ 24).alloc _
  have hY : Hold (w.heap.size + 1) #[.string (S by_.nm), .int .i64 by_.n, .slice pb by_.ar.length cb] 24 ((w.alloc (.cells #[.string (S t.nm), .int .i64 t.n, .slice pt t.ar.length ct] 24)).alloc (.cells #[.string (S by_.nm), .int .i64 by_.n, .slice pb by_.ar.length cb] 24)) := by have := Hold.new (w.alloc (.cells #[.string (S t.nm), .int .i64 t.n, .slice pt t.ar.length ct] 24)) #[.string (S by_.nm), .int .i64 by_.n, .slice pb by_.ar.length cb] 24; simpa using this
  have hb0 : Below w.heap.size w ((w.alloc (.cells #[.string (S t.nm), .int .i64 t.n, .slice pt t.ar.length ct] 24)).alloc (.cells #[.string (S by_.nm), .int .i64 by_.n, .slice pb by_.ar.length cb] 24)) := ((Below.refl _ w).alloc (Nat.le_refl _) _).alloc (by simp) _
  have HG0 := hide (hG.below hb0)
  have HX0 := hide hX; have HY0 := hide hY; have HB0 := hide hb0
  clear hX hY hb0 hG hT hB
  unfold cs3
  go_enter Tryd.func10, Tryd.ntmps10
  go_upto_region 1 with fail
  generalize ((w.alloc (.cells #[.string (S t.nm), .int .i64 t.n, .slice pt t.ar.length ct] 24)).alloc (.cells #[.string (S by_.nm), .int .i64 by_.n, .slice pb by_.ar.length cb] 24)) = w0 at *
  have x0 := HX0.out.cell 0; have x1 := HX0.out.cell 1; have x2 := HX0.out.cell 2
  have y0 := HY0.out.cell 0; have y1 := HY0.out.cell 1; have y2 := HY0.out.cell 2
  simp only [List.getElem?_toArray, List.getElem?_cons_succ, List.getElem?_cons_zero] at x0 x1 x2 y0 y1 y2
  go_wp2_with fail
  refine (awake_any HG0.out).mono ?_
  rintro r w1 ⟨rfl, hb⟩
  have hbs := hb
  have HX1 := hide (HX0.out.below hbs HX0.out.lt)
  have HY1 := hide (HY0.out.below hbs HY0.out.lt)
  have HB1 := hide (HB0.out.trans (hbs.mono HB0.out.size))
  have hs1 := HB1.out.size
  clear hbs
  clear x0 x1 x2 y0 y1 y2
  have x0 := HX1.out.cell 0; have x1 := HX1.out.cell 1; have x2 := HX1.out.cell 2
  have y0 := HY1.out.cell 0; have y1 := HY1.out.cell 1; have y2 := HY1.out.cell 2
  simp only [List.getElem?_toArray, List.getElem?_cons_succ, List.getElem?_cons_zero] at x0 x1 x2 y0 y1 y2
  clear hb
  have hfw := few_any t (P := fun x => x < w.heap.size) (w := w1) (pk := pt) (ck := ct) (fun x hx => Nat.lt_of_lt_of_le hx HB1.out.size) (HTT.out w1 HB1.out)
  have HFW := hide hfw
  clear hfw
  cases hfewt : fewM t with
  | false =>
    rw [hfewt] at HFW
    unfold cs3 at HFW
    go_wp2_with fail
    refine HFW.out.mono ?_
    rintro r w2 ⟨rfl, hb⟩
    go_wp2_with fail
    go_ret
    exact ⟨rfl, HB1.out.trans (hb.mono HB1.out.size)⟩
  | true =>
    rw [hfewt] at HFW
    unfold cs3 at HFW
    go_wp2_with fail
    refine HFW.out.mono ?_
    rintro r w2 ⟨rfl, hb⟩
    have hbs := hb
    have HX2 := hide (HX1.out.below hbs HX1.out.lt)
    have HY2 := hide (HY1.out.below hbs HY1.out.lt)
    have HB2 := hide (HB1.out.trans (hbs.mono HB1.out.size))
    have hs2 := HB2.out.size
    clear hbs
    clear x0 x1 x2 y0 y1 y2
    have x0 := HX2.out.cell 0; have x1 := HX2.out.cell 1; have x2 := HX2.out.cell 2
    have y0 := HY2.out.cell 0; have y1 := HY2.out.cell 1; have y2 := HY2.out.cell 2
    simp only [List.getElem?_toArray, List.getElem?_cons_succ, List.getElem?_cons_zero] at x0 x1 x2 y0 y1 y2
    clear hb HFW
    have hfw := few_any by_ (P := fun x => x < w.heap.size) (w := w2) (pk := pb) (ck := cb) (fun x hx => Nat.lt_of_lt_of_le hx HB2.out.size) (HTB.out w2 HB2.out)
    have HFW := hide hfw
    clear hfw
    cases hfewby_ : fewM by_ with
    | false =>
      rw [hfewby_] at HFW
      unfold cs3 at HFW
      go_wp2_with fail
      refine HFW.out.mono ?_
      rintro r w3 ⟨rfl, hb⟩
      go_wp2_with fail
      go_ret
      exact ⟨rfl, HB2.out.trans (hb.mono HB2.out.size)⟩
    | true =>
      rw [hfewby_] at HFW
      unfold cs3 at HFW
      go_wp2_with fail
      refine HFW.out.mono ?_
      rintro r w3 ⟨rfl, hb⟩
      have hbs := hb
      have HX3 := hide (HX2.out.below hbs HX2.out.lt)
      have HY3 := hide (HY2.out.below hbs HY2.out.lt)
      have HB3 := hide (HB2.out.trans (hbs.mono HB2.out.size))
      have hs3 := HB3.out.size
      clear hbs
      clear x0 x1 x2 y0 y1 y2
      have x0 := HX3.out.cell 0; have x1 := HX3.out.cell 1; have x2 := HX3.out.cell 2
      have y0 := HY3.out.cell 0; have y1 := HY3.out.cell 1; have y2 := HY3.out.cell 2
      simp only [List.getElem?_toArray, List.getElem?_cons_succ, List.getElem?_cons_zero] at x0 x1 x2 y0 y1 y2
      clear hb HFW
      have hfw := check_any t (P := fun x => x < w.heap.size) (w := w3) (pk := pt) (ck := ct) (fun x hx => Nat.lt_of_lt_of_le hx HB3.out.size) (HTT.out w3 HB3.out)
      have HFW := hide hfw
      clear hfw
      cases hchkt : chk t with
      | false =>
        rw [hchkt] at HFW
        unfold cs3 at HFW
        go_wp2_with fail
        refine HFW.out.mono ?_
        rintro r w4 ⟨rfl, hb⟩
        go_wp2_with fail
        go_ret
        exact ⟨rfl, HB3.out.trans (hb.mono HB3.out.size)⟩
      | true =>
        rw [hchkt] at HFW
        unfold cs3 at HFW
        go_wp2_with fail
        refine HFW.out.mono ?_
        rintro r w4 ⟨rfl, hb⟩
        have hbs := hb
        have HX4 := hide (HX3.out.below hbs HX3.out.lt)
        have HY4 := hide (HY3.out.below hbs HY3.out.lt)
        have HB4 := hide (HB3.out.trans (hbs.mono HB3.out.size))
        have hs4 := HB4.out.size
        clear hbs
        clear x0 x1 x2 y0 y1 y2
        have x0 := HX4.out.cell 0; have x1 := HX4.out.cell 1; have x2 := HX4.out.cell 2
        have y0 := HY4.out.cell 0; have y1 := HY4.out.cell 1; have y2 := HY4.out.cell 2
        simp only [List.getElem?_toArray, List.getElem?_cons_succ, List.getElem?_cons_zero] at x0 x1 x2 y0 y1 y2
        clear hb HFW
        have hfw := check_any by_ (P := fun x => x < w.heap.size) (w := w4) (pk := pb) (ck := cb) (fun x hx => Nat.lt_of_lt_of_le hx HB4.out.size) (HTB.out w4 HB4.out)
        have HFW := hide hfw
        clear hfw
        cases hchkby_ : chk by_ with
        | false =>
          rw [hchkby_] at HFW
          unfold cs3 at HFW
          go_wp2_with fail
          refine HFW.out.mono ?_
          rintro r w5 ⟨rfl, hb⟩
          go_wp2_with fail
          go_ret
          exact ⟨rfl, HB4.out.trans (hb.mono HB4.out.size)⟩
        | true =>
          rw [hchkby_] at HFW
          unfold cs3 at HFW
          go_wp2_with fail
          refine HFW.out.mono ?_
          rintro r w5 ⟨rfl, hb⟩
          have hbs := hb
          have HX5 := hide (HX4.out.below hbs HX4.out.lt)
          have HY5 := hide (HY4.out.below hbs HY4.out.lt)
          have HB5 := hide (HB4.out.trans (hbs.mono HB4.out.size))
          have hs5 := HB5.out.size
          clear hbs
          clear x0 x1 x2 y0 y1 y2
          have x0 := HX5.out.cell 0; have x1 := HX5.out.cell 1; have x2 := HX5.out.cell 2
          have y0 := HY5.out.cell 0; have y1 := HY5.out.cell 1; have y2 := HY5.out.cell 2
          simp only [List.getElem?_toArray, List.getElem?_cons_succ, List.getElem?_cons_zero] at x0 x1 x2 y0 y1 y2
          clear hb HFW
          have hho := tyHoles_any t (P := fun x => x < w.heap.size) (w := w5) (pk := pt) (ck := ct) (fun x hx => Nat.lt_of_lt_of_le hx HB5.out.size) (HTT.out w5 HB5.out)
          rw [hchkt, if_pos rfl] at hho
          have HHO := hide hho
          clear hho
          unfold cs3 at HHO
          go_wp2_with fail
          refine HHO.out.mono ?_
          rintro r w6 ⟨vh, rfl, hil, hb⟩
          have hbs := hb
          have HX6 := hide (HX5.out.below hbs HX5.out.lt)
          have HY6 := hide (HY5.out.below hbs HY5.out.lt)
          have HB6 := hide (HB5.out.trans (hbs.mono HB5.out.size))
          have hs6 := HB6.out.size
          clear hbs
          clear x0 x1 x2 y0 y1 y2
          have x0 := HX6.out.cell 0; have x1 := HX6.out.cell 1; have x2 := HX6.out.cell 2
          have y0 := HY6.out.cell 0; have y1 := HY6.out.cell 1; have y2 := HY6.out.cell 2
          simp only [List.getElem?_toArray, List.getElem?_cons_succ, List.getElem?_cons_zero] at x0 x1 x2 y0 y1 y2
          have HIA := hide (in_any (n := n) hil)
          clear hb HHO hil
          go_wp2_with fail
          refine HIA.out.mono ?_
          rintro r w7 ⟨rfl, rfl⟩
          generalize hhas : decide (n ∈ hs t) = has
          have HHAS := hide hhas
          clear hhas HIA
          have HX7 := HX6; have HY7 := HY6; have HB7 := HB6
          have hF6 := Hold.new w7 #[.int .i64 n, .string (S by_.nm), .int .i64 by_.n, .slice pb by_.ar.length cb] 34
          have hb7 : Below w7.heap.size w7 (w7.alloc (.cells #[.int .i64 n, .string (S by_.nm), .int .i64 by_.n, .slice pb by_.ar.length cb] 34)) := (Below.refl _ w7).alloc (Nat.le_refl _) _
          have hbw := HB7.out.trans (hb7.mono HB7.out.size)
          have hap : Calls Tryd.prog 22 #[.slice (some ⟨w7.heap.size, 0, none⟩) 1 1, .agg #[.string (S t.nm), .int .i64 t.n, .slice pt t.ar.length ct]] (w7.alloc (.cells #[.int .i64 n, .string (S by_.nm), .int .i64 by_.n, .slice pb by_.ar.length cb] 34)) (TQ (applyM [(n, by_)] t) (w7.alloc (.cells #[.int .i64 n, .string (S by_.nm), .int .i64 by_.n, .slice pb by_.ar.length cb] 34))) := apply_any [(n, by_)] t (P := fun x => x < (w7.alloc (.cells #[.int .i64 n, .string (S by_.nm), .int .i64 by_.n, .slice pb by_.ar.length cb] 34)).heap.size) (fun x hx => hx) (TyIn.keep (KP.refl _ _) (fun x hx => Nat.lt_of_lt_of_le hx hbw.size) _ _ (HTT.out _ hbw)) (rm_one hF6 hF6.lt ⟨by omega, by omega⟩ (TyIn.keep (KP.refl _ _) (fun x hx => Nat.lt_of_lt_of_le hx hbw.size) _ _ (HTB.out _ hbw))) (by simp)
          generalize hxt : applyM [(n, by_)] t = xt at hap
          have HXT := hide hxt; have HAP := hide hap; have HBW := hide hb7
          have hq7 := HY7.out.lt
          have hq7x := HX7.out.lt
          clear hxt hap hb7 hF6 hbw
          go_wp2_with fail
          refine HAP.out.mono ?_
          rintro r w8 ⟨px, cx, rfl, hb, hinx⟩
          have hbs := (HBW.out.trans (hb.mono HBW.out.size))
          have HX8 := hide (HX7.out.below hbs HX7.out.lt)
          have HY8 := hide (HY7.out.below hbs HY7.out.lt)
          have HB8 := hide (HB7.out.trans (hbs.mono HB7.out.size))
          have hs8 := HB8.out.size
          clear hbs
          clear x0 x1 x2 y0 y1 y2
          have HINX : Hid (TyIn (fun x => x < w8.heap.size) w8 xt [.string (S xt.nm), .int .i64 xt.n, .slice px xt.ar.length cx]) := hide (TyIn.keep (KP.refl _ _) (fun x hx => hx.2) _ _ hinx)
          have hq8 := HY8.out.lt
          clear hb hinx HAP HBW hq7 hq7x
          unfold cs3
          go_upto_region 7 with fail
          have hU := Hold.new w8 #[.string (S xt.nm), .int .i64 xt.n, .slice px xt.ar.length cx] 24
          have hb8 : Below w8.heap.size w8 (w8.alloc (.cells #[.string (S xt.nm), .int .i64 xt.n, .slice px xt.ar.length cx] 24)) := (Below.refl _ w8).alloc (Nat.le_refl _) _
          generalize w8.alloc (.cells #[.string (S xt.nm), .int .i64 xt.n, .slice px xt.ar.length cx] 24) = w9 at *
          have HTX : Hid (∀ W, Below w9.heap.size w9 W → TyIn (fun x => x < w9.heap.size) W xt [.string (S xt.nm), .int .i64 xt.n, .slice px xt.ar.length cx]) := hide fun W hb => TyIn.keep ((KP.of_below hb8 fun x hx => hx).trans (KP.of_below hb fun x hx => Nat.lt_of_lt_of_le hx hb8.size)) (fun x hx => Nat.lt_of_lt_of_le hx hb8.size) _ _ HINX.out
          have hbs := hb8
          have HX9 := hide (HX8.out.below hbs HX8.out.lt)
          have HY9 := hide (HY8.out.below hbs HY8.out.lt)
          have HB9 := hide (HB8.out.trans (hbs.mono HB8.out.size))
          have hs9 := HB9.out.size
          clear hbs
          have HU9 := hide hU
          generalize hn8 : w8.heap.size = n8 at *
          have x0 := HX9.out.cell 0; have x1 := HX9.out.cell 1; have x2 := HX9.out.cell 2
          have y0 := HY9.out.cell 0; have y1 := HY9.out.cell 1; have y2 := HY9.out.cell 2
          have u0 := HU9.out.cell 0; have u1 := HU9.out.cell 1; have u2 := HU9.out.cell 2
          simp only [List.getElem?_toArray, List.getElem?_cons_succ, List.getElem?_cons_zero] at x0 x1 x2 y0 y1 y2 u0 u1 u2
          clear hU hb8 hn8 hq8 HINX
          have hq9 := HY9.out.lt
          have hq9x := HX9.out.lt
          have hq9u := HU9.out.lt
          have hF7 := Hold.new w9 #[.int .i64 n, .string ⟨#[]⟩, .int .i64 n, .slice none 0 0] 34
          have hb7 : Below w9.heap.size w9 (w9.alloc (.cells #[.int .i64 n, .string ⟨#[]⟩, .int .i64 n, .slice none 0 0] 34)) := (Below.refl _ w9).alloc (Nat.le_refl _) _
          have hbw := HB9.out.trans (hb7.mono HB9.out.size)
          have hap : Calls Tryd.prog 22 #[.slice (some ⟨w9.heap.size, 0, none⟩) 1 1, .agg #[.string (S t.nm), .int .i64 t.n, .slice pt t.ar.length ct]] (w9.alloc (.cells #[.int .i64 n, .string ⟨#[]⟩, .int .i64 n, .slice none 0 0] 34)) (TQ (applyM [(n, hole n)] t) (w9.alloc (.cells #[.int .i64 n, .string ⟨#[]⟩, .int .i64 n, .slice none 0 0] 34))) := apply_any [(n, hole n)] t (P := fun x => x < (w9.alloc (.cells #[.int .i64 n, .string ⟨#[]⟩, .int .i64 n, .slice none 0 0] 34)).heap.size) (fun x hx => hx) (TyIn.keep (KP.refl _ _) (fun x hx => Nat.lt_of_lt_of_le hx hbw.size) _ _ (HTT.out _ hbw)) (rm_one (t := hole n) hF7 hF7.lt ⟨by omega, by omega⟩ (hole_in _ _ n ⟨by omega, by omega⟩)) (by simp)
          rw [idle_self n hchkt hn0] at hap
          have HAP := hide hap; have HBW := hide hb7
          clear hap hb7 hF7 hbw
          go_wp2_with fail
          refine HAP.out.mono ?_
          rintro r w10 ⟨py, cy, rfl, hb, hiny⟩
          have hbs := (HBW.out.trans (hb.mono HBW.out.size))
          have HX10 := hide (HX9.out.below hbs HX9.out.lt)
          have HY10 := hide (HY9.out.below hbs HY9.out.lt)
          have HU10 := hide (HU9.out.below hbs HU9.out.lt)
          have HB10 := hide (HB9.out.trans (hbs.mono HB9.out.size))
          have hs10 := HB10.out.size
          clear hbs
          clear x0 x1 x2 y0 y1 y2 u0 u1 u2
          have HB910 : Hid (Below w9.heap.size w9 w10) := hide (HBW.out.trans (hb.mono HBW.out.size))
          have HINY : Hid (TyIn (fun x => x < w10.heap.size) w10 t [.string (S t.nm), .int .i64 t.n, .slice py t.ar.length cy]) := hide (TyIn.keep (KP.refl _ _) (fun x hx => hx.2) _ _ hiny)
          have hq10 := HU10.out.lt
          clear hb hiny HAP HBW hq9 hq9u hq9x
          unfold cs3
          go_upto_region 8 with fail
          have hV := Hold.new w10 #[.string (S t.nm), .int .i64 t.n, .slice py t.ar.length cy] 24
          have hb8 : Below w10.heap.size w10 (w10.alloc (.cells #[.string (S t.nm), .int .i64 t.n, .slice py t.ar.length cy] 24)) := (Below.refl _ w10).alloc (Nat.le_refl _) _
          generalize w10.alloc (.cells #[.string (S t.nm), .int .i64 t.n, .slice py t.ar.length cy] 24) = w11 at *
          have HTY : Hid (∀ W, Below w11.heap.size w11 W → TyIn (fun x => x < w11.heap.size) W t [.string (S t.nm), .int .i64 t.n, .slice py t.ar.length cy]) := hide fun W hb => TyIn.keep ((KP.of_below hb8 fun x hx => hx).trans (KP.of_below hb fun x hx => Nat.lt_of_lt_of_le hx hb8.size)) (fun x hx => Nat.lt_of_lt_of_le hx hb8.size) _ _ HINY.out
          have hbs := hb8
          have HX11 := hide (HX10.out.below hbs HX10.out.lt)
          have HY11 := hide (HY10.out.below hbs HY10.out.lt)
          have HU11 := hide (HU10.out.below hbs HU10.out.lt)
          have HB11 := hide (HB10.out.trans (hbs.mono HB10.out.size))
          have hs11 := HB11.out.size
          clear hbs
          have HV11 := hide hV
          have HB911 : Hid (Below w9.heap.size w9 w11) := hide (HB910.out.trans (hb8.mono HB910.out.size))
          generalize hn10 : w10.heap.size = n10 at *
          clear hV hb8 hn10 hq10 HINY HB910
          have H9B11 := HB911
          have H11B11 : Hid (Below w11.heap.size w11 w11) := hide (Below.refl _ _)
          have x0 := HX11.out.cell 0; have x1 := HX11.out.cell 1; have x2 := HX11.out.cell 2
          have y0 := HY11.out.cell 0; have y1 := HY11.out.cell 1; have y2 := HY11.out.cell 2
          have u0 := HU11.out.cell 0; have u1 := HU11.out.cell 1; have u2 := HU11.out.cell 2
          have v0 := HV11.out.cell 0; have v1 := HV11.out.cell 1; have v2 := HV11.out.cell 2
          simp only [List.getElem?_toArray, List.getElem?_cons_succ, List.getElem?_cons_zero] at x0 x1 x2 y0 y1 y2 u0 u1 u2 v0 v1 v2
          have hho := tyHoles_any by_ (P := fun x => x < w.heap.size) (w := w11) (pk := pb) (ck := cb) (fun x hx => Nat.lt_of_lt_of_le hx HB11.out.size) (HTB.out w11 HB11.out)
          rw [hchkby_, if_pos rfl] at hho
          have HHO := hide hho
          clear hho
          unfold cs3 at HHO
          go_wp2_with fail
          refine HHO.out.mono ?_
          rintro r w12 ⟨vb, rfl, hil, hb⟩
          have hbs := hb
          have HX12 := hide (HX11.out.below hbs HX11.out.lt)
          have HY12 := hide (HY11.out.below hbs HY11.out.lt)
          have HU12 := hide (HU11.out.below hbs HU11.out.lt)
          have HV12 := hide (HV11.out.below hbs HV11.out.lt)
          have HB12 := hide (HB11.out.trans (hbs.mono HB11.out.size))
          have hs12 := HB12.out.size
          clear hbs
          have H9B12 := hide (H9B11.out.trans (hb.mono H9B11.out.size))
          have H11B12 := hide (H11B11.out.trans (hb.mono H11B11.out.size))
          clear x0 x1 x2 y0 y1 y2 u0 u1 u2 v0 v1 v2
          have x0 := HX12.out.cell 0; have x1 := HX12.out.cell 1; have x2 := HX12.out.cell 2
          have y0 := HY12.out.cell 0; have y1 := HY12.out.cell 1; have y2 := HY12.out.cell 2
          have u0 := HU12.out.cell 0; have u1 := HU12.out.cell 1; have u2 := HU12.out.cell 2
          have v0 := HV12.out.cell 0; have v1 := HV12.out.cell 1; have v2 := HV12.out.cell 2
          simp only [List.getElem?_toArray, List.getElem?_cons_succ, List.getElem?_cons_zero] at x0 x1 x2 y0 y1 y2 u0 u1 u2 v0 v1 v2
          have HIA := hide (in_any (n := n) hil)
          clear hb HHO hil
          generalize hinb : decide (n ∈ hs by_) = inb at HIA
          go_wp2_with fail
          refine HIA.out.mono ?_
          rintro r w12z ⟨rfl, rfl⟩
          have HINB := hide hinb
          clear hinb HIA
          cases inb with
          | true =>
            cases has with
            | true =>
              have hs2 := same_ty t t (P := fun x => x < w12z.heap.size) (w := w12z) (pk := py) (qk := pt) (ck := cy) (dk := ct) (fun x hx => hx) (TyIn.keep (KP.refl _ _) (fun x hx => Nat.lt_of_lt_of_le hx H11B12.out.size) _ _ (HTY.out w12z H11B12.out)) (TyIn.keep (KP.refl _ _) (fun x hx => Nat.lt_of_lt_of_le hx HB12.out.size) _ _ (HTT.out w12z HB12.out))
              have HS2 := hide hs2
              clear hs2
              unfold cs3 at HS2
              go_wp2_with fail
              refine HS2.out.mono ?_
              rintro r w13 ⟨hyes, _, hb⟩
              obtain rfl := hyes (by trivial)
              go_wp2_with fail
              go_ret
              exact ⟨rfl, HB12.out.trans (hb.mono HB12.out.size)⟩
            | false =>
              have hxe : xt = t := by
                rw [← HXT.out]
                exact idle_not hchkt hchkby_ hn0 (of_decide_eq_false HHAS.out)
              have hs1 := same_ty xt t (P := fun x => x < w12z.heap.size) (w := w12z) (pk := px) (qk := pt) (ck := cx) (dk := ct) (fun x hx => hx) (TyIn.keep (KP.refl _ _) (fun x hx => Nat.lt_of_lt_of_le hx H9B12.out.size) _ _ (HTX.out w12z H9B12.out)) (TyIn.keep (KP.refl _ _) (fun x hx => Nat.lt_of_lt_of_le hx HB12.out.size) _ _ (HTT.out w12z HB12.out))
              have HS1 := hide hs1; have HXE := hide hxe
              clear hs1 hxe
              unfold cs3 at HS1
              go_wp2_with fail
              refine HS1.out.mono ?_
              rintro r w13 ⟨hyes, _, hb⟩
              obtain rfl := hyes HXE.out
              have hbs := hb
              have HX13 := hide (HX12.out.below hbs HX12.out.lt)
              have HY13 := hide (HY12.out.below hbs HY12.out.lt)
              have HU13 := hide (HU12.out.below hbs HU12.out.lt)
              have HV13 := hide (HV12.out.below hbs HV12.out.lt)
              have HB13 := hide (HB12.out.trans (hbs.mono HB12.out.size))
              have hs13 := HB13.out.size
              clear hbs
              have H9B13 := hide (H9B12.out.trans (hb.mono H9B12.out.size))
              have H11B13 := hide (H11B12.out.trans (hb.mono H11B12.out.size))
              clear x0 x1 x2 y0 y1 y2 u0 u1 u2 v0 v1 v2
              have x0 := HX13.out.cell 0; have x1 := HX13.out.cell 1; have x2 := HX13.out.cell 2
              have y0 := HY13.out.cell 0; have y1 := HY13.out.cell 1; have y2 := HY13.out.cell 2
              have u0 := HU13.out.cell 0; have u1 := HU13.out.cell 1; have u2 := HU13.out.cell 2
              have v0 := HV13.out.cell 0; have v1 := HV13.out.cell 1; have v2 := HV13.out.cell 2
              simp only [List.getElem?_toArray, List.getElem?_cons_succ, List.getElem?_cons_zero] at x0 x1 x2 y0 y1 y2 u0 u1 u2 v0 v1 v2
              clear hb hyes
              have hs2 := same_ty t t (P := fun x => x < w13.heap.size) (w := w13) (pk := py) (qk := pt) (ck := cy) (dk := ct) (fun x hx => hx) (TyIn.keep (KP.refl _ _) (fun x hx => Nat.lt_of_lt_of_le hx H11B13.out.size) _ _ (HTY.out w13 H11B13.out)) (TyIn.keep (KP.refl _ _) (fun x hx => Nat.lt_of_lt_of_le hx HB13.out.size) _ _ (HTT.out w13 HB13.out))
              have HS2 := hide hs2
              clear hs2
              unfold cs3 at HS2
              go_wp2_with fail
              refine HS2.out.mono ?_
              rintro r w14 ⟨hyes, _, hb⟩
              obtain rfl := hyes (by trivial)
              go_wp2_with fail
              go_ret
              exact ⟨rfl, HB13.out.trans (hb.mono HB13.out.size)⟩
          | false =>
            have hfw := check_any xt (P := fun x => x < w9.heap.size) (w := w12z) (pk := px) (ck := cx) (fun x hx => Nat.lt_of_lt_of_le hx H9B12.out.size) (HTX.out w12z H9B12.out)
            have HFW := hide hfw
            clear hfw
            cases hcx : chk xt with
            | false =>
              rw [hcx] at HFW
              unfold cs3 at HFW
              go_wp2_with fail
              refine HFW.out.mono ?_
              rintro r w13 ⟨rfl, hb⟩
              have hbs := hb
              have HX13 := hide (HX12.out.below hbs HX12.out.lt)
              have HY13 := hide (HY12.out.below hbs HY12.out.lt)
              have HU13 := hide (HU12.out.below hbs HU12.out.lt)
              have HV13 := hide (HV12.out.below hbs HV12.out.lt)
              have HB13 := hide (HB12.out.trans (hbs.mono HB12.out.size))
              have hs13 := HB13.out.size
              clear hbs
              have H9B13 := hide (H9B12.out.trans (hb.mono H9B12.out.size))
              have H11B13 := hide (H11B12.out.trans (hb.mono H11B12.out.size))
              clear x0 x1 x2 y0 y1 y2 u0 u1 u2 v0 v1 v2
              have x0 := HX13.out.cell 0; have x1 := HX13.out.cell 1; have x2 := HX13.out.cell 2
              have y0 := HY13.out.cell 0; have y1 := HY13.out.cell 1; have y2 := HY13.out.cell 2
              have u0 := HU13.out.cell 0; have u1 := HU13.out.cell 1; have u2 := HU13.out.cell 2
              have v0 := HV13.out.cell 0; have v1 := HV13.out.cell 1; have v2 := HV13.out.cell 2
              simp only [List.getElem?_toArray, List.getElem?_cons_succ, List.getElem?_cons_zero] at x0 x1 x2 y0 y1 y2 u0 u1 u2 v0 v1 v2
              clear hb HFW
              cases has with
              | true =>
                have hs2 := same_ty t t (P := fun x => x < w13.heap.size) (w := w13) (pk := py) (qk := pt) (ck := cy) (dk := ct) (fun x hx => hx) (TyIn.keep (KP.refl _ _) (fun x hx => Nat.lt_of_lt_of_le hx H11B13.out.size) _ _ (HTY.out w13 H11B13.out)) (TyIn.keep (KP.refl _ _) (fun x hx => Nat.lt_of_lt_of_le hx HB13.out.size) _ _ (HTT.out w13 HB13.out))
                have HS2 := hide hs2
                clear hs2
                unfold cs3 at HS2
                go_wp2_with fail
                refine HS2.out.mono ?_
                rintro r w14 ⟨hyes, _, hb⟩
                obtain rfl := hyes (by trivial)
                go_wp2_with fail
                go_ret
                exact ⟨rfl, HB13.out.trans (hb.mono HB13.out.size)⟩
              | false =>
                have hxe : xt = t := by
                  rw [← HXT.out]
                  exact idle_not hchkt hchkby_ hn0 (of_decide_eq_false HHAS.out)
                have hs1 := same_ty xt t (P := fun x => x < w13.heap.size) (w := w13) (pk := px) (qk := pt) (ck := cx) (dk := ct) (fun x hx => hx) (TyIn.keep (KP.refl _ _) (fun x hx => Nat.lt_of_lt_of_le hx H9B13.out.size) _ _ (HTX.out w13 H9B13.out)) (TyIn.keep (KP.refl _ _) (fun x hx => Nat.lt_of_lt_of_le hx HB13.out.size) _ _ (HTT.out w13 HB13.out))
                have HS1 := hide hs1; have HXE := hide hxe
                clear hs1 hxe
                unfold cs3 at HS1
                go_wp2_with fail
                refine HS1.out.mono ?_
                rintro r w14 ⟨hyes, _, hb⟩
                obtain rfl := hyes HXE.out
                have hbs := hb
                have HX14 := hide (HX13.out.below hbs HX13.out.lt)
                have HY14 := hide (HY13.out.below hbs HY13.out.lt)
                have HU14 := hide (HU13.out.below hbs HU13.out.lt)
                have HV14 := hide (HV13.out.below hbs HV13.out.lt)
                have HB14 := hide (HB13.out.trans (hbs.mono HB13.out.size))
                have hs14 := HB14.out.size
                clear hbs
                have H9B14 := hide (H9B13.out.trans (hb.mono H9B13.out.size))
                have H11B14 := hide (H11B13.out.trans (hb.mono H11B13.out.size))
                clear x0 x1 x2 y0 y1 y2 u0 u1 u2 v0 v1 v2
                have x0 := HX14.out.cell 0; have x1 := HX14.out.cell 1; have x2 := HX14.out.cell 2
                have y0 := HY14.out.cell 0; have y1 := HY14.out.cell 1; have y2 := HY14.out.cell 2
                have u0 := HU14.out.cell 0; have u1 := HU14.out.cell 1; have u2 := HU14.out.cell 2
                have v0 := HV14.out.cell 0; have v1 := HV14.out.cell 1; have v2 := HV14.out.cell 2
                simp only [List.getElem?_toArray, List.getElem?_cons_succ, List.getElem?_cons_zero] at x0 x1 x2 y0 y1 y2 u0 u1 u2 v0 v1 v2
                clear hb hyes
                have hs2 := same_ty t t (P := fun x => x < w14.heap.size) (w := w14) (pk := py) (qk := pt) (ck := cy) (dk := ct) (fun x hx => hx) (TyIn.keep (KP.refl _ _) (fun x hx => Nat.lt_of_lt_of_le hx H11B14.out.size) _ _ (HTY.out w14 H11B14.out)) (TyIn.keep (KP.refl _ _) (fun x hx => Nat.lt_of_lt_of_le hx HB14.out.size) _ _ (HTT.out w14 HB14.out))
                have HS2 := hide hs2
                clear hs2
                unfold cs3 at HS2
                go_wp2_with fail
                refine HS2.out.mono ?_
                rintro r w15 ⟨hyes, _, hb⟩
                obtain rfl := hyes (by trivial)
                go_wp2_with fail
                go_ret
                exact ⟨rfl, HB14.out.trans (hb.mono HB14.out.size)⟩
            | true =>
              rw [hcx] at HFW
              unfold cs3 at HFW
              go_wp2_with fail
              refine HFW.out.mono ?_
              rintro r w13 ⟨rfl, hb⟩
              have hbs := hb
              have HX13 := hide (HX12.out.below hbs HX12.out.lt)
              have HY13 := hide (HY12.out.below hbs HY12.out.lt)
              have HU13 := hide (HU12.out.below hbs HU12.out.lt)
              have HV13 := hide (HV12.out.below hbs HV12.out.lt)
              have HB13 := hide (HB12.out.trans (hbs.mono HB12.out.size))
              have hs13 := HB13.out.size
              clear hbs
              have H9B13 := hide (H9B12.out.trans (hb.mono H9B12.out.size))
              have H11B13 := hide (H11B12.out.trans (hb.mono H11B12.out.size))
              clear x0 x1 x2 y0 y1 y2 u0 u1 u2 v0 v1 v2
              have x0 := HX13.out.cell 0; have x1 := HX13.out.cell 1; have x2 := HX13.out.cell 2
              have y0 := HY13.out.cell 0; have y1 := HY13.out.cell 1; have y2 := HY13.out.cell 2
              have u0 := HU13.out.cell 0; have u1 := HU13.out.cell 1; have u2 := HU13.out.cell 2
              have v0 := HV13.out.cell 0; have v1 := HV13.out.cell 1; have v2 := HV13.out.cell 2
              simp only [List.getElem?_toArray, List.getElem?_cons_succ, List.getElem?_cons_zero] at x0 x1 x2 y0 y1 y2 u0 u1 u2 v0 v1 v2
              clear hb HFW
              have hho := tyHoles_any xt (P := fun x => x < w9.heap.size) (w := w13) (pk := px) (ck := cx) (fun x hx => Nat.lt_of_lt_of_le hx H9B13.out.size) (HTX.out w13 H9B13.out)
              rw [hcx, if_pos rfl] at hho
              have HHO := hide hho
              clear hho
              unfold cs3 at HHO
              go_wp2_with fail
              refine HHO.out.mono ?_
              rintro r w14 ⟨vx, rfl, hil, hb⟩
              have hbs := hb
              have HX14 := hide (HX13.out.below hbs HX13.out.lt)
              have HY14 := hide (HY13.out.below hbs HY13.out.lt)
              have HU14 := hide (HU13.out.below hbs HU13.out.lt)
              have HV14 := hide (HV13.out.below hbs HV13.out.lt)
              have HB14 := hide (HB13.out.trans (hbs.mono HB13.out.size))
              have hs14 := HB14.out.size
              clear hbs
              have H9B14 := hide (H9B13.out.trans (hb.mono H9B13.out.size))
              have H11B14 := hide (H11B13.out.trans (hb.mono H11B13.out.size))
              clear x0 x1 x2 y0 y1 y2 u0 u1 u2 v0 v1 v2
              have x0 := HX14.out.cell 0; have x1 := HX14.out.cell 1; have x2 := HX14.out.cell 2
              have y0 := HY14.out.cell 0; have y1 := HY14.out.cell 1; have y2 := HY14.out.cell 2
              have u0 := HU14.out.cell 0; have u1 := HU14.out.cell 1; have u2 := HU14.out.cell 2
              have v0 := HV14.out.cell 0; have v1 := HV14.out.cell 1; have v2 := HV14.out.cell 2
              simp only [List.getElem?_toArray, List.getElem?_cons_succ, List.getElem?_cons_zero] at x0 x1 x2 y0 y1 y2 u0 u1 u2 v0 v1 v2
              have hinx : decide (n ∈ hs xt) = false := by
                rw [← HXT.out]
                exact decide_eq_false (idle_gone hchkt hchkby_ hn0 (of_decide_eq_false HINB.out))
              have hia := in_any (n := n) hil
              rw [hinx] at hia
              have HIA := hide hia
              clear hb HHO hil hia hinx
              go_wp2_with fail
              refine HIA.out.mono ?_
              rintro r w14z ⟨rfl, rfl⟩
              clear HIA
              cases has with
              | true =>
                have hs2 := same_ty t t (P := fun x => x < w14z.heap.size) (w := w14z) (pk := py) (qk := pt) (ck := cy) (dk := ct) (fun x hx => hx) (TyIn.keep (KP.refl _ _) (fun x hx => Nat.lt_of_lt_of_le hx H11B14.out.size) _ _ (HTY.out w14z H11B14.out)) (TyIn.keep (KP.refl _ _) (fun x hx => Nat.lt_of_lt_of_le hx HB14.out.size) _ _ (HTT.out w14z HB14.out))
                have HS2 := hide hs2
                clear hs2
                unfold cs3 at HS2
                go_wp2_with fail
                refine HS2.out.mono ?_
                rintro r w15 ⟨hyes, _, hb⟩
                obtain rfl := hyes (by trivial)
                go_wp2_with fail
                go_ret
                exact ⟨rfl, HB14.out.trans (hb.mono HB14.out.size)⟩
              | false =>
                have hxe : xt = t := by
                  rw [← HXT.out]
                  exact idle_not hchkt hchkby_ hn0 (of_decide_eq_false HHAS.out)
                have hs1 := same_ty xt t (P := fun x => x < w14z.heap.size) (w := w14z) (pk := px) (qk := pt) (ck := cx) (dk := ct) (fun x hx => hx) (TyIn.keep (KP.refl _ _) (fun x hx => Nat.lt_of_lt_of_le hx H9B14.out.size) _ _ (HTX.out w14z H9B14.out)) (TyIn.keep (KP.refl _ _) (fun x hx => Nat.lt_of_lt_of_le hx HB14.out.size) _ _ (HTT.out w14z HB14.out))
                have HS1 := hide hs1; have HXE := hide hxe
                clear hs1 hxe
                unfold cs3 at HS1
                go_wp2_with fail
                refine HS1.out.mono ?_
                rintro r w15 ⟨hyes, _, hb⟩
                obtain rfl := hyes HXE.out
                have hbs := hb
                have HX15 := hide (HX14.out.below hbs HX14.out.lt)
                have HY15 := hide (HY14.out.below hbs HY14.out.lt)
                have HU15 := hide (HU14.out.below hbs HU14.out.lt)
                have HV15 := hide (HV14.out.below hbs HV14.out.lt)
                have HB15 := hide (HB14.out.trans (hbs.mono HB14.out.size))
                have hs15 := HB15.out.size
                clear hbs
                have H9B15 := hide (H9B14.out.trans (hb.mono H9B14.out.size))
                have H11B15 := hide (H11B14.out.trans (hb.mono H11B14.out.size))
                clear x0 x1 x2 y0 y1 y2 u0 u1 u2 v0 v1 v2
                have x0 := HX15.out.cell 0; have x1 := HX15.out.cell 1; have x2 := HX15.out.cell 2
                have y0 := HY15.out.cell 0; have y1 := HY15.out.cell 1; have y2 := HY15.out.cell 2
                have u0 := HU15.out.cell 0; have u1 := HU15.out.cell 1; have u2 := HU15.out.cell 2
                have v0 := HV15.out.cell 0; have v1 := HV15.out.cell 1; have v2 := HV15.out.cell 2
                simp only [List.getElem?_toArray, List.getElem?_cons_succ, List.getElem?_cons_zero] at x0 x1 x2 y0 y1 y2 u0 u1 u2 v0 v1 v2
                clear hb hyes
                have hs2 := same_ty t t (P := fun x => x < w15.heap.size) (w := w15) (pk := py) (qk := pt) (ck := cy) (dk := ct) (fun x hx => hx) (TyIn.keep (KP.refl _ _) (fun x hx => Nat.lt_of_lt_of_le hx H11B15.out.size) _ _ (HTY.out w15 H11B15.out)) (TyIn.keep (KP.refl _ _) (fun x hx => Nat.lt_of_lt_of_le hx HB15.out.size) _ _ (HTT.out w15 HB15.out))
                have HS2 := hide hs2
                clear hs2
                unfold cs3 at HS2
                go_wp2_with fail
                refine HS2.out.mono ?_
                rintro r w16 ⟨hyes, _, hb⟩
                obtain rfl := hyes (by trivial)
                go_wp2_with fail
                go_ret
                exact ⟨rfl, HB15.out.trans (hb.mono HB15.out.size)⟩
end Go.Proofs.YteoflpalmckikaaDoor
