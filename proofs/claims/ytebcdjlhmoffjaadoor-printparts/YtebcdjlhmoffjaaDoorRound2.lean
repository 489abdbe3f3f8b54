/-
  THE WALK OF put: rounds.
-/
import Derived.Test.YtebcdjlhmoffjaaDoorPut2
namespace Go.Proofs.YtebcdjlhmoffjaaDoor
open Go.RowKit
set_option linter.unusedVariables false
set_option linter.unusedSimpArgs false
set_option maxRecDepth 100000 in
set_option maxHeartbeats 2000000 in
theorem round_expr {n : Nat} (IH : PutOK n) {P : Nat → Prop} {t : Nat} {st : St} {lv : Nat} {ps : List Pt} {p : Option Addr} {c : Nat} {w w1 : World} {i : Nat} {a : Act} {o : List UInt8} {tg : Bool} (hlv : lv ≤ 30) (hG : GP P w) (hs : SlOK p ps.length c) (hM : AM (PV P w) P w p ps) (hJ : putJ P t st lv ps p c w i a w1) (hst : ptsA lv (ps.take i) st = some (o, tg)) (e : Tr) (hp : ps[i]? = some (pExpr e)) (hw : ptw (pExpr e) ≤ n + 1)
    (J : Act → World → Prop) (Q : Exit → Act → World → Prop) (hJ' : ∀ a' w', putJ P t st lv ps p c w (i + 1) a' w' → J a' w') : (behindLabel Tryd.f35.body).wp Tryd.prog (Exit.jump 0 J Q) a w1 := by
  obtain ⟨hil, hT, hK, ⟨b, ob, v, rfl, hcv1, hpv1⟩, hstep, hG1, c5, hn63⟩ := round_at hG hs hM hJ hst hp
  obtain ⟨T, rfl⟩ := putJ_lit hJ
  unfold behindLabel Tryd.f35
  dsimp only
  have HSTEP := hide hstep
  have hj0 : ∀ a' w', a'.defers = [] → a'.tmps.size = 158 → a'.tmps.getD 0 undef = .pointer (some ⟨t, 0, none⟩) → a'.tmps.getD 1 undef = .slice (some ⟨b, ob, none⟩) ps.length c → a'.tmps.getD 4 undef = .int .i64 ((i : Int) + 1) → TX P t (ptA lv (pExpr e) (some (o, tg))) lv w' → KP P w1 w' → J a' w' := by
    intro a' w' h1 h2 h3 h4 h5 h6 h7
    refine hJ' a' w' ⟨hil, h1, h2, h3, h4, by rw [h5]; simp, ?_, hK.trans h7⟩
    rw [hstep]; exact h6
  generalize hm : ps.length = m at *
  have hlt : (i : Int) < m := by omega
  have hltn : i < m := by omega
  have hne : ¬ ((i : Int) = m) := by omega
  have HJ := hide hj0
  have HW := hide hw
  obtain ⟨cs, rfl, hE, hsh⟩ := hpv1
  obtain ⟨pn, cn, pk, ck, rfl⟩ := tr_cells hE
  have hB : Below w1.heap.size w1 (w1.alloc (.cells #[.int .i64 e.kd, .string (S e.nm), .int .i64 e.nu, .slice pn e.ns.length cn, .slice pk e.ks.length ck] 25)) := (Below.refl _ w1).alloc (Nat.le_refl _) _
  have hKb : KP P w1 (w1.alloc (.cells #[.int .i64 e.kd, .string (S e.nm), .int .i64 e.nu, .slice pn e.ns.length cn, .slice pk e.ks.length ck] 25)) := KP.of_below hB hT.lt
  have hTb := hT.below hB
  have hGb : GP P (w1.alloc (.cells #[.int .i64 e.kd, .string (S e.nm), .int .i64 e.nu, .slice pn e.ns.length cn, .slice pk e.ks.length ck] 25)) := hG1.keep hKb fun b hb => hb
  have HC := hide (exprT IH (e := e) hw hlv hGb hTb (TrIn.keep hKb (fun b hb => hb) e _ hE) hsh)
  have HKb := hide hKb
  have tn9 := ta_no9 25 (by decide)
  have tn88 := ta_no88 25 (by decide)
  have tn89 := ta_no89 25 (by decide)
  have tn22 := ta_no22 25 (by decide)
  have tn92 := ta_no92 25 (by decide)
  have tn95 := ta_no95 25 (by decide)
  have ty := ta_yes25
  clear hM hG hJ' hst hs hJ hK hj0 hstep hp hw IH hT hG1 hE hB hKb hTb hGb
  go_wp2_with fail
  refine HC.out.mono ?_
  rintro e' w' ⟨rfl, hT', hK'⟩
  have HT' := hide hT'
  have HK' := hide hK'
  clear hT' hK'
  go_wp2_with fail
  go_step3
  exact ⟨rfl, HJ.out _ _ rfl rfl rfl rfl rfl HT'.out (HKb.out.trans HK'.out)⟩
set_option maxRecDepth 100000 in
set_option maxHeartbeats 2000000 in
theorem round_sigs {n : Nat} (IH : PutOK n) {P : Nat → Prop} {t : Nat} {st : St} {lv : Nat} {ps : List Pt} {p : Option Addr} {c : Nat} {w w1 : World} {i : Nat} {a : Act} {o : List UInt8} {tg : Bool} (hlv : lv ≤ 30) (hG : GP P w) (hs : SlOK p ps.length c) (hM : AM (PV P w) P w p ps) (hJ : putJ P t st lv ps p c w i a w1) (hst : ptsA lv (ps.take i) st = some (o, tg)) (l : List Sg) (hp : ps[i]? = some (pSigs l)) (hw : ptw (pSigs l) ≤ n + 1)
    (J : Act → World → Prop) (Q : Exit → Act → World → Prop) (hJ' : ∀ a' w', putJ P t st lv ps p c w (i + 1) a' w' → J a' w') : (behindLabel Tryd.f35.body).wp Tryd.prog (Exit.jump 0 J Q) a w1 := by
  obtain ⟨hil, hT, hK, ⟨b, ob, v, rfl, hcv1, hpv1⟩, hstep, hG1, c5, hn63⟩ := round_at hG hs hM hJ hst hp
  obtain ⟨T, rfl⟩ := putJ_lit hJ
  unfold behindLabel Tryd.f35
  dsimp only
  have HSTEP := hide hstep
  have hj0 : ∀ a' w', a'.defers = [] → a'.tmps.size = 158 → a'.tmps.getD 0 undef = .pointer (some ⟨t, 0, none⟩) → a'.tmps.getD 1 undef = .slice (some ⟨b, ob, none⟩) ps.length c → a'.tmps.getD 4 undef = .int .i64 ((i : Int) + 1) → TX P t (ptA lv (pSigs l) (some (o, tg))) lv w' → KP P w1 w' → J a' w' := by
    intro a' w' h1 h2 h3 h4 h5 h6 h7
    refine hJ' a' w' ⟨hil, h1, h2, h3, h4, by rw [h5]; simp, ?_, hK.trans h7⟩
    rw [hstep]; exact h6
  generalize hm : ps.length = m at *
  have hlt : (i : Int) < m := by omega
  have hltn : i < m := by omega
  have hne : ¬ ((i : Int) = m) := by omega
  have HJ := hide hj0
  have HW := hide hw
  obtain ⟨p2, c2, rfl, hs2, hGM⟩ := hpv1
  have HC := hide (argsT IH (fun s hs => by have h1 : ptw (pSigs l) = 3 + (l.map sw).sum := rfl; have := sum_mem l s hs; omega) hlv hG1 hT hs2 hGM)
  have tn9 := ta_no9 44 (by decide)
  have tn88 := ta_no88 44 (by decide)
  have tn89 := ta_no89 44 (by decide)
  have tn22 := ta_no22 44 (by decide)
  have tn92 := ta_no92 44 (by decide)
  have tn95 := ta_no95 44 (by decide)
  have tn25 := ta_no25 44 (by decide)
  have ty := ta_yes44
  clear hM hG hJ' hst hs hJ hK hj0 hstep hp hw IH hT hG1 hGM
  go_wp2_with fail
  refine HC.out.mono ?_
  rintro e' w' ⟨rfl, hT', hK'⟩
  have HT' := hide hT'
  have HK' := hide hK'
  clear hT' hK'
  go_wp2_with fail
  go_step3
  exact ⟨rfl, HJ.out _ _ rfl rfl rfl rfl rfl HT'.out HK'.out⟩
set_option maxRecDepth 100000 in
set_option maxHeartbeats 2000000 in
theorem round_sig {n : Nat} (IH : PutOK n) {P : Nat → Prop} {t : Nat} {st : St} {lv : Nat} {ps : List Pt} {p : Option Addr} {c : Nat} {w w1 : World} {i : Nat} {a : Act} {o : List UInt8} {tg : Bool} (hlv : lv ≤ 30) (hG : GP P w) (hs : SlOK p ps.length c) (hM : AM (PV P w) P w p ps) (hJ : putJ P t st lv ps p c w i a w1) (hst : ptsA lv (ps.take i) st = some (o, tg)) (s : Sg) (hp : ps[i]? = some (pSig s)) (hw : ptw (pSig s) ≤ n + 1)
    (J : Act → World → Prop) (Q : Exit → Act → World → Prop) (hJ' : ∀ a' w', putJ P t st lv ps p c w (i + 1) a' w' → J a' w') : (behindLabel Tryd.f35.body).wp Tryd.prog (Exit.jump 0 J Q) a w1 := by
  obtain ⟨hil, hT, hK, ⟨b, ob, v, rfl, hcv1, hpv1⟩, hstep, hG1, c5, hn63⟩ := round_at hG hs hM hJ hst hp
  obtain ⟨T, rfl⟩ := putJ_lit hJ
  unfold behindLabel Tryd.f35
  dsimp only
  have HSTEP := hide hstep
  have hj0 : ∀ a' w', a'.defers = [] → a'.tmps.size = 158 → a'.tmps.getD 0 undef = .pointer (some ⟨t, 0, none⟩) → a'.tmps.getD 1 undef = .slice (some ⟨b, ob, none⟩) ps.length c → a'.tmps.getD 4 undef = .int .i64 ((i : Int) + 1) → TX P t (ptA lv (pSig s) (some (o, tg))) lv w' → KP P w1 w' → J a' w' := by
    intro a' w' h1 h2 h3 h4 h5 h6 h7
    refine hJ' a' w' ⟨hil, h1, h2, h3, h4, by rw [h5]; simp, ?_, hK.trans h7⟩
    rw [hstep]; exact h6
  generalize hm : ps.length = m at *
  have hlt : (i : Int) < m := by omega
  have hltn : i < m := by omega
  have hne : ¬ ((i : Int) = m) := by omega
  have HJ := hide hj0
  have HW := hide hw
  obtain ⟨cs, rfl, hE⟩ := hpv1
  obtain ⟨pk, ck, rfl, _⟩ := (SgIn_iff _ _ _ _).1 hE
  have hB : Below w1.heap.size w1 (w1.alloc (.cells #[.string (S s.nm), .slice pk s.ar.length ck] 46)) := (Below.refl _ w1).alloc (Nat.le_refl _) _
  have hKb : KP P w1 (w1.alloc (.cells #[.string (S s.nm), .slice pk s.ar.length ck] 46)) := KP.of_below hB hT.lt
  have hTb := hT.below hB
  have hGb : GP P (w1.alloc (.cells #[.string (S s.nm), .slice pk s.ar.length ck] 46)) := hG1.keep hKb fun b hb => hb
  have HC := hide (sigT IH (s := s) hw hlv hGb hTb (SgIn.keep hKb (fun b hb => hb) s _ hE))
  have HKb := hide hKb
  have tn9 := ta_no9 46 (by decide)
  have tn88 := ta_no88 46 (by decide)
  have tn89 := ta_no89 46 (by decide)
  have tn22 := ta_no22 46 (by decide)
  have tn92 := ta_no92 46 (by decide)
  have tn95 := ta_no95 46 (by decide)
  have tn25 := ta_no25 46 (by decide)
  have tn44 := ta_no44 46 (by decide)
  have ty := ta_yes46
  clear hM hG hJ' hst hs hJ hK hj0 hstep hp hw IH hT hG1 hE hB hKb hTb hGb
  go_wp2_with fail
  refine HC.out.mono ?_
  rintro e' w' ⟨rfl, hT', hK'⟩
  have HT' := hide hT'
  have HK' := hide hK'
  clear hT' hK'
  go_wp2_with fail
  go_step3
  exact ⟨rfl, HJ.out _ _ rfl rfl rfl rfl rfl HT'.out (HKb.out.trans HK'.out)⟩
set_option maxRecDepth 100000 in
set_option maxHeartbeats 2000000 in
theorem round_form {n : Nat} (IH : PutOK n) {P : Nat → Prop} {t : Nat} {st : St} {lv : Nat} {ps : List Pt} {p : Option Addr} {c : Nat} {w w1 : World} {i : Nat} {a : Act} {o : List UInt8} {tg : Bool} (hlv : lv ≤ 30) (hG : GP P w) (hs : SlOK p ps.length c) (hM : AM (PV P w) P w p ps) (hJ : putJ P t st lv ps p c w i a w1) (hst : ptsA lv (ps.take i) st = some (o, tg)) (s : Fm) (hp : ps[i]? = some (pForm s)) (hw : ptw (pForm s) ≤ n + 1)
    (J : Act → World → Prop) (Q : Exit → Act → World → Prop) (hJ' : ∀ a' w', putJ P t st lv ps p c w (i + 1) a' w' → J a' w') : (behindLabel Tryd.f35.body).wp Tryd.prog (Exit.jump 0 J Q) a w1 := by
  obtain ⟨hil, hT, hK, ⟨b, ob, v, rfl, hcv1, hpv1⟩, hstep, hG1, c5, hn63⟩ := round_at hG hs hM hJ hst hp
  obtain ⟨T, rfl⟩ := putJ_lit hJ
  unfold behindLabel Tryd.f35
  dsimp only
  have HSTEP := hide hstep
  have hj0 : ∀ a' w', a'.defers = [] → a'.tmps.size = 158 → a'.tmps.getD 0 undef = .pointer (some ⟨t, 0, none⟩) → a'.tmps.getD 1 undef = .slice (some ⟨b, ob, none⟩) ps.length c → a'.tmps.getD 4 undef = .int .i64 ((i : Int) + 1) → TX P t (ptA lv (pForm s) (some (o, tg))) lv w' → KP P w1 w' → J a' w' := by
    intro a' w' h1 h2 h3 h4 h5 h6 h7
    refine hJ' a' w' ⟨hil, h1, h2, h3, h4, by rw [h5]; simp, ?_, hK.trans h7⟩
    rw [hstep]; exact h6
  generalize hm : ps.length = m at *
  have hlt : (i : Int) < m := by omega
  have hltn : i < m := by omega
  have hne : ¬ ((i : Int) = m) := by omega
  have HJ := hide hj0
  have HW := hide hw
  obtain ⟨cs, rfl, hE⟩ := hpv1
  obtain ⟨pk, ck, rfl, hnm, hsk, hgm⟩ := hE
  have hB : Below w1.heap.size w1 (w1.alloc (.cells #[.string (S s.nm), .slice pk s.ar.length ck] 47)) := (Below.refl _ w1).alloc (Nat.le_refl _) _
  have hKb : KP P w1 (w1.alloc (.cells #[.string (S s.nm), .slice pk s.ar.length ck] 47)) := KP.of_below hB hT.lt
  have hTb := hT.below hB
  have hGb : GP P (w1.alloc (.cells #[.string (S s.nm), .slice pk s.ar.length ck] 47)) := hG1.keep hKb fun b hb => hb
  have HC := hide (put_new IH [pStr s.nm, pSigs s.ar] [.iface 9 (.string (S s.nm)), .iface 44 (.slice pk s.ar.length ck)] rfl (vs_cons ⟨rfl, hnm⟩ (vs_cons ⟨_, _, rfl, hsk, hgm⟩ vs_nil)) (by have h1 : ptw (pForm s) = 5 + (s.ar.map sw).sum := rfl; simp [ptsw, ptw, pStr, pSigs, p0w]; omega) hlv hG1 hT hB (w1.heap.size + 1) 2 (by simp) rfl (by omega))
  have tn9 := ta_no9 47 (by decide)
  have tn88 := ta_no88 47 (by decide)
  have tn89 := ta_no89 47 (by decide)
  have tn22 := ta_no22 47 (by decide)
  have tn92 := ta_no92 47 (by decide)
  have tn95 := ta_no95 47 (by decide)
  have tn25 := ta_no25 47 (by decide)
  have tn44 := ta_no44 47 (by decide)
  have tn46 := ta_no46 47 (by decide)
  have ty := ta_yes47
  clear hM hG hJ' hst hs hJ hK hj0 hstep hp hw IH hT hG1 hgm hB hKb hTb hGb
  go_wp2_with fail
  refine HC.out.mono ?_
  rintro e' w' ⟨rfl, hT', hK'⟩
  have HT' := hide hT'
  have HK' := hide hK'
  clear hT' hK'
  go_wp2_with fail
  go_step3
  exact ⟨rfl, HJ.out _ _ rfl rfl rfl rfl rfl (by rw [← form_is]; exact HT'.out) HK'.out⟩
set_option maxRecDepth 100000 in
set_option maxHeartbeats 2000000 in
theorem round_def {n : Nat} (IH : PutOK n) {P : Nat → Prop} {t : Nat} {st : St} {lv : Nat} {ps : List Pt} {p : Option Addr} {c : Nat} {w w1 : World} {i : Nat} {a : Act} {o : List UInt8} {tg : Bool} (hlv : lv ≤ 30) (hG : GP P w) (hs : SlOK p ps.length c) (hM : AM (PV P w) P w p ps) (hJ : putJ P t st lv ps p c w i a w1) (hst : ptsA lv (ps.take i) st = some (o, tg)) (d : Df) (hp : ps[i]? = some (pDef d)) (hw : ptw (pDef d) ≤ n + 1)
    (J : Act → World → Prop) (Q : Exit → Act → World → Prop) (hJ' : ∀ a' w', putJ P t st lv ps p c w (i + 1) a' w' → J a' w') : (behindLabel Tryd.f35.body).wp Tryd.prog (Exit.jump 0 J Q) a w1 := by
  obtain ⟨hil, hT, hK, ⟨b, ob, v, rfl, hcv1, hpv1⟩, hstep, hG1, c5, hn63⟩ := round_at hG hs hM hJ hst hp
  obtain ⟨T, rfl⟩ := putJ_lit hJ
  unfold behindLabel Tryd.f35
  dsimp only
  have HSTEP := hide hstep
  have hj0 : ∀ a' w', a'.defers = [] → a'.tmps.size = 158 → a'.tmps.getD 0 undef = .pointer (some ⟨t, 0, none⟩) → a'.tmps.getD 1 undef = .slice (some ⟨b, ob, none⟩) ps.length c → a'.tmps.getD 4 undef = .int .i64 ((i : Int) + 1) → TX P t (ptA lv (pDef d) (some (o, tg))) lv w' → KP P w1 w' → J a' w' := by
    intro a' w' h1 h2 h3 h4 h5 h6 h7
    refine hJ' a' w' ⟨hil, h1, h2, h3, h4, by rw [h5]; simp, ?_, hK.trans h7⟩
    rw [hstep]; exact h6
  generalize hm : ps.length = m at *
  have hlt : (i : Int) < m := by omega
  have hltn : i < m := by omega
  have hne : ¬ ((i : Int) = m) := by omega
  have HJ := hide hj0
  have HW := hide hw
  obtain ⟨cs, rfl, ⟨ds, rfl, hnm, hin⟩, hsh⟩ := hpv1
  obtain ⟨pn, cn, pk, ck, rfl⟩ := tr_cells hin
  have hB : Below w1.heap.size w1 (w1.alloc (.cells #[.string (S d.nm), .int .i64 d.bd.kd, .string (S d.bd.nm), .int .i64 d.bd.nu, .slice pn d.bd.ns.length cn, .slice pk d.bd.ks.length ck] 33)) := (Below.refl _ w1).alloc (Nat.le_refl _) _
  have hKb : KP P w1 (w1.alloc (.cells #[.string (S d.nm), .int .i64 d.bd.kd, .string (S d.bd.nm), .int .i64 d.bd.nu, .slice pn d.bd.ns.length cn, .slice pk d.bd.ks.length ck] 33)) := KP.of_below hB hT.lt
  have hTb := hT.below hB
  have hGb : GP P (w1.alloc (.cells #[.string (S d.nm), .int .i64 d.bd.kd, .string (S d.bd.nm), .int .i64 d.bd.nu, .slice pn d.bd.ns.length cn, .slice pk d.bd.ks.length ck] 33)) := hG1.keep hKb fun b hb => hb
  have HC := hide (put_new IH [pStr d.nm, pStr [61], pExpr d.bd] [.iface 9 (.string (S d.nm)), .iface 9 (.string (S [61])), .iface 25 (.agg #[.int .i64 d.bd.kd, .string (S d.bd.nm), .int .i64 d.bd.nu, .slice pn d.bd.ns.length cn, .slice pk d.bd.ks.length ck])] rfl (vs_cons ⟨rfl, hnm⟩ (vs_cons ⟨rfl, by simp⟩ (vs_cons ⟨_, rfl, hin, hsh⟩ vs_nil))) (by have h1 : ptw (pDef d) = 3 + tw d.bd := rfl; simp [ptsw, ptw, pStr, pExpr, p0w]; omega) hlv hG1 hT hB (w1.heap.size + 1) 3 (by simp) rfl (by omega))
  have tn9 := ta_no9 33 (by decide)
  have tn88 := ta_no88 33 (by decide)
  have tn89 := ta_no89 33 (by decide)
  have tn22 := ta_no22 33 (by decide)
  have tn92 := ta_no92 33 (by decide)
  have tn95 := ta_no95 33 (by decide)
  have tn25 := ta_no25 33 (by decide)
  have tn44 := ta_no44 33 (by decide)
  have tn46 := ta_no46 33 (by decide)
  have tn47 := ta_no47 33 (by decide)
  have tn50 := ta_no50 33 (by decide)
  have ty := ta_yes33
  clear hM hG hJ' hst hs hJ hK hj0 hstep hp hw IH hT hG1 hin hB hKb hTb hGb
  go_wp2_with fail
  refine HC.out.mono ?_
  rintro e' w' ⟨rfl, hT', hK'⟩
  have HT' := hide hT'
  have HK' := hide hK'
  clear hT' hK'
  go_wp2_with fail
  go_step3
  exact ⟨rfl, HJ.out _ _ rfl rfl rfl rfl rfl (by rw [← def_is]; exact HT'.out) HK'.out⟩
end Go.Proofs.YtebcdjlhmoffjaaDoor
