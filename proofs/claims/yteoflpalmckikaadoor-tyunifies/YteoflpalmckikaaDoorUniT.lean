/-
  THE WALK OF dawdlerref08's Unify.
-/
import Derived.Test.YteoflpalmckikaaDoorOneS
namespace Go.Proofs.YteoflpalmckikaaDoor
open Go.RowKit
set_option linter.unusedVariables false
set_option linter.unusedSimpArgs false
def UPost (a b : Ty) (l : List (Int × Ty)) (e : Int) : Prop := (chk a = true ∧ chk b = true ∧ UnifyQ a b l e) ∨ ((chk a = false ∨ chk b = false) ∧ l = [] ∧ e = 80)
def UQ2 (a b : Ty) (w : World) (r : Ending) (w' : World) : Prop := Below w.heap.size w w' ∧ ∃ (l : List (Int × Ty)) (e : Int) (v : Value), r = .returned (.tuple #[v, .int .i64 e]) ∧ FM w' v l ∧ l.length ≤ 10000 ∧ UPost a b l e
theorem FM.nil (W : World) : FM W (.slice none 0 0) [] := ⟨none, 0, rfl, ⟨Nat.le_refl _, by omega, fun _ => rfl⟩, .inl rfl⟩
theorem RM.take {α : Type} {m : Nat} {P : Nat → Prop} {w : World} {R : α → List Value → Prop} {p : Option Addr} {l : List α} (h : RM m P w R p l) (k : Nat) : RM m P w R p (l.take k) := by
  rcases h with rfl | ⟨b, o, hp, hb, hm⟩
  · exact .inl (by simp)
  · refine .inr ⟨b, o, hp, hb, fun i t ht => ?_⟩
    rw [List.getElem?_take] at ht
    split at ht
    · exact hm i t ht
    · cases ht
theorem RM.drop {α : Type} {m : Nat} {P : Nat → Prop} {w : World} {R : α → List Value → Prop} {b o : Nat} {l : List α} (h : RM m P w R (some ⟨b, o, none⟩) l) (k : Nat) : RM m P w R (some ⟨b, o + k * m, none⟩) (l.drop k) := by
  rcases h with rfl | ⟨b', o', hp, hb, hm⟩
  · exact .inl (by simp)
  · cases hp
    refine .inr ⟨b, o + k * m, rfl, hb, fun i t ht => ?_⟩
    rw [List.getElem?_drop] at ht
    obtain ⟨ds, h1, h2, h3⟩ := hm (k + i) t ht
    refine ⟨ds, h1, fun j d hd => ?_, h3⟩
    have := h2 j d hd
    rw [Nat.add_mul, ← Nat.add_assoc] at this
    exact this
/-- Facts that are sorted: those of the first ones of a list. -/
def LO (l : List (Int × Ty)) (s : Int → Ty) (i : Nat) (o : List (Int × Ty)) : Prop := (o.Pairwise fun x y => x.1 < y.1) ∧ (∀ f, f ∈ o ↔ ∃ g ∈ l.take i, f = (g.1, s g.1)) ∧ (∀ f ∈ o, chk f.2 = true) ∧ o.length = i
theorem LO.step {l o : List (Int × Ty)} {s : Int → Ty} {i k : Nat} {f : Int × Ty} (h : LO l s i o) (hnd : (l.map fun f => f.1).Nodup) (hf : l[i]? = some f) (hk : k ≤ o.length) (h1 : ∀ g ∈ o.take k, g.1 < f.1) (h2 : ∀ g, o[k]? = some g → ¬ g.1 < f.1) (hc : chk (s f.1) = true) : LO l s (i + 1) (o.take k ++ [(f.1, s f.1)] ++ o.drop k) := by
  obtain ⟨a1, a2, a3, a4⟩ := h
  have hi := (List.getElem?_eq_some_iff.1 hf).1
  have htk : l.take (i + 1) = l.take i ++ [f] := by
    rw [List.take_succ_eq_append_getElem hi, (List.getElem?_eq_some_iff.1 hf).2]
  have hne : ∀ g ∈ o, g.1 ≠ f.1 := fun g hg e1 => by
    obtain ⟨g', hg', rfl⟩ := (a2 g).1 hg
    obtain ⟨j, hj, hj2⟩ := List.mem_take_iff_getElem.1 hg'
    have hjl : j < l.length := by omega
    have q1 : (l.map fun f => f.1)[j]? = some f.1 := by
      rw [List.getElem?_map, List.getElem?_eq_getElem hjl, hj2]
      simpa using e1
    have q2 : (l.map fun f => f.1)[i]? = some f.1 := by rw [List.getElem?_map, hf]; rfl
    have := (List.getElem?_inj (by simpa using hjl) hnd).1 (q1.trans q2.symm)
    omega
  refine ⟨ins_rise a1 h1 fun g hg => ?_, fun x => ?_, fun x hx => ?_, by rw [ins_len hk, a4]⟩
  · have q1 := h2 g hg
    have q2 := hne g (List.mem_of_getElem? hg)
    show f.1 < g.1
    omega
  · rw [ins_mem, a2, htk]
    constructor
    · rintro (⟨g, hg, rfl⟩ | rfl)
      · exact ⟨g, by simp [hg], rfl⟩
      · exact ⟨f, by simp, rfl⟩
    · rintro ⟨g, hg, rfl⟩
      rcases List.mem_append.1 hg with hg | hg
      · exact .inl ⟨g, hg, rfl⟩
      · rw [List.mem_singleton.1 hg]; exact .inr rfl
  · rcases ins_mem.1 hx with hx | rfl
    · exact a3 x hx
    · exact hc
set_option maxHeartbeats 64000000 in
set_option maxRecDepth 100000 in
theorem runify_any (a b : Ty) {w : World} {pa pb : Option Addr} {ca cb : Nat} (hA : TyIn (fun x => x < w.heap.size) w a [.string (S a.nm), .int .i64 a.n, .slice pa a.ar.length ca]) (hB : TyIn (fun x => x < w.heap.size) w b [.string (S b.nm), .int .i64 b.n, .slice pb b.ar.length cb]) :
    Calls Tryd.prog 25 #[.agg (cs3 a pa ca), .agg (cs3 b pb cb)] w (UQ2 a b w) := by
  have hB0 : Below w.heap.size w ((w.alloc (.cells #[.string (S a.nm), .int .i64 a.n, .slice pa a.ar.length ca] 24)).alloc (.cells #[.string (S b.nm), .int .i64 b.n, .slice pb b.ar.length cb] 24)) := ((Below.refl _ w).alloc (Nat.le_refl _) _).alloc (by simp) _
  have hX0 : Bx [(w.heap.size + 1, #[.string (S b.nm), .int .i64 b.n, .slice pb b.ar.length cb]), (w.heap.size, #[.string (S a.nm), .int .i64 a.n, .slice pa a.ar.length ca])] ((w.alloc (.cells #[.string (S a.nm), .int .i64 a.n, .slice pa a.ar.length ca] 24)).alloc (.cells #[.string (S b.nm), .int .i64 b.n, .slice pb b.ar.length cb] 24)) := by
    have h1 : Bx [(w.heap.size, #[.string (S a.nm), .int .i64 a.n, .slice pa a.ar.length ca])] (w.alloc (.cells #[.string (S a.nm), .int .i64 a.n, .slice pa a.ar.length ca] 24)) := (show Bx [] w from fun x hx => by cases hx).push _
    have h2 := h1.push #[.string (S b.nm), .int .i64 b.n, .slice pb b.ar.length cb]
    rw [World.size_alloc] at h2
    exact h2
  have HCA := hide (fun W (hb : Below w.heap.size w W) => rcheck_any a (P := fun x => x < w.heap.size) (w := W) (pk := pa) (ck := ca) (fun b h => Nat.lt_of_lt_of_le h hb.size) (TyIn.keep (KP.of_below hb fun x hx => hx) (fun b h => h) _ _ hA))
  have HCB := hide (fun W (hb : Below w.heap.size w W) => rcheck_any b (P := fun x => x < w.heap.size) (w := W) (pk := pb) (ck := cb) (fun b h => Nat.lt_of_lt_of_le h hb.size) (TyIn.keep (KP.of_below hb fun x hx => hx) (fun b h => h) _ _ hB))
  have HB0 := hide hB0; have HX0 := hide hX0; have HTA := hide hA; have HTB := hide hB
  clear hB0 hX0 hA hB
  unfold cs3 at HCA HCB ⊢
  generalize hca : chk a = cka at *
  generalize hcb : chk b = ckb at *
  have HKA := hide hca; have HKB := hide hcb
  clear hca hcb
  go_enter Tryd.func25, Tryd.ntmps25
  go_upto_region 1 with fail
  generalize ((w.alloc (.cells #[.string (S a.nm), .int .i64 a.n, .slice pa a.ar.length ca] 24)).alloc (.cells #[.string (S b.nm), .int .i64 b.n, .slice pb b.ar.length cb] 24)) = w0 at *
  have hhx := Bx.at HX0.out 1 rfl
  dsimp only at hhx
  have x0 := hhx.cell 0; have x1 := hhx.cell 1; have x2 := hhx.cell 2
  simp only [List.getElem?_toArray, List.getElem?_cons_succ, List.getElem?_cons_zero] at x0 x1 x2
  clear hhx
  have hhy := Bx.at HX0.out 0 rfl
  dsimp only at hhy
  have y0 := hhy.cell 0; have y1 := hhy.cell 1; have y2 := hhy.cell 2
  simp only [List.getElem?_toArray, List.getElem?_cons_succ, List.getElem?_cons_zero] at y0 y1 y2
  clear hhy
  go_wp2_with fail
  refine (HCA.out w0 HB0.out).mono ?_
  rintro r w1 ⟨rfl, hb⟩
  have HX1 := hide (HX0.out.below hb); have HB1 := hide (HB0.out.trans (hb.mono HB0.out.size))
  clear hb x0 x1 x2 y0 y1 y2
  have hhx := Bx.at HX1.out 1 rfl
  dsimp only at hhx
  have x0 := hhx.cell 0; have x1 := hhx.cell 1; have x2 := hhx.cell 2
  simp only [List.getElem?_toArray, List.getElem?_cons_succ, List.getElem?_cons_zero] at x0 x1 x2
  clear hhx
  have hhy := Bx.at HX1.out 0 rfl
  dsimp only at hhy
  have y0 := hhy.cell 0; have y1 := hhy.cell 1; have y2 := hhy.cell 2
  simp only [List.getElem?_toArray, List.getElem?_cons_succ, List.getElem?_cons_zero] at y0 y1 y2
  clear hhy
  go_wp2_with fail
  refine (HCB.out w1 HB1.out).mono ?_
  rintro r w2 ⟨rfl, hb⟩
  have HX2 := hide (HX1.out.below hb); have HB2 := hide (HB1.out.trans (hb.mono HB1.out.size))
  clear hb x0 x1 x2 y0 y1 y2
  cases cka with
  | false =>
    have HPOST : Hid (UPost a b [] 80) := hide (.inr ⟨.inl HKA.out, rfl, rfl⟩)
    go_wp2_with fail
    exact bodyPost_ret (v := .tuple #[.slice none 0 0, .int .i64 80]) (by simp only [results, Tryd.results25]; go_simp) rfl ⟨HB2.out, [], 80, _, rfl, FM.nil _, by simp, HPOST.out⟩
  | true =>
    cases ckb with
    | false =>
      have HPOST : Hid (UPost a b [] 80) := hide (.inr ⟨.inr HKB.out, rfl, rfl⟩)
      go_wp2_with fail
      exact bodyPost_ret (v := .tuple #[.slice none 0 0, .int .i64 80]) (by simp only [results, Tryd.results25]; go_simp) rfl ⟨HB2.out, [], 80, _, rfl, FM.nil _, by simp, HPOST.out⟩
    | true =>
      obtain ⟨oa1, _, oa3⟩ := (chk_iff a).1 HKA.out
      obtain ⟨ob1, _, ob3⟩ := (chk_iff b).1 HKB.out
      have hHp : ∀ n ∈ hls a ++ hls b, 0 ≤ n := fun n hn => by
        rcases List.mem_append.1 hn with h1 | h1
        · exact hls_pos a oa1 n h1
        · exact hls_pos b ob1 n h1
      have hHl : (hls a ++ hls b).length ≤ 4000 := by
        rw [List.length_append]
        have := hls_len a
        have := hls_len b
        omega
      have hone := rone_any (H := hls a ++ hls b) (by omega) _ _ [] hole id (fun _ => 0) (inv_nil hHp) a b (Nat.le_refl _) (Nat.le_refl _) (fun m hm => List.mem_append.2 (.inl hm)) (fun m hm => List.mem_append.2 (.inr hm)) oa1 ob1 w2 (.slice none 0 0) pa pb ca cb (FM.nil w2) (TyIn.keep (KP.of_below HB2.out fun x hx => hx) (fun x hx => Nat.lt_of_lt_of_le hx HB2.out.size) _ _ HTA.out) (TyIn.keep (KP.of_below HB2.out fun x hx => hx) (fun x hx => Nat.lt_of_lt_of_le hx HB2.out.size) _ _ HTB.out)
      have HONE := hide hone
      unfold cs3 at HONE
      clear hone
      have hhx := Bx.at HX2.out 1 rfl
      dsimp only at hhx
      have x0 := hhx.cell 0; have x1 := hhx.cell 1; have x2 := hhx.cell 2
      simp only [List.getElem?_toArray, List.getElem?_cons_succ, List.getElem?_cons_zero] at x0 x1 x2
      clear hhx
      have hhy := Bx.at HX2.out 0 rfl
      dsimp only at hhy
      have y0 := hhy.cell 0; have y1 := hhy.cell 1; have y2 := hhy.cell 2
      simp only [List.getElem?_toArray, List.getElem?_cons_succ, List.getElem?_cons_zero] at y0 y1 y2
      clear hhy
      go_wp2_with fail
      refine HONE.out.mono ?_
      rintro r w3 ⟨hb, v, hor⟩
      have HB3 := hide (HB2.out.trans (hb.mono HB2.out.size))
      clear hb x0 x1 x2 y0 y1 y2
      rcases hor with ⟨rfl, hnone⟩ | ⟨rfl, l, hT, hfm⟩
      · have HPOST : Hid (UPost a b [] 80) := hide (.inl ⟨HKA.out, HKB.out, .inr ⟨rfl, rfl, fun r hr => absurd hr (hnone r fun f hf => by cases hf)⟩⟩)
        clear hnone
        go_wp2_with fail
        exact bodyPost_ret (v := .tuple #[.slice none 0 0, .int .i64 80]) (by simp only [results, Tryd.results25]; go_simp) rfl ⟨HB3.out, [], 80, _, rfl, FM.nil _, by simp, HPOST.out⟩
      · obtain ⟨⟨s, e, p, h⟩, hsol, _, _⟩ := hT
        have HSOL : Hid (∀ r, Sol r l ↔ sub r a = sub r b) := hide fun r => by
          rw [hsol r]
          exact ⟨fun h1 => h1.2, fun h1 => ⟨fun f hf => (by cases hf), h1⟩⟩
        obtain ⟨pl, cl, rfl, hsl, hll⟩ := hfm
        have HLL := hide hll
        have hnl4 : l.length ≤ 4000 := by
          have h1 := nodup_len h.nd (H := hls a ++ hls b) (fun m hm => by obtain ⟨f, hf, rfl⟩ := List.mem_map.1 hm; exact (h.ok f hf).2.1)
          rw [List.length_map] at h1
          omega
        clear hsol hll hsl oa1 oa3 ob1 ob3 hHp hHl
        generalize hnl : l.length = nl at *
        have HNL := hide hnl
        clear hnl
        go_wp2_with fail
        go_loopg [10, 11, 13, 14, 15] nl (fun k0 s10 s11 s13 s14 s15 wr => ∃ (i : Nat) (po : Option Addr) (co : Nat) (o : List (Int × Ty)), i ≤ nl ∧ k0 = nl - i ∧ s11 = .int .i64 i ∧ s10 = .slice po o.length co ∧ (FM wr (.slice po o.length co) o ∧ LO l s i o ∧ Below w3.heap.size w3 wr ∧ (o = [] → po = none)))
        case atStart => exact ⟨0, none, 0, [], Nat.zero_le _, by omega, rfl, rfl, FM.nil _, ⟨by simp, by simp, by simp, rfl⟩, Below.refl _ _, fun _ => rfl⟩
        case round =>
          obtain ⟨i, po, co, o, hi1, rfl, rfl, rfl, hfm, hlo, hbr, hpo⟩ := hrel
          have HPO := hide hpo
          have HLO := hide hlo
          have HBR := hide hbr
          have HBW := hide (HB3.out.trans (hbr.mono HB3.out.size))
          have HFO := hide hfm
          have hnb : o.length ≤ 4000 := by have h9 := hlo.2.2.2; omega
          generalize hno : o.length = n at *
          have HNO := hide hno
          clear hfm hlo hbr hno hpo
          by_cases hlt : i < nl
          · have hil : i < l.length := by rw [HNL.out]; exact hlt
            have HLr : Hid (RM 4 (fun x => x < wr.heap.size) wr (FaIn (fun x => x < wr.heap.size) wr) pl l) := hide (RM.keep (KP.of_below HBR.out fun x hx => hx) (fun x hx => Nat.lt_of_lt_of_le hx HBR.out.size) (fun t ds h => FaIn.keep (KP.of_below HBR.out fun x hx => hx) (fun x hx => Nat.lt_of_lt_of_le hx HBR.out.size) t ds h) HLL.out)
            obtain ⟨b1, o1, z1, z2, hpl, hp1, hfb, hin1, a0, a1, a2, a3⟩ := fm_at HLr.out hil
            have hfi := List.getElem?_eq_getElem hil
            have hmem := List.getElem_mem hil
            have hfx := h.fixd _ hmem
            have hcall := rfull_any h (by rw [HNL.out]; omega) (P := fun x => x < wr.heap.size) (pl := pl) (cl := cl) 60 l[i].2 (w := wr) (pk := z1) (ck := z2) (lf := 2000) (fun x hx => hx) HLr.out hin1 (h.ok _ hmem).2.2 (h.ok _ hmem).1 (by omega) (by omega)
            have hpos := h.pos _ (h.ok _ hmem).2.1
            have hgr := fun (hx : ¬ (tdp (s l[i].1) ≤ 60 ∧ tsz (s l[i].1) ≤ 2000)) => told_great h HSOL.out hmem hx
            have hoks := h.okS hpos
            rw [← hfx] at hcall
            rw [HNL.out] at hcall
            subst hpl
            generalize l[i] = f at *
            generalize hT : s f.1 = T at *
            have HT := hide hT; have HC := hide hcall; have HFI := hide hfi; have HFB := hide hfb; have HGR := hide hgr; have HOKS := hide hoks
            have hii : (i : Int) < nl := by omega
            have c1 : wr.cell? ⟨b1, o1 + i * 4 + 1, none⟩ = some (.string (S f.2.nm)) := a1
            have c2 : wr.cell? ⟨b1, o1 + i * 4 + 1 + 1, none⟩ = some (.int .i64 f.2.n) := a2
            have c3 : wr.cell? ⟨b1, o1 + i * 4 + 1 + 2, none⟩ = some (.slice z1 f.2.ar.length z2) := a3
            have HCC0 := hide a0
            clear hcall hfi hfb hgr hoks hT hmem hfx hpos hin1 a0 a1 a2 a3
            unfold cs3 at HC
            go_wp2_with fail
            refine HC.out.mono ?_
            rintro r w4 ⟨hb4, hor⟩
            have HB4 := hide (HBR.out.trans (hb4.mono HBR.out.size))
            have HB4W := hide (HBW.out.trans (hb4.mono HBW.out.size))
            have HBX4 := hide hb4
            clear hb4 c1 c2 c3
            rcases hor with ⟨hd1, hz1, rk, rd, rfl, hink⟩ | ⟨hnf, rfl⟩
            · have HCT : Hid (chk (s f.1) = true) := hide (by rw [HT.out, chk_iff]; exact ⟨HOKS.out, hd1, hz1⟩)
              have hng : ¬ (2000 - ((tsz T : Nat) : Int) < 0) := by omega
              have HINK := hide hink
              clear hink
              unfold cs3
              have hX5 := Hold.new w4 #[.string (S T.nm), .int .i64 T.n, .slice rk T.ar.length rd] 24
              have hB5 : Below wr.heap.size wr (w4.alloc (.cells #[.string (S T.nm), .int .i64 T.n, .slice rk T.ar.length rd] 24)) := HBX4.out.alloc HBX4.out.size _
              have hlt5 : w4.heap.size < (w4.alloc (.cells #[.string (S T.nm), .int .i64 T.n, .slice rk T.ar.length rd] 24)).heap.size := by simp
              have hK45 : KP (fun b => b < w4.heap.size) w4 (w4.alloc (.cells #[.string (S T.nm), .int .i64 T.n, .slice rk T.ar.length rd] 24)) := KP.alloc w4 _ fun b hb => hb
              go_upto_region 13 with fail
              generalize (w4.alloc (.cells #[.string (S T.nm), .int .i64 T.n, .slice rk T.ar.length rd] 24)) = W1 at *
              have HTY1 : Hid (TyIn (fun x => x < W1.heap.size) W1 T [.string (S T.nm), .int .i64 T.n, .slice rk T.ar.length rd]) := hide (TyIn.keep (hK45.mono fun b hb => hb.2) (fun x hx => by have := hx.2; omega) _ _ HINK.out)
              generalize hn12 : w4.heap.size = n12 at *
              have HN12 := hide hX5
              have HB31 := hide (HBR.out.trans (hB5.mono HBR.out.size))
              have HB3W := hide (HBW.out.trans (hB5.mono HBW.out.size))
              have hfo := HFO.out.below hB5
              have HA0 : Hid (∀ W, Below W1.heap.size W1 W → W.cell? ⟨b1, o1 + i * 4, none⟩ = some (.int .i64 f.1)) := hide fun W hW => ((hB5.trans (hW.mono hB5.size)).cell (p := ⟨b1, o1 + i * 4, none⟩) hp1).trans HCC0.out
              obtain ⟨po', co', hv, hsl, hro⟩ := hfo
              rw [HNO.out] at hv hsl
              simp only [Value.slice.injEq, true_and] at hv
              obtain ⟨rfl, rfl⟩ := hv
              have HRO1 := hide hro
              have HSL0 := hide hsl.2.2
              have HCO := hide hsl.1
              have HPN : Hid (o = [] → po = none) := HPO
              clear hX5 hB5 hlt5 hK45 hro hsl hd1 hz1
              go_wp2_with fail
              go_loopg [14] n (fun kk s14 wr => ∃ k : Nat, k ≤ n ∧ kk = n - k ∧ s14 = .int .i64 k ∧ (∀ g ∈ o.take k, g.1 < f.1) ∧ Below W1.heap.size W1 wr)
              case atStart => exact ⟨0, Nat.zero_le _, by omega, rfl, by simp, Below.refl _ _⟩
              case round =>
                obtain ⟨k, hk1, rfl, rfl, hlow, hbk⟩ := hrel
                have HLOW := hide hlow; have HBK := hide hbk
                clear hlow hbk
                by_cases hkn : k < n
                · have hkl : k < o.length := by rw [HNO.out]; exact hkn
                  obtain ⟨bo, oo, zo, wo, hpo, hpb, _, _, g0, _⟩ := fm_at HRO1.out hkl
                  have hok := List.getElem?_eq_getElem hkl
                  have htk : o.take (k + 1) = o.take k ++ [o[k]] := List.take_succ_eq_append_getElem hkl
                  generalize hgk : o[k] = gk at *
                  have HOK := hide hok; have HTKK := hide htk
                  clear hok htk hgk
                  subst hpo
                  have hki : (k : Int) < n := by omega
                  have hSk : ∀ W, Below W1.heap.size W1 W → W.cell? ⟨bo, oo + k * 4, none⟩ = some (.int .i64 gk.1) ∧ W.cell? ⟨b1, o1 + i * 4, none⟩ = some (.int .i64 f.1) := fun W hW => ⟨(hW.cell (p := ⟨bo, oo + k * 4, none⟩) hpb).trans g0, HA0.out W hW⟩
                  have HSK := hide hSk
                  clear hSk g0
                  generalize hgg : gk.1 = gg at *
                  go_upto_region 16 with fail
                  refine wp_region_noPanic ?_
                  refine region_J 17 (N := 17) (S := (fun W' : World => W'.cell? ⟨bo, oo + k * 4, none⟩ = some (.int .i64 gg) ∧ W'.cell? ⟨b1, o1 + i * 4, none⟩ = some (.int .i64 f.1))) (by kernel_rfl) (by kernel_rfl) ?_
                  have hS : (fun W' : World => W'.cell? ⟨bo, oo + k * 4, none⟩ = some (.int .i64 gg) ∧ W'.cell? ⟨b1, o1 + i * 4, none⟩ = some (.int .i64 f.1)) wr.drew := HSK.out wr.drew (HBK.out.trans ((below_drew wr).mono HBK.out.size))
                  by_cases hlt2 : gg < f.1
                  · have hlow2 : ∀ g ∈ o.take (k + 1), g.1 < f.1 := fun g hg => by
                      rw [HTKK.out] at hg
                      rcases List.mem_append.1 hg with h1 | h1
                      · exact HLOW.out g h1
                      · rw [List.mem_singleton.1 h1, hgg]; exact hlt2
                    have HLOW2 := hide hlow2
                    clear hlow2
                    refine take_D (i := 0) 52 (.int .i64 k) rfl rfl (by kernel_rfl) (by kernel_rfl) (by kernel_rfl) (by kernel_rfl) (fun _ _ _ h => h) (Or.inl ⟨by rfl, fun W' hW => by obtain ⟨s0, s1⟩ := hW; go_simp⟩) hS ?_
                    simp only [Act.put, List.setIfInBounds_toArray, List.set_cons_zero, List.set_cons_succ]
                    refine take_D (i := 1) 53 (.slice (some ⟨bo, oo, none⟩) n co) rfl rfl (by kernel_rfl) (by kernel_rfl) (by kernel_rfl) (by kernel_rfl) (fun _ _ _ h => h) (Or.inl ⟨by rfl, fun W' hW => by obtain ⟨s0, s1⟩ := hW; go_simp⟩) hS ?_
                    simp only [Act.put, List.setIfInBounds_toArray, List.set_cons_zero, List.set_cons_succ]
                    refine take_D (i := 2) 54 (.int .i64 n) rfl rfl (by kernel_rfl) (by kernel_rfl) (by kernel_rfl) (by kernel_rfl) (fun _ _ _ h => h) (Or.inl ⟨by rfl, fun W' hW => by obtain ⟨s0, s1⟩ := hW; go_simp⟩) hS ?_
                    simp only [Act.put, List.setIfInBounds_toArray, List.set_cons_zero, List.set_cons_succ]
                    refine take_D (i := 3) 55 (.bool true) rfl rfl (by kernel_rfl) (by kernel_rfl) (by kernel_rfl) (by kernel_rfl) (fun _ _ _ h => h) (Or.inl ⟨by rfl, fun W' hW => by obtain ⟨s0, s1⟩ := hW; go_simp⟩) hS ?_
                    simp only [Act.put, List.setIfInBounds_toArray, List.set_cons_zero, List.set_cons_succ]
                    refine take_D (i := 4) 56 (.bool true) rfl rfl (by kernel_rfl) (by kernel_rfl) (by kernel_rfl) (by kernel_rfl) (fun _ _ _ h => h) (Or.inl ⟨by rfl, fun W' hW => by obtain ⟨s0, s1⟩ := hW; go_simp⟩) hS ?_
                    simp only [Act.put, List.setIfInBounds_toArray, List.set_cons_zero, List.set_cons_succ]
                    refine take_D (i := 5) 57 (.slice (some ⟨bo, oo, none⟩) n co) rfl rfl (by kernel_rfl) (by kernel_rfl) (by kernel_rfl) (by kernel_rfl) (fun _ _ _ h => h) (Or.inl ⟨by rfl, fun W' hW => by obtain ⟨s0, s1⟩ := hW; go_simp⟩) hS ?_
                    simp only [Act.put, List.setIfInBounds_toArray, List.set_cons_zero, List.set_cons_succ]
                    refine take_D (i := 6) 58 (.int .i64 k) rfl rfl (by kernel_rfl) (by kernel_rfl) (by kernel_rfl) (by kernel_rfl) (fun _ _ _ h => h) (Or.inl ⟨by rfl, fun W' hW => by obtain ⟨s0, s1⟩ := hW; go_simp⟩) hS ?_
                    simp only [Act.put, List.setIfInBounds_toArray, List.set_cons_zero, List.set_cons_succ]
                    refine take_D (i := 7) 59 (.pointer (some ⟨bo, oo + k * 4, none⟩)) rfl rfl (by kernel_rfl) (by kernel_rfl) (by kernel_rfl) (by kernel_rfl) (fun _ _ _ h => h) (Or.inl ⟨by rfl, fun W' hW => by obtain ⟨s0, s1⟩ := hW; go_simp⟩) hS ?_
                    simp only [Act.put, List.setIfInBounds_toArray, List.set_cons_zero, List.set_cons_succ]
                    refine take_D (i := 8) 60 (.pointer (some ⟨bo, oo + k * 4, none⟩)) rfl rfl (by kernel_rfl) (by kernel_rfl) (by kernel_rfl) (by kernel_rfl) (fun _ _ _ h => h) (Or.inl ⟨by rfl, fun W' hW => by obtain ⟨s0, s1⟩ := hW; go_simp⟩) hS ?_
                    simp only [Act.put, List.setIfInBounds_toArray, List.set_cons_zero, List.set_cons_succ]
                    refine take_D (i := 9) 61 (.int .i64 gg) rfl rfl (by kernel_rfl) (by kernel_rfl) (by kernel_rfl) (by kernel_rfl) (fun _ _ _ h => h) (Or.inl ⟨by rfl, fun W' hW => by obtain ⟨s0, s1⟩ := hW; go_simp⟩) hS ?_
                    simp only [Act.put, List.setIfInBounds_toArray, List.set_cons_zero, List.set_cons_succ]
                    refine take_D (i := 10) 62 (.slice (some ⟨b1, o1, none⟩) nl cl) rfl rfl (by kernel_rfl) (by kernel_rfl) (by kernel_rfl) (by kernel_rfl) (fun _ _ _ h => h) (Or.inl ⟨by rfl, fun W' hW => by obtain ⟨s0, s1⟩ := hW; go_simp⟩) hS ?_
                    simp only [Act.put, List.setIfInBounds_toArray, List.set_cons_zero, List.set_cons_succ]
                    refine take_D (i := 11) 63 (.int .i64 i) rfl rfl (by kernel_rfl) (by kernel_rfl) (by kernel_rfl) (by kernel_rfl) (fun _ _ _ h => h) (Or.inl ⟨by rfl, fun W' hW => by obtain ⟨s0, s1⟩ := hW; go_simp⟩) hS ?_
                    simp only [Act.put, List.setIfInBounds_toArray, List.set_cons_zero, List.set_cons_succ]
                    refine take_D (i := 12) 64 (.pointer (some ⟨b1, o1 + i * 4, none⟩)) rfl rfl (by kernel_rfl) (by kernel_rfl) (by kernel_rfl) (by kernel_rfl) (fun _ _ _ h => h) (Or.inl ⟨by rfl, fun W' hW => by obtain ⟨s0, s1⟩ := hW; go_simp⟩) hS ?_
                    simp only [Act.put, List.setIfInBounds_toArray, List.set_cons_zero, List.set_cons_succ]
                    refine take_D (i := 13) 65 (.pointer (some ⟨b1, o1 + i * 4, none⟩)) rfl rfl (by kernel_rfl) (by kernel_rfl) (by kernel_rfl) (by kernel_rfl) (fun _ _ _ h => h) (Or.inl ⟨by rfl, fun W' hW => by obtain ⟨s0, s1⟩ := hW; go_simp⟩) hS ?_
                    simp only [Act.put, List.setIfInBounds_toArray, List.set_cons_zero, List.set_cons_succ]
                    refine take_D (i := 14) 66 (.int .i64 f.1) rfl rfl (by kernel_rfl) (by kernel_rfl) (by kernel_rfl) (by kernel_rfl) (fun _ _ _ h => h) (Or.inl ⟨by rfl, fun W' hW => by obtain ⟨s0, s1⟩ := hW; go_simp⟩) hS ?_
                    simp only [Act.put, List.setIfInBounds_toArray, List.set_cons_zero, List.set_cons_succ]
                    refine take_D (i := 15) 67 (.bool true) rfl rfl (by kernel_rfl) (by kernel_rfl) (by kernel_rfl) (by kernel_rfl) (fun _ _ _ h => h) (Or.inl ⟨by rfl, fun W' hW => by obtain ⟨s0, s1⟩ := hW; go_simp⟩) hS ?_
                    simp only [Act.put, List.setIfInBounds_toArray, List.set_cons_zero, List.set_cons_succ]
                    refine take_D (i := 16) 68 (.bool true) rfl rfl (by kernel_rfl) (by kernel_rfl) (by kernel_rfl) (by kernel_rfl) (fun _ _ _ h => h) (Or.inl ⟨by rfl, fun W' hW => by obtain ⟨s0, s1⟩ := hW; go_simp⟩) hS ?_
                    simp only [Act.put, List.setIfInBounds_toArray, List.set_cons_zero, List.set_cons_succ]
                    refine done_J (by kernel_rfl) ?_ _
                    refine NoPanic.normal ?_
                    clear hS
                    have HBD : Hid (Below W1.heap.size W1 wr.drew) := hide (HBK.out.trans ((below_drew wr).mono HBK.out.size))
                    generalize wr.drew = wd at *
                    go_wp2_with fail
                    go_roundg (n - (k + 1))
                    case measure => omega
                    case rel => exact ⟨k + 1, by omega, rfl, by go_num, HLOW2.out, HBD.out⟩
                  · have HLO2 : Hid (LO l s (i + 1) (o.take k ++ [(f.1, T)] ++ o.drop k)) := hide (by
                      rw [← HT.out]
                      exact HLO.out.step h.nd HFI.out (by rw [HNO.out]; omega) HLOW.out (fun g hg => by rw [HOK.out] at hg; cases hg; rw [hgg]; exact hlt2) HCT.out)
                    refine take_D (i := 0) 52 (.int .i64 k) rfl rfl (by kernel_rfl) (by kernel_rfl) (by kernel_rfl) (by kernel_rfl) (fun _ _ _ h => h) (Or.inl ⟨by rfl, fun W' hW => by obtain ⟨s0, s1⟩ := hW; go_simp⟩) hS ?_
                    simp only [Act.put, List.setIfInBounds_toArray, List.set_cons_zero, List.set_cons_succ]
                    refine take_D (i := 1) 53 (.slice (some ⟨bo, oo, none⟩) n co) rfl rfl (by kernel_rfl) (by kernel_rfl) (by kernel_rfl) (by kernel_rfl) (fun _ _ _ h => h) (Or.inl ⟨by rfl, fun W' hW => by obtain ⟨s0, s1⟩ := hW; go_simp⟩) hS ?_
                    simp only [Act.put, List.setIfInBounds_toArray, List.set_cons_zero, List.set_cons_succ]
                    refine take_D (i := 2) 54 (.int .i64 n) rfl rfl (by kernel_rfl) (by kernel_rfl) (by kernel_rfl) (by kernel_rfl) (fun _ _ _ h => h) (Or.inl ⟨by rfl, fun W' hW => by obtain ⟨s0, s1⟩ := hW; go_simp⟩) hS ?_
                    simp only [Act.put, List.setIfInBounds_toArray, List.set_cons_zero, List.set_cons_succ]
                    refine take_D (i := 3) 55 (.bool true) rfl rfl (by kernel_rfl) (by kernel_rfl) (by kernel_rfl) (by kernel_rfl) (fun _ _ _ h => h) (Or.inl ⟨by rfl, fun W' hW => by obtain ⟨s0, s1⟩ := hW; go_simp⟩) hS ?_
                    simp only [Act.put, List.setIfInBounds_toArray, List.set_cons_zero, List.set_cons_succ]
                    refine take_D (i := 4) 56 (.bool true) rfl rfl (by kernel_rfl) (by kernel_rfl) (by kernel_rfl) (by kernel_rfl) (fun _ _ _ h => h) (Or.inl ⟨by rfl, fun W' hW => by obtain ⟨s0, s1⟩ := hW; go_simp⟩) hS ?_
                    simp only [Act.put, List.setIfInBounds_toArray, List.set_cons_zero, List.set_cons_succ]
                    refine take_D (i := 5) 57 (.slice (some ⟨bo, oo, none⟩) n co) rfl rfl (by kernel_rfl) (by kernel_rfl) (by kernel_rfl) (by kernel_rfl) (fun _ _ _ h => h) (Or.inl ⟨by rfl, fun W' hW => by obtain ⟨s0, s1⟩ := hW; go_simp⟩) hS ?_
                    simp only [Act.put, List.setIfInBounds_toArray, List.set_cons_zero, List.set_cons_succ]
                    refine take_D (i := 6) 58 (.int .i64 k) rfl rfl (by kernel_rfl) (by kernel_rfl) (by kernel_rfl) (by kernel_rfl) (fun _ _ _ h => h) (Or.inl ⟨by rfl, fun W' hW => by obtain ⟨s0, s1⟩ := hW; go_simp⟩) hS ?_
                    simp only [Act.put, List.setIfInBounds_toArray, List.set_cons_zero, List.set_cons_succ]
                    refine take_D (i := 7) 59 (.pointer (some ⟨bo, oo + k * 4, none⟩)) rfl rfl (by kernel_rfl) (by kernel_rfl) (by kernel_rfl) (by kernel_rfl) (fun _ _ _ h => h) (Or.inl ⟨by rfl, fun W' hW => by obtain ⟨s0, s1⟩ := hW; go_simp⟩) hS ?_
                    simp only [Act.put, List.setIfInBounds_toArray, List.set_cons_zero, List.set_cons_succ]
                    refine take_D (i := 8) 60 (.pointer (some ⟨bo, oo + k * 4, none⟩)) rfl rfl (by kernel_rfl) (by kernel_rfl) (by kernel_rfl) (by kernel_rfl) (fun _ _ _ h => h) (Or.inl ⟨by rfl, fun W' hW => by obtain ⟨s0, s1⟩ := hW; go_simp⟩) hS ?_
                    simp only [Act.put, List.setIfInBounds_toArray, List.set_cons_zero, List.set_cons_succ]
                    refine take_D (i := 9) 61 (.int .i64 gg) rfl rfl (by kernel_rfl) (by kernel_rfl) (by kernel_rfl) (by kernel_rfl) (fun _ _ _ h => h) (Or.inl ⟨by rfl, fun W' hW => by obtain ⟨s0, s1⟩ := hW; go_simp⟩) hS ?_
                    simp only [Act.put, List.setIfInBounds_toArray, List.set_cons_zero, List.set_cons_succ]
                    refine take_D (i := 10) 62 (.slice (some ⟨b1, o1, none⟩) nl cl) rfl rfl (by kernel_rfl) (by kernel_rfl) (by kernel_rfl) (by kernel_rfl) (fun _ _ _ h => h) (Or.inl ⟨by rfl, fun W' hW => by obtain ⟨s0, s1⟩ := hW; go_simp⟩) hS ?_
                    simp only [Act.put, List.setIfInBounds_toArray, List.set_cons_zero, List.set_cons_succ]
                    refine take_D (i := 11) 63 (.int .i64 i) rfl rfl (by kernel_rfl) (by kernel_rfl) (by kernel_rfl) (by kernel_rfl) (fun _ _ _ h => h) (Or.inl ⟨by rfl, fun W' hW => by obtain ⟨s0, s1⟩ := hW; go_simp⟩) hS ?_
                    simp only [Act.put, List.setIfInBounds_toArray, List.set_cons_zero, List.set_cons_succ]
                    refine take_D (i := 12) 64 (.pointer (some ⟨b1, o1 + i * 4, none⟩)) rfl rfl (by kernel_rfl) (by kernel_rfl) (by kernel_rfl) (by kernel_rfl) (fun _ _ _ h => h) (Or.inl ⟨by rfl, fun W' hW => by obtain ⟨s0, s1⟩ := hW; go_simp⟩) hS ?_
                    simp only [Act.put, List.setIfInBounds_toArray, List.set_cons_zero, List.set_cons_succ]
                    refine take_D (i := 13) 65 (.pointer (some ⟨b1, o1 + i * 4, none⟩)) rfl rfl (by kernel_rfl) (by kernel_rfl) (by kernel_rfl) (by kernel_rfl) (fun _ _ _ h => h) (Or.inl ⟨by rfl, fun W' hW => by obtain ⟨s0, s1⟩ := hW; go_simp⟩) hS ?_
                    simp only [Act.put, List.setIfInBounds_toArray, List.set_cons_zero, List.set_cons_succ]
                    refine take_D (i := 14) 66 (.int .i64 f.1) rfl rfl (by kernel_rfl) (by kernel_rfl) (by kernel_rfl) (by kernel_rfl) (fun _ _ _ h => h) (Or.inl ⟨by rfl, fun W' hW => by obtain ⟨s0, s1⟩ := hW; go_simp⟩) hS ?_
                    simp only [Act.put, List.setIfInBounds_toArray, List.set_cons_zero, List.set_cons_succ]
                    refine take_D (i := 15) 67 (.bool false) rfl rfl (by kernel_rfl) (by kernel_rfl) (by kernel_rfl) (by kernel_rfl) (fun _ _ _ h => h) (Or.inl ⟨by rfl, fun W' hW => by obtain ⟨s0, s1⟩ := hW; go_simp⟩) hS ?_
                    simp only [Act.put, List.setIfInBounds_toArray, List.set_cons_zero, List.set_cons_succ]
                    refine take_D (i := 16) 68 (.bool false) rfl rfl (by kernel_rfl) (by kernel_rfl) (by kernel_rfl) (by kernel_rfl) (fun _ _ _ h => h) (Or.inl ⟨by rfl, fun W' hW => by obtain ⟨s0, s1⟩ := hW; go_simp⟩) hS ?_
                    simp only [Act.put, List.setIfInBounds_toArray, List.set_cons_zero, List.set_cons_succ]
                    refine done_J (by kernel_rfl) ?_ _
                    refine NoPanic.normal ?_
                    clear hS
                    have HBD : Hid (Below W1.heap.size W1 wr.drew) := hide (HBK.out.trans ((below_drew wr).mono HBK.out.size))
                    generalize wr.drew = wd at *
                    have HXW := hide (HB3W.out.trans (HBD.out.mono HB3W.out.size))
                    have HB3D := hide (HB31.out.trans (HBD.out.mono HB31.out.size))
                    have HRO := hide (RM.keep (KP.of_below HBD.out fun x hx => hx) (fun x hx => Nat.lt_of_lt_of_le hx HBD.out.size) (fun t ds h => FaIn.keep (KP.of_below HBD.out fun x hx => hx) (fun x hx => Nat.lt_of_lt_of_le hx HBD.out.size) t ds h) HRO1.out : RM 4 (fun x => x < wd.heap.size) wd (FaIn (fun x => x < wd.heap.size) wd) _ o)
                    have HTKL : Hid ((o.take k).length = k) := hide (by rw [List.length_take, HNO.out]; omega)
                    have HSF : Hid (∀ W, Below wd.heap.size wd W → (fun W' : World => W'.cell? ⟨b1, o1 + i * 4, none⟩ = some (.int .i64 f.1) ∧ W'.cell? ⟨n12, 0, none⟩ = some (.string (S T.nm)) ∧ W'.cell? ⟨n12, 1, none⟩ = some (.int .i64 T.n) ∧ W'.cell? ⟨n12, 2, none⟩ = some (.slice rk T.ar.length rd)) W) := hide fun W hW => by
                      have hW1 : Below W1.heap.size W1 W := HBD.out.trans (hW.mono HBD.out.size)
                      have hh := HN12.out.below hW1 HN12.out.lt
                      exact ⟨HA0.out W hW1, hh.cell 0, hh.cell 1, hh.cell 2⟩
                    have HTY : Hid (∀ W, Below wd.heap.size wd W → TyIn (fun x => x < wd.heap.size) W T [.string (S T.nm), .int .i64 T.n, .slice rk T.ar.length rd]) := hide fun W hW => TyIn.keep (KP.of_below (HBD.out.trans (hW.mono HBD.out.size)) fun x hx => hx) (fun x hx => Nat.lt_of_lt_of_le hx HBD.out.size) _ _ HTY1.out
                    obtain ⟨n1, hn1⟩ : ∃ n1 : Nat, n1 = n + 1 := ⟨_, rfl⟩
                    have HN1 := hide hn1
                    have hkco : k ≤ co := Nat.le_trans (by omega) HCO.out
                    have hcne : ¬ co = k := by have := HCO.out; omega
                    have hra := RowO.new (fun x => x < wd.heap.size) wd.heap.size wd (Nat.le_refl _)
                    have HXA : Hid (Below wd.heap.size wd (wd.alloc (.cells #[] 34))) := hide ((Below.refl _ _).alloc (Nat.le_refl _) _)
                    have HRA := hide hra
                    clear hra
                    go_upto_region 18 with fail
                    go_wp2_with (first
                      | (at_builtin; refine wpList_spreadF (P := (fun x => x < wd.heap.size)) (Q := (fun x => x < wd.heap.size)) rfl _ _ rfl (base := wd.heap.size) (lo := []) (n := 0) (m := k) rfl rfl HRA.out (l := o.take k) rfl HTKL.out (RM.keep (KP.of_below (P := (fun x => x < wd.heap.size)) HXA.out fun x hx => hx) (fun x hx => hx) (fun t ds h => FaIn.keep (KP.of_below (P := (fun x => x < wd.heap.size)) HXA.out fun x hx => hx) (fun x hx => hx) t ds h) (RM.take HRO.out k)) (fun h => by cases h) (by omega) HXA.out.size (fun x hx => hx) ?_; intro p2 c2 w6 hr6 hbel6 _; rw [List.nil_append, Nat.zero_add] at hr6; rw [Nat.zero_add]
                         have HR6 := hide hr6
                         have HB6 : Hid (Below wd.heap.size wd w6) := hide (HXA.out.trans hbel6)
                         clear hr6 hbel6
                         go_frame)
                      | fail)
                    go_upto_region 19 with fail
                    refine wp_region_noPanic ?_
                    refine region_J 11 (N := 11) (S := (fun W' : World => W'.cell? ⟨b1, o1 + i * 4, none⟩ = some (.int .i64 f.1) ∧ W'.cell? ⟨n12, 0, none⟩ = some (.string (S T.nm)) ∧ W'.cell? ⟨n12, 1, none⟩ = some (.int .i64 T.n) ∧ W'.cell? ⟨n12, 2, none⟩ = some (.slice rk T.ar.length rd))) (by kernel_rfl) (by kernel_rfl) ?_
                    have HB7 : Hid (Below wd.heap.size wd w6.drew) := hide (HB6.out.trans ((below_drew w6).mono HB6.out.size))
                    have hS : (fun W' : World => W'.cell? ⟨b1, o1 + i * 4, none⟩ = some (.int .i64 f.1) ∧ W'.cell? ⟨n12, 0, none⟩ = some (.string (S T.nm)) ∧ W'.cell? ⟨n12, 1, none⟩ = some (.int .i64 T.n) ∧ W'.cell? ⟨n12, 2, none⟩ = some (.slice rk T.ar.length rd)) w6.drew := HSF.out w6.drew HB7.out
                    have HR7 := hide (RowO.keep (fun x hx => Nat.lt_of_lt_of_le hx HB6.out.size) HR6.out (below_drew w6))
                    generalize w6.drew = w7 at *
                    refine take_D (i := 0) 76 (.slice p2 k c2) rfl rfl (by kernel_rfl) (by kernel_rfl) (by kernel_rfl) (by kernel_rfl) (fun _ _ _ h => h) (Or.inl ⟨by rfl, fun W' hW => by obtain ⟨s0, s1, s2, s3⟩ := hW; go_simp⟩) hS ?_
                    simp only [Act.put, List.setIfInBounds_toArray, List.set_cons_zero, List.set_cons_succ]
                    refine take_D (i := 1) 77 (.slice (some ⟨b1, o1, none⟩) nl cl) rfl rfl (by kernel_rfl) (by kernel_rfl) (by kernel_rfl) (by kernel_rfl) (fun _ _ _ h => h) (Or.inl ⟨by rfl, fun W' hW => by obtain ⟨s0, s1, s2, s3⟩ := hW; go_simp⟩) hS ?_
                    simp only [Act.put, List.setIfInBounds_toArray, List.set_cons_zero, List.set_cons_succ]
                    refine take_D (i := 2) 78 (.int .i64 i) rfl rfl (by kernel_rfl) (by kernel_rfl) (by kernel_rfl) (by kernel_rfl) (fun _ _ _ h => h) (Or.inl ⟨by rfl, fun W' hW => by obtain ⟨s0, s1, s2, s3⟩ := hW; go_simp⟩) hS ?_
                    simp only [Act.put, List.setIfInBounds_toArray, List.set_cons_zero, List.set_cons_succ]
                    refine take_D (i := 3) 79 (.pointer (some ⟨b1, o1 + i * 4, none⟩)) rfl rfl (by kernel_rfl) (by kernel_rfl) (by kernel_rfl) (by kernel_rfl) (fun _ _ _ h => h) (Or.inl ⟨by rfl, fun W' hW => by obtain ⟨s0, s1, s2, s3⟩ := hW; go_simp⟩) hS ?_
                    simp only [Act.put, List.setIfInBounds_toArray, List.set_cons_zero, List.set_cons_succ]
                    refine take_D (i := 4) 80 (.pointer (some ⟨b1, o1 + i * 4, none⟩)) rfl rfl (by kernel_rfl) (by kernel_rfl) (by kernel_rfl) (by kernel_rfl) (fun _ _ _ h => h) (Or.inl ⟨by rfl, fun W' hW => by obtain ⟨s0, s1, s2, s3⟩ := hW; go_simp⟩) hS ?_
                    simp only [Act.put, List.setIfInBounds_toArray, List.set_cons_zero, List.set_cons_succ]
                    refine take_D (i := 5) 81 (.int .i64 f.1) rfl rfl (by kernel_rfl) (by kernel_rfl) (by kernel_rfl) (by kernel_rfl) (fun _ _ _ h => h) (Or.inl ⟨by rfl, fun W' hW => by obtain ⟨s0, s1, s2, s3⟩ := hW; go_simp⟩) hS ?_
                    simp only [Act.put, List.setIfInBounds_toArray, List.set_cons_zero, List.set_cons_succ]
                    refine take_D (i := 6) 82 (.agg #[.string (S T.nm), .int .i64 T.n, .slice rk T.ar.length rd]) rfl rfl (by kernel_rfl) (by kernel_rfl) (by kernel_rfl) (by kernel_rfl) (fun _ _ _ h => h) (Or.inl ⟨by rfl, fun W' hW => by obtain ⟨s0, s1, s2, s3⟩ := hW; go_simp⟩) hS ?_
                    simp only [Act.put, List.setIfInBounds_toArray, List.set_cons_zero, List.set_cons_succ]
                    refine take_D (i := 7) 83 (.agg #[.int .i64 f.1, .string (S T.nm), .int .i64 T.n, .slice rk T.ar.length rd]) rfl rfl (by kernel_rfl) (by kernel_rfl) (by kernel_rfl) (by kernel_rfl) (fun _ _ _ h => h) (Or.inl ⟨by rfl, fun W' hW => by obtain ⟨s0, s1, s2, s3⟩ := hW; go_simp⟩) hS ?_
                    simp only [Act.put, List.setIfInBounds_toArray, List.set_cons_zero, List.set_cons_succ]
                    refine ready_J (rs := [8]) (by kernel_rfl) (by simp) ?_
                    intro jj hjj
                    obtain rfl := List.mem_singleton.1 hjj
                    clear hjj
                    refine op_J rfl rfl fun K' hK => ?_
                    go_simp
                    have HF8 := hide (rm_new (P := (fun x => x < wd.heap.size)) w7 (f.1, T) HFB.out (HTY.out w7 HB7.out) (fun x hx => Nat.lt_of_lt_of_le hx HB7.out.size))
                    have HB8 : Hid (Below wd.heap.size wd (w7.alloc (.cells #[.int .i64 f.1, .string (S T.nm), .int .i64 T.n, .slice rk T.ar.length rd] 34))) := hide (HB7.out.alloc HB7.out.size _)
                    have HR8 := hide (RowO.keep (fun x hx => Nat.lt_of_lt_of_le hx HB7.out.size) HR7.out ((Below.refl _ w7).alloc (Nat.le_refl _) (.cells #[.int .i64 f.1, .string (S T.nm), .int .i64 T.n, .slice rk T.ar.length rd] 34)))
                    clear hS
                    have hS := HSF.out (w7.alloc (.cells #[.int .i64 f.1, .string (S T.nm), .int .i64 T.n, .slice rk T.ar.length rd] 34)) HB8.out
                    refine hK _ _ ⟨fun _ => hS, ?_⟩
                    clear hK K'
                    generalize (w7.alloc (.cells #[.int .i64 f.1, .string (S T.nm), .int .i64 T.n, .slice rk T.ar.length rd] 34)) = w8 at *
                    refine ready_J (rs := [9]) (by kernel_rfl) (by simp) ?_
                    intro jj hjj
                    obtain rfl := List.mem_singleton.1 hjj
                    clear hjj
                    refine op_J rfl rfl fun K' hK => ?_
                    refine wp_spreadF (P := (fun x => x < wd.heap.size)) (Q := fun x => x = w7.heap.size) _ _ rfl (base := wd.heap.size) (lo := o.take k) (n := k) (m := 1) rfl HTKL.out HR8.out (l := [(f.1, T)]) rfl rfl HF8.out (fun h => by cases h) (by omega) HB8.out.size (fun x hx => hx) ?_
                    intro p9 c9 w9 hr9 hbel9 _
                    have HR9 := hide hr9
                    have HB9 : Hid (Below wd.heap.size wd w9) := hide (HB8.out.trans hbel9)
                    clear hS hr9 hbel9
                    have hS := HSF.out w9 HB9.out
                    refine hK _ _ ⟨fun _ => hS, ?_⟩
                    clear hK K'
                    refine take_D (i := 10) 15 (.slice p9 (k + 1) c9) rfl rfl (by kernel_rfl) (by kernel_rfl) (by kernel_rfl) (by kernel_rfl) (fun _ _ _ h => h) (Or.inl ⟨by rfl, fun W' hW => by obtain ⟨s0, s1, s2, s3⟩ := hW; go_simp⟩) hS ?_
                    simp only [Act.put, List.setIfInBounds_toArray, List.set_cons_zero, List.set_cons_succ]
                    refine done_J (by kernel_rfl) ?_ _
                    refine NoPanic.normal ?_
                    clear hS
                    have HXB := HB9
                    go_wp2_with (first
                      | (at_builtin; refine wpList_spreadF (P := (fun x => x < wd.heap.size)) (Q := (fun x => x < wd.heap.size)) rfl _ _ rfl (base := wd.heap.size) (lo := o.take k ++ [(f.1, T)]) (n := k + 1) (m := n - k) rfl (by rw [List.length_append, HTKL.out]; rfl) HR9.out (l := o.drop k) rfl (by rw [List.length_drop, HNO.out]) (RM.keep (KP.of_below (P := (fun x => x < wd.heap.size)) HXB.out fun x hx => hx) (fun x hx => hx) (fun t ds h => FaIn.keep (KP.of_below (P := (fun x => x < wd.heap.size)) HXB.out fun x hx => hx) (fun x hx => hx) t ds h) (RM.drop HRO.out k)) (fun h => by cases h) (by omega) HB9.out.size (fun x hx => hx) ?_; intro pz cz wz hrz hbelz _
                         have HRZ := hide hrz
                         have HBZ : Hid (Below wd.heap.size wd wz) := hide (HB9.out.trans hbelz)
                         clear hrz hbelz
                         go_frame)
                      | fail)
                    have hzl : k + 1 + (n - k) = n1 := by omega
                    rw [hzl] at HRZ ⊢
                    go_roundg (nl - (i + 1))
                    case measure => omega
                    case rel =>
                      refine ⟨i + 1, pz, cz, o.take k ++ [(f.1, T)] ++ o.drop k, by omega, rfl, by go_num, ?_, ?_⟩
                      · rw [ins_len (by rw [HNO.out]; omega), HNO.out]
                        show (Value.slice pz n1 cz) = _
                        rw [HN1.out]
                      · exact ⟨by rw [ins_len (by rw [HNO.out]; omega), HNO.out, ← HN1.out]; exact FM.row HRZ.out (by rw [ins_len (by rw [HNO.out]; omega), HNO.out, HN1.out]) (fun x hx => Nat.lt_of_lt_of_le hx HBZ.out.size), HLO2.out, HB3D.out.trans (HBZ.out.mono HB3D.out.size), fun h9 => by simp at h9⟩
                · obtain rfl : n = k := by omega
                  have HLO2 : Hid (LO l s (i + 1) (o.take n ++ [(f.1, T)] ++ o.drop n)) := hide (by
                    rw [← HT.out]
                    exact HLO.out.step h.nd HFI.out (by rw [HNO.out]; omega) HLOW.out (fun g hg => by rw [List.getElem?_eq_none (by rw [HNO.out]; omega)] at hg; cases hg) HCT.out)
                  have hki : ¬ (n : Int) < n := by omega
                  go_upto_region 16 with fail
                  refine wp_region_noPanic ?_
                  refine region_J 17 (N := 17) (S := fun _ => True) (by kernel_rfl) (by kernel_rfl) ?_
                  have hS : (fun _ : World => True) wr.drew := trivial
                  refine take_D (i := 0) 52 (.int .i64 n) rfl rfl (by kernel_rfl) (by kernel_rfl) (by kernel_rfl) (by kernel_rfl) (fun _ _ _ h => h) (Or.inl ⟨by rfl, fun W' hW => by go_simp⟩) hS ?_
                  simp only [Act.put, List.setIfInBounds_toArray, List.set_cons_zero, List.set_cons_succ]
                  refine take_D (i := 1) 53 (.slice po n co) rfl rfl (by kernel_rfl) (by kernel_rfl) (by kernel_rfl) (by kernel_rfl) (fun _ _ _ h => h) (Or.inl ⟨by rfl, fun W' hW => by go_simp⟩) hS ?_
                  simp only [Act.put, List.setIfInBounds_toArray, List.set_cons_zero, List.set_cons_succ]
                  refine take_D (i := 2) 54 (.int .i64 n) rfl rfl (by kernel_rfl) (by kernel_rfl) (by kernel_rfl) (by kernel_rfl) (fun _ _ _ h => h) (Or.inl ⟨by rfl, fun W' hW => by go_simp⟩) hS ?_
                  simp only [Act.put, List.setIfInBounds_toArray, List.set_cons_zero, List.set_cons_succ]
                  refine take_D (i := 3) 55 (.bool false) rfl rfl (by kernel_rfl) (by kernel_rfl) (by kernel_rfl) (by kernel_rfl) (fun _ _ _ h => h) (Or.inl ⟨by rfl, fun W' hW => by go_simp⟩) hS ?_
                  simp only [Act.put, List.setIfInBounds_toArray, List.set_cons_zero, List.set_cons_succ]
                  refine take_D (i := 4) 56 (.bool false) rfl rfl (by kernel_rfl) (by kernel_rfl) (by kernel_rfl) (by kernel_rfl) (fun _ _ _ h => h) (Or.inl ⟨by rfl, fun W' hW => by go_simp⟩) hS ?_
                  simp only [Act.put, List.setIfInBounds_toArray, List.set_cons_zero, List.set_cons_succ]
                  refine take_D (i := 5) 57 (undef) rfl rfl (by kernel_rfl) (by kernel_rfl) (by kernel_rfl) (by kernel_rfl) (fun _ _ _ h => h) (Or.inr ⟨by rfl, rfl⟩) hS ?_
                  simp only [Act.put, List.setIfInBounds_toArray, List.set_cons_zero, List.set_cons_succ]
                  refine take_D (i := 6) 58 (undef) rfl rfl (by kernel_rfl) (by kernel_rfl) (by kernel_rfl) (by kernel_rfl) (fun _ _ _ h => h) (Or.inr ⟨by rfl, rfl⟩) hS ?_
                  simp only [Act.put, List.setIfInBounds_toArray, List.set_cons_zero, List.set_cons_succ]
                  refine take_D (i := 7) 59 (undef) rfl rfl (by kernel_rfl) (by kernel_rfl) (by kernel_rfl) (by kernel_rfl) (fun _ _ _ h => h) (Or.inr ⟨by rfl, rfl⟩) hS ?_
                  simp only [Act.put, List.setIfInBounds_toArray, List.set_cons_zero, List.set_cons_succ]
                  refine take_D (i := 8) 60 (undef) rfl rfl (by kernel_rfl) (by kernel_rfl) (by kernel_rfl) (by kernel_rfl) (fun _ _ _ h => h) (Or.inr ⟨by rfl, rfl⟩) hS ?_
                  simp only [Act.put, List.setIfInBounds_toArray, List.set_cons_zero, List.set_cons_succ]
                  refine take_D (i := 9) 61 (undef) rfl rfl (by kernel_rfl) (by kernel_rfl) (by kernel_rfl) (by kernel_rfl) (fun _ _ _ h => h) (Or.inr ⟨by rfl, rfl⟩) hS ?_
                  simp only [Act.put, List.setIfInBounds_toArray, List.set_cons_zero, List.set_cons_succ]
                  refine take_D (i := 10) 62 (undef) rfl rfl (by kernel_rfl) (by kernel_rfl) (by kernel_rfl) (by kernel_rfl) (fun _ _ _ h => h) (Or.inr ⟨by rfl, rfl⟩) hS ?_
                  simp only [Act.put, List.setIfInBounds_toArray, List.set_cons_zero, List.set_cons_succ]
                  refine take_D (i := 11) 63 (undef) rfl rfl (by kernel_rfl) (by kernel_rfl) (by kernel_rfl) (by kernel_rfl) (fun _ _ _ h => h) (Or.inr ⟨by rfl, rfl⟩) hS ?_
                  simp only [Act.put, List.setIfInBounds_toArray, List.set_cons_zero, List.set_cons_succ]
                  refine take_D (i := 12) 64 (undef) rfl rfl (by kernel_rfl) (by kernel_rfl) (by kernel_rfl) (by kernel_rfl) (fun _ _ _ h => h) (Or.inr ⟨by rfl, rfl⟩) hS ?_
                  simp only [Act.put, List.setIfInBounds_toArray, List.set_cons_zero, List.set_cons_succ]
                  refine take_D (i := 13) 65 (undef) rfl rfl (by kernel_rfl) (by kernel_rfl) (by kernel_rfl) (by kernel_rfl) (fun _ _ _ h => h) (Or.inr ⟨by rfl, rfl⟩) hS ?_
                  simp only [Act.put, List.setIfInBounds_toArray, List.set_cons_zero, List.set_cons_succ]
                  refine take_D (i := 14) 66 (undef) rfl rfl (by kernel_rfl) (by kernel_rfl) (by kernel_rfl) (by kernel_rfl) (fun _ _ _ h => h) (Or.inr ⟨by rfl, rfl⟩) hS ?_
                  simp only [Act.put, List.setIfInBounds_toArray, List.set_cons_zero, List.set_cons_succ]
                  refine take_D (i := 15) 67 (undef) rfl rfl (by kernel_rfl) (by kernel_rfl) (by kernel_rfl) (by kernel_rfl) (fun _ _ _ h => h) (Or.inr ⟨by rfl, rfl⟩) hS ?_
                  simp only [Act.put, List.setIfInBounds_toArray, List.set_cons_zero, List.set_cons_succ]
                  refine take_D (i := 16) 68 (.bool false) rfl rfl (by kernel_rfl) (by kernel_rfl) (by kernel_rfl) (by kernel_rfl) (fun _ _ _ h => h) (Or.inl ⟨by rfl, fun W' hW => by go_simp⟩) hS ?_
                  simp only [Act.put, List.setIfInBounds_toArray, List.set_cons_zero, List.set_cons_succ]
                  refine done_J (by kernel_rfl) ?_ _
                  refine NoPanic.normal ?_
                  clear hS
                  have HBD : Hid (Below W1.heap.size W1 wr.drew) := hide (HBK.out.trans ((below_drew wr).mono HBK.out.size))
                  generalize wr.drew = wd at *
                  cases po with
                  | none =>
                    have hn0 : n = 0 := by
                      rcases HRO1.out with h1 | ⟨_, _, h1, _⟩
                      · rw [h1] at HNO; exact HNO.out.symm
                      · cases h1
                    have hc0 : co = 0 := HSL0.out rfl
                    subst hn0
                    subst hc0
                    have HXW := hide (HB3W.out.trans (HBD.out.mono HB3W.out.size))
                    have HB3D := hide (HB31.out.trans (HBD.out.mono HB31.out.size))
                    have HRO := hide (RM.keep (KP.of_below HBD.out fun x hx => hx) (fun x hx => Nat.lt_of_lt_of_le hx HBD.out.size) (fun t ds h => FaIn.keep (KP.of_below HBD.out fun x hx => hx) (fun x hx => Nat.lt_of_lt_of_le hx HBD.out.size) t ds h) HRO1.out : RM 4 (fun x => x < wd.heap.size) wd (FaIn (fun x => x < wd.heap.size) wd) _ o)
                    have HTKL : Hid ((o.take 0).length = 0) := hide (by rw [List.length_take, HNO.out]; omega)
                    have HSF : Hid (∀ W, Below wd.heap.size wd W → (fun W' : World => W'.cell? ⟨b1, o1 + i * 4, none⟩ = some (.int .i64 f.1) ∧ W'.cell? ⟨n12, 0, none⟩ = some (.string (S T.nm)) ∧ W'.cell? ⟨n12, 1, none⟩ = some (.int .i64 T.n) ∧ W'.cell? ⟨n12, 2, none⟩ = some (.slice rk T.ar.length rd)) W) := hide fun W hW => by
                      have hW1 : Below W1.heap.size W1 W := HBD.out.trans (hW.mono HBD.out.size)
                      have hh := HN12.out.below hW1 HN12.out.lt
                      exact ⟨HA0.out W hW1, hh.cell 0, hh.cell 1, hh.cell 2⟩
                    have HTY : Hid (∀ W, Below wd.heap.size wd W → TyIn (fun x => x < wd.heap.size) W T [.string (S T.nm), .int .i64 T.n, .slice rk T.ar.length rd]) := hide fun W hW => TyIn.keep (KP.of_below (HBD.out.trans (hW.mono HBD.out.size)) fun x hx => hx) (fun x hx => Nat.lt_of_lt_of_le hx HBD.out.size) _ _ HTY1.out
                    obtain ⟨n1, hn1⟩ : ∃ n1 : Nat, n1 = 0 + 1 := ⟨_, rfl⟩
                    have HN1 := hide hn1
                    have hra := RowO.new (fun x => x < wd.heap.size) wd.heap.size wd (Nat.le_refl _)
                    have HXA : Hid (Below wd.heap.size wd (wd.alloc (.cells #[] 34))) := hide ((Below.refl _ _).alloc (Nat.le_refl _) _)
                    have HRA := hide hra
                    clear hra
                    go_upto_region 18 with fail
                    go_wp2_with (first
                      | (at_builtin; refine wpList_spreadF (P := (fun x => x < wd.heap.size)) (Q := (fun x => x < wd.heap.size)) rfl _ _ rfl (base := wd.heap.size) (lo := []) (n := 0) (m := 0) rfl rfl HRA.out (l := o.take 0) rfl HTKL.out (RM.keep (KP.of_below (P := (fun x => x < wd.heap.size)) HXA.out fun x hx => hx) (fun x hx => hx) (fun t ds h => FaIn.keep (KP.of_below (P := (fun x => x < wd.heap.size)) HXA.out fun x hx => hx) (fun x hx => hx) t ds h) (RM.take HRO.out 0)) HSL0.out (by omega) HXA.out.size (fun x hx => hx) ?_; intro p2 c2 w6 hr6 hbel6 _; rw [List.nil_append, Nat.zero_add] at hr6; rw [Nat.zero_add]
                         have HR6 := hide hr6
                         have HB6 : Hid (Below wd.heap.size wd w6) := hide (HXA.out.trans hbel6)
                         clear hr6 hbel6
                         go_frame)
                      | fail)
                    go_upto_region 19 with fail
                    refine wp_region_noPanic ?_
                    refine region_J 11 (N := 11) (S := (fun W' : World => W'.cell? ⟨b1, o1 + i * 4, none⟩ = some (.int .i64 f.1) ∧ W'.cell? ⟨n12, 0, none⟩ = some (.string (S T.nm)) ∧ W'.cell? ⟨n12, 1, none⟩ = some (.int .i64 T.n) ∧ W'.cell? ⟨n12, 2, none⟩ = some (.slice rk T.ar.length rd))) (by kernel_rfl) (by kernel_rfl) ?_
                    have HB7 : Hid (Below wd.heap.size wd w6.drew) := hide (HB6.out.trans ((below_drew w6).mono HB6.out.size))
                    have hS : (fun W' : World => W'.cell? ⟨b1, o1 + i * 4, none⟩ = some (.int .i64 f.1) ∧ W'.cell? ⟨n12, 0, none⟩ = some (.string (S T.nm)) ∧ W'.cell? ⟨n12, 1, none⟩ = some (.int .i64 T.n) ∧ W'.cell? ⟨n12, 2, none⟩ = some (.slice rk T.ar.length rd)) w6.drew := HSF.out w6.drew HB7.out
                    have HR7 := hide (RowO.keep (fun x hx => Nat.lt_of_lt_of_le hx HB6.out.size) HR6.out (below_drew w6))
                    generalize w6.drew = w7 at *
                    refine take_D (i := 0) 76 (.slice p2 0 c2) rfl rfl (by kernel_rfl) (by kernel_rfl) (by kernel_rfl) (by kernel_rfl) (fun _ _ _ h => h) (Or.inl ⟨by rfl, fun W' hW => by obtain ⟨s0, s1, s2, s3⟩ := hW; go_simp⟩) hS ?_
                    simp only [Act.put, List.setIfInBounds_toArray, List.set_cons_zero, List.set_cons_succ]
                    refine take_D (i := 1) 77 (.slice (some ⟨b1, o1, none⟩) nl cl) rfl rfl (by kernel_rfl) (by kernel_rfl) (by kernel_rfl) (by kernel_rfl) (fun _ _ _ h => h) (Or.inl ⟨by rfl, fun W' hW => by obtain ⟨s0, s1, s2, s3⟩ := hW; go_simp⟩) hS ?_
                    simp only [Act.put, List.setIfInBounds_toArray, List.set_cons_zero, List.set_cons_succ]
                    refine take_D (i := 2) 78 (.int .i64 i) rfl rfl (by kernel_rfl) (by kernel_rfl) (by kernel_rfl) (by kernel_rfl) (fun _ _ _ h => h) (Or.inl ⟨by rfl, fun W' hW => by obtain ⟨s0, s1, s2, s3⟩ := hW; go_simp⟩) hS ?_
                    simp only [Act.put, List.setIfInBounds_toArray, List.set_cons_zero, List.set_cons_succ]
                    refine take_D (i := 3) 79 (.pointer (some ⟨b1, o1 + i * 4, none⟩)) rfl rfl (by kernel_rfl) (by kernel_rfl) (by kernel_rfl) (by kernel_rfl) (fun _ _ _ h => h) (Or.inl ⟨by rfl, fun W' hW => by obtain ⟨s0, s1, s2, s3⟩ := hW; go_simp⟩) hS ?_
                    simp only [Act.put, List.setIfInBounds_toArray, List.set_cons_zero, List.set_cons_succ]
                    refine take_D (i := 4) 80 (.pointer (some ⟨b1, o1 + i * 4, none⟩)) rfl rfl (by kernel_rfl) (by kernel_rfl) (by kernel_rfl) (by kernel_rfl) (fun _ _ _ h => h) (Or.inl ⟨by rfl, fun W' hW => by obtain ⟨s0, s1, s2, s3⟩ := hW; go_simp⟩) hS ?_
                    simp only [Act.put, List.setIfInBounds_toArray, List.set_cons_zero, List.set_cons_succ]
                    refine take_D (i := 5) 81 (.int .i64 f.1) rfl rfl (by kernel_rfl) (by kernel_rfl) (by kernel_rfl) (by kernel_rfl) (fun _ _ _ h => h) (Or.inl ⟨by rfl, fun W' hW => by obtain ⟨s0, s1, s2, s3⟩ := hW; go_simp⟩) hS ?_
                    simp only [Act.put, List.setIfInBounds_toArray, List.set_cons_zero, List.set_cons_succ]
                    refine take_D (i := 6) 82 (.agg #[.string (S T.nm), .int .i64 T.n, .slice rk T.ar.length rd]) rfl rfl (by kernel_rfl) (by kernel_rfl) (by kernel_rfl) (by kernel_rfl) (fun _ _ _ h => h) (Or.inl ⟨by rfl, fun W' hW => by obtain ⟨s0, s1, s2, s3⟩ := hW; go_simp⟩) hS ?_
                    simp only [Act.put, List.setIfInBounds_toArray, List.set_cons_zero, List.set_cons_succ]
                    refine take_D (i := 7) 83 (.agg #[.int .i64 f.1, .string (S T.nm), .int .i64 T.n, .slice rk T.ar.length rd]) rfl rfl (by kernel_rfl) (by kernel_rfl) (by kernel_rfl) (by kernel_rfl) (fun _ _ _ h => h) (Or.inl ⟨by rfl, fun W' hW => by obtain ⟨s0, s1, s2, s3⟩ := hW; go_simp⟩) hS ?_
                    simp only [Act.put, List.setIfInBounds_toArray, List.set_cons_zero, List.set_cons_succ]
                    refine ready_J (rs := [8]) (by kernel_rfl) (by simp) ?_
                    intro jj hjj
                    obtain rfl := List.mem_singleton.1 hjj
                    clear hjj
                    refine op_J rfl rfl fun K' hK => ?_
                    go_simp
                    have HF8 := hide (rm_new (P := (fun x => x < wd.heap.size)) w7 (f.1, T) HFB.out (HTY.out w7 HB7.out) (fun x hx => Nat.lt_of_lt_of_le hx HB7.out.size))
                    have HB8 : Hid (Below wd.heap.size wd (w7.alloc (.cells #[.int .i64 f.1, .string (S T.nm), .int .i64 T.n, .slice rk T.ar.length rd] 34))) := hide (HB7.out.alloc HB7.out.size _)
                    have HR8 := hide (RowO.keep (fun x hx => Nat.lt_of_lt_of_le hx HB7.out.size) HR7.out ((Below.refl _ w7).alloc (Nat.le_refl _) (.cells #[.int .i64 f.1, .string (S T.nm), .int .i64 T.n, .slice rk T.ar.length rd] 34)))
                    clear hS
                    have hS := HSF.out (w7.alloc (.cells #[.int .i64 f.1, .string (S T.nm), .int .i64 T.n, .slice rk T.ar.length rd] 34)) HB8.out
                    refine hK _ _ ⟨fun _ => hS, ?_⟩
                    clear hK K'
                    generalize (w7.alloc (.cells #[.int .i64 f.1, .string (S T.nm), .int .i64 T.n, .slice rk T.ar.length rd] 34)) = w8 at *
                    refine ready_J (rs := [9]) (by kernel_rfl) (by simp) ?_
                    intro jj hjj
                    obtain rfl := List.mem_singleton.1 hjj
                    clear hjj
                    refine op_J rfl rfl fun K' hK => ?_
                    refine wp_spreadF (P := (fun x => x < wd.heap.size)) (Q := fun x => x = w7.heap.size) _ _ rfl (base := wd.heap.size) (lo := o.take 0) (n := 0) (m := 1) rfl HTKL.out HR8.out (l := [(f.1, T)]) rfl rfl HF8.out (fun h => by cases h) (by omega) HB8.out.size (fun x hx => hx) ?_
                    intro p9 c9 w9 hr9 hbel9 _
                    have HR9 := hide hr9
                    have HB9 : Hid (Below wd.heap.size wd w9) := hide (HB8.out.trans hbel9)
                    clear hS hr9 hbel9
                    have hS := HSF.out w9 HB9.out
                    refine hK _ _ ⟨fun _ => hS, ?_⟩
                    clear hK K'
                    refine take_D (i := 10) 15 (.slice p9 (0 + 1) c9) rfl rfl (by kernel_rfl) (by kernel_rfl) (by kernel_rfl) (by kernel_rfl) (fun _ _ _ h => h) (Or.inl ⟨by rfl, fun W' hW => by obtain ⟨s0, s1, s2, s3⟩ := hW; go_simp⟩) hS ?_
                    simp only [Act.put, List.setIfInBounds_toArray, List.set_cons_zero, List.set_cons_succ]
                    refine done_J (by kernel_rfl) ?_ _
                    refine NoPanic.normal ?_
                    clear hS
                    have HXB := HB9
                    go_wp2_with (first
                      | (at_builtin; refine wpList_spreadF (P := (fun x => x < wd.heap.size)) (Q := (fun x => x < wd.heap.size)) rfl _ _ rfl (base := wd.heap.size) (lo := o.take 0 ++ [(f.1, T)]) (n := 0 + 1) (m := 0) rfl (by rw [List.length_append, HTKL.out]; rfl) HR9.out (l := o.drop 0) rfl (by rw [List.length_drop, HNO.out]) ((.inl (by have h9 := HNO.out; rw [List.length_eq_zero_iff.1 h9]; simp))) (fun _ => rfl) (by omega) HB9.out.size (fun x hx => hx) ?_; intro pz cz wz hrz hbelz _
                         have HRZ := hide hrz
                         have HBZ : Hid (Below wd.heap.size wd wz) := hide (HB9.out.trans hbelz)
                         clear hrz hbelz
                         go_frame)
                      | fail)
                    have hzl : 0 + 1 + 0 = n1 := by omega
                    rw [hzl] at HRZ ⊢
                    go_roundg (nl - (i + 1))
                    case measure => omega
                    case rel =>
                      refine ⟨i + 1, pz, cz, o.take 0 ++ [(f.1, T)] ++ o.drop 0, by omega, rfl, by go_num, ?_, ?_⟩
                      · rw [ins_len (by rw [HNO.out]; omega), HNO.out]
                        show (Value.slice pz n1 cz) = _
                        rw [HN1.out]
                      · exact ⟨by rw [ins_len (by rw [HNO.out]; omega), HNO.out, ← HN1.out]; exact FM.row HRZ.out (by rw [ins_len (by rw [HNO.out]; omega), HNO.out, HN1.out]) (fun x hx => Nat.lt_of_lt_of_le hx HBZ.out.size), HLO2.out, HB3D.out.trans (HBZ.out.mono HB3D.out.size), fun h9 => by simp at h9⟩
                  | some ad =>
                    obtain ⟨bo, oo, had⟩ : ∃ bo oo, ad = ⟨bo, oo, none⟩ := by
                      rcases HRO1.out with h1 | ⟨b, o, h1, _⟩
                      · have := HPN.out h1
                        cases this
                      · cases h1; exact ⟨_, _, rfl⟩
                    subst had
                    have HXW := hide (HB3W.out.trans (HBD.out.mono HB3W.out.size))
                    have HB3D := hide (HB31.out.trans (HBD.out.mono HB31.out.size))
                    have HRO := hide (RM.keep (KP.of_below HBD.out fun x hx => hx) (fun x hx => Nat.lt_of_lt_of_le hx HBD.out.size) (fun t ds h => FaIn.keep (KP.of_below HBD.out fun x hx => hx) (fun x hx => Nat.lt_of_lt_of_le hx HBD.out.size) t ds h) HRO1.out : RM 4 (fun x => x < wd.heap.size) wd (FaIn (fun x => x < wd.heap.size) wd) _ o)
                    have HTKL : Hid ((o.take n).length = n) := hide (by rw [List.length_take, HNO.out]; omega)
                    have HSF : Hid (∀ W, Below wd.heap.size wd W → (fun W' : World => W'.cell? ⟨b1, o1 + i * 4, none⟩ = some (.int .i64 f.1) ∧ W'.cell? ⟨n12, 0, none⟩ = some (.string (S T.nm)) ∧ W'.cell? ⟨n12, 1, none⟩ = some (.int .i64 T.n) ∧ W'.cell? ⟨n12, 2, none⟩ = some (.slice rk T.ar.length rd)) W) := hide fun W hW => by
                      have hW1 : Below W1.heap.size W1 W := HBD.out.trans (hW.mono HBD.out.size)
                      have hh := HN12.out.below hW1 HN12.out.lt
                      exact ⟨HA0.out W hW1, hh.cell 0, hh.cell 1, hh.cell 2⟩
                    have HTY : Hid (∀ W, Below wd.heap.size wd W → TyIn (fun x => x < wd.heap.size) W T [.string (S T.nm), .int .i64 T.n, .slice rk T.ar.length rd]) := hide fun W hW => TyIn.keep (KP.of_below (HBD.out.trans (hW.mono HBD.out.size)) fun x hx => hx) (fun x hx => Nat.lt_of_lt_of_le hx HBD.out.size) _ _ HTY1.out
                    obtain ⟨n1, hn1⟩ : ∃ n1 : Nat, n1 = n + 1 := ⟨_, rfl⟩
                    have HN1 := hide hn1
                    have hkco : n ≤ co := HCO.out
                    by_cases hcne : co = n
                    · have hra := RowO.new (fun x => x < wd.heap.size) wd.heap.size wd (Nat.le_refl _)
                      have HXA : Hid (Below wd.heap.size wd (wd.alloc (.cells #[] 34))) := hide ((Below.refl _ _).alloc (Nat.le_refl _) _)
                      have HRA := hide hra
                      clear hra
                      go_upto_region 18 with fail
                      go_wp2_with (first
                        | (at_builtin; refine wpList_spreadF (P := (fun x => x < wd.heap.size)) (Q := (fun x => x < wd.heap.size)) rfl _ _ rfl (base := wd.heap.size) (lo := []) (n := 0) (m := n) rfl rfl HRA.out (l := o.take n) rfl HTKL.out (RM.keep (KP.of_below (P := (fun x => x < wd.heap.size)) HXA.out fun x hx => hx) (fun x hx => hx) (fun t ds h => FaIn.keep (KP.of_below (P := (fun x => x < wd.heap.size)) HXA.out fun x hx => hx) (fun x hx => hx) t ds h) (RM.take HRO.out n)) (fun h => by cases h) (by omega) HXA.out.size (fun x hx => hx) ?_; intro p2 c2 w6 hr6 hbel6 _; rw [List.nil_append, Nat.zero_add] at hr6; rw [Nat.zero_add]
                           have HR6 := hide hr6
                           have HB6 : Hid (Below wd.heap.size wd w6) := hide (HXA.out.trans hbel6)
                           clear hr6 hbel6
                           go_frame)
                        | fail)
                      go_upto_region 19 with fail
                      refine wp_region_noPanic ?_
                      refine region_J 11 (N := 11) (S := (fun W' : World => W'.cell? ⟨b1, o1 + i * 4, none⟩ = some (.int .i64 f.1) ∧ W'.cell? ⟨n12, 0, none⟩ = some (.string (S T.nm)) ∧ W'.cell? ⟨n12, 1, none⟩ = some (.int .i64 T.n) ∧ W'.cell? ⟨n12, 2, none⟩ = some (.slice rk T.ar.length rd))) (by kernel_rfl) (by kernel_rfl) ?_
                      have HB7 : Hid (Below wd.heap.size wd w6.drew) := hide (HB6.out.trans ((below_drew w6).mono HB6.out.size))
                      have hS : (fun W' : World => W'.cell? ⟨b1, o1 + i * 4, none⟩ = some (.int .i64 f.1) ∧ W'.cell? ⟨n12, 0, none⟩ = some (.string (S T.nm)) ∧ W'.cell? ⟨n12, 1, none⟩ = some (.int .i64 T.n) ∧ W'.cell? ⟨n12, 2, none⟩ = some (.slice rk T.ar.length rd)) w6.drew := HSF.out w6.drew HB7.out
                      have HR7 := hide (RowO.keep (fun x hx => Nat.lt_of_lt_of_le hx HB6.out.size) HR6.out (below_drew w6))
                      generalize w6.drew = w7 at *
                      refine take_D (i := 0) 76 (.slice p2 n c2) rfl rfl (by kernel_rfl) (by kernel_rfl) (by kernel_rfl) (by kernel_rfl) (fun _ _ _ h => h) (Or.inl ⟨by rfl, fun W' hW => by obtain ⟨s0, s1, s2, s3⟩ := hW; go_simp⟩) hS ?_
                      simp only [Act.put, List.setIfInBounds_toArray, List.set_cons_zero, List.set_cons_succ]
                      refine take_D (i := 1) 77 (.slice (some ⟨b1, o1, none⟩) nl cl) rfl rfl (by kernel_rfl) (by kernel_rfl) (by kernel_rfl) (by kernel_rfl) (fun _ _ _ h => h) (Or.inl ⟨by rfl, fun W' hW => by obtain ⟨s0, s1, s2, s3⟩ := hW; go_simp⟩) hS ?_
                      simp only [Act.put, List.setIfInBounds_toArray, List.set_cons_zero, List.set_cons_succ]
                      refine take_D (i := 2) 78 (.int .i64 i) rfl rfl (by kernel_rfl) (by kernel_rfl) (by kernel_rfl) (by kernel_rfl) (fun _ _ _ h => h) (Or.inl ⟨by rfl, fun W' hW => by obtain ⟨s0, s1, s2, s3⟩ := hW; go_simp⟩) hS ?_
                      simp only [Act.put, List.setIfInBounds_toArray, List.set_cons_zero, List.set_cons_succ]
                      refine take_D (i := 3) 79 (.pointer (some ⟨b1, o1 + i * 4, none⟩)) rfl rfl (by kernel_rfl) (by kernel_rfl) (by kernel_rfl) (by kernel_rfl) (fun _ _ _ h => h) (Or.inl ⟨by rfl, fun W' hW => by obtain ⟨s0, s1, s2, s3⟩ := hW; go_simp⟩) hS ?_
                      simp only [Act.put, List.setIfInBounds_toArray, List.set_cons_zero, List.set_cons_succ]
                      refine take_D (i := 4) 80 (.pointer (some ⟨b1, o1 + i * 4, none⟩)) rfl rfl (by kernel_rfl) (by kernel_rfl) (by kernel_rfl) (by kernel_rfl) (fun _ _ _ h => h) (Or.inl ⟨by rfl, fun W' hW => by obtain ⟨s0, s1, s2, s3⟩ := hW; go_simp⟩) hS ?_
                      simp only [Act.put, List.setIfInBounds_toArray, List.set_cons_zero, List.set_cons_succ]
                      refine take_D (i := 5) 81 (.int .i64 f.1) rfl rfl (by kernel_rfl) (by kernel_rfl) (by kernel_rfl) (by kernel_rfl) (fun _ _ _ h => h) (Or.inl ⟨by rfl, fun W' hW => by obtain ⟨s0, s1, s2, s3⟩ := hW; go_simp⟩) hS ?_
                      simp only [Act.put, List.setIfInBounds_toArray, List.set_cons_zero, List.set_cons_succ]
                      refine take_D (i := 6) 82 (.agg #[.string (S T.nm), .int .i64 T.n, .slice rk T.ar.length rd]) rfl rfl (by kernel_rfl) (by kernel_rfl) (by kernel_rfl) (by kernel_rfl) (fun _ _ _ h => h) (Or.inl ⟨by rfl, fun W' hW => by obtain ⟨s0, s1, s2, s3⟩ := hW; go_simp⟩) hS ?_
                      simp only [Act.put, List.setIfInBounds_toArray, List.set_cons_zero, List.set_cons_succ]
                      refine take_D (i := 7) 83 (.agg #[.int .i64 f.1, .string (S T.nm), .int .i64 T.n, .slice rk T.ar.length rd]) rfl rfl (by kernel_rfl) (by kernel_rfl) (by kernel_rfl) (by kernel_rfl) (fun _ _ _ h => h) (Or.inl ⟨by rfl, fun W' hW => by obtain ⟨s0, s1, s2, s3⟩ := hW; go_simp⟩) hS ?_
                      simp only [Act.put, List.setIfInBounds_toArray, List.set_cons_zero, List.set_cons_succ]
                      refine ready_J (rs := [8]) (by kernel_rfl) (by simp) ?_
                      intro jj hjj
                      obtain rfl := List.mem_singleton.1 hjj
                      clear hjj
                      refine op_J rfl rfl fun K' hK => ?_
                      go_simp
                      have HF8 := hide (rm_new (P := (fun x => x < wd.heap.size)) w7 (f.1, T) HFB.out (HTY.out w7 HB7.out) (fun x hx => Nat.lt_of_lt_of_le hx HB7.out.size))
                      have HB8 : Hid (Below wd.heap.size wd (w7.alloc (.cells #[.int .i64 f.1, .string (S T.nm), .int .i64 T.n, .slice rk T.ar.length rd] 34))) := hide (HB7.out.alloc HB7.out.size _)
                      have HR8 := hide (RowO.keep (fun x hx => Nat.lt_of_lt_of_le hx HB7.out.size) HR7.out ((Below.refl _ w7).alloc (Nat.le_refl _) (.cells #[.int .i64 f.1, .string (S T.nm), .int .i64 T.n, .slice rk T.ar.length rd] 34)))
                      clear hS
                      have hS := HSF.out (w7.alloc (.cells #[.int .i64 f.1, .string (S T.nm), .int .i64 T.n, .slice rk T.ar.length rd] 34)) HB8.out
                      refine hK _ _ ⟨fun _ => hS, ?_⟩
                      clear hK K'
                      generalize (w7.alloc (.cells #[.int .i64 f.1, .string (S T.nm), .int .i64 T.n, .slice rk T.ar.length rd] 34)) = w8 at *
                      refine ready_J (rs := [9]) (by kernel_rfl) (by simp) ?_
                      intro jj hjj
                      obtain rfl := List.mem_singleton.1 hjj
                      clear hjj
                      refine op_J rfl rfl fun K' hK => ?_
                      refine wp_spreadF (P := (fun x => x < wd.heap.size)) (Q := fun x => x = w7.heap.size) _ _ rfl (base := wd.heap.size) (lo := o.take n) (n := n) (m := 1) rfl HTKL.out HR8.out (l := [(f.1, T)]) rfl rfl HF8.out (fun h => by cases h) (by omega) HB8.out.size (fun x hx => hx) ?_
                      intro p9 c9 w9 hr9 hbel9 _
                      have HR9 := hide hr9
                      have HB9 : Hid (Below wd.heap.size wd w9) := hide (HB8.out.trans hbel9)
                      clear hS hr9 hbel9
                      have hS := HSF.out w9 HB9.out
                      refine hK _ _ ⟨fun _ => hS, ?_⟩
                      clear hK K'
                      refine take_D (i := 10) 15 (.slice p9 (n + 1) c9) rfl rfl (by kernel_rfl) (by kernel_rfl) (by kernel_rfl) (by kernel_rfl) (fun _ _ _ h => h) (Or.inl ⟨by rfl, fun W' hW => by obtain ⟨s0, s1, s2, s3⟩ := hW; go_simp⟩) hS ?_
                      simp only [Act.put, List.setIfInBounds_toArray, List.set_cons_zero, List.set_cons_succ]
                      refine done_J (by kernel_rfl) ?_ _
                      refine NoPanic.normal ?_
                      clear hS
                      have HXB := HB9
                      go_wp2_with (first
                        | (at_builtin; refine wpList_spreadF (P := (fun x => x < wd.heap.size)) (Q := (fun x => x < wd.heap.size)) rfl _ _ rfl (base := wd.heap.size) (lo := o.take n ++ [(f.1, T)]) (n := n + 1) (m := 0) rfl (by rw [List.length_append, HTKL.out]; rfl) HR9.out (l := o.drop n) rfl (by rw [List.length_drop, HNO.out]; omega) ((.inl (List.drop_eq_nil_of_le (by rw [HNO.out]; exact Nat.le_refl _)))) (fun h => by cases h) (by omega) HB9.out.size (fun x hx => hx) ?_; intro pz cz wz hrz hbelz _
                           have HRZ := hide hrz
                           have HBZ : Hid (Below wd.heap.size wd wz) := hide (HB9.out.trans hbelz)
                           clear hrz hbelz
                           go_frame)
                        | fail)
                      have hzl : n + 1 + 0 = n1 := by omega
                      rw [hzl] at HRZ ⊢
                      go_roundg (nl - (i + 1))
                      case measure => omega
                      case rel =>
                        refine ⟨i + 1, pz, cz, o.take n ++ [(f.1, T)] ++ o.drop n, by omega, rfl, by go_num, ?_, ?_⟩
                        · rw [ins_len (by rw [HNO.out]; omega), HNO.out]
                          show (Value.slice pz n1 cz) = _
                          rw [HN1.out]
                        · exact ⟨by rw [ins_len (by rw [HNO.out]; omega), HNO.out, ← HN1.out]; exact FM.row HRZ.out (by rw [ins_len (by rw [HNO.out]; omega), HNO.out, HN1.out]) (fun x hx => Nat.lt_of_lt_of_le hx HBZ.out.size), HLO2.out, HB3D.out.trans (HBZ.out.mono HB3D.out.size), fun h9 => by simp at h9⟩
                    · have hra := RowO.new (fun x => x < wd.heap.size) wd.heap.size wd (Nat.le_refl _)
                      have HXA : Hid (Below wd.heap.size wd (wd.alloc (.cells #[] 34))) := hide ((Below.refl _ _).alloc (Nat.le_refl _) _)
                      have HRA := hide hra
                      clear hra
                      go_upto_region 18 with fail
                      go_wp2_with (first
                        | (at_builtin; refine wpList_spreadF (P := (fun x => x < wd.heap.size)) (Q := (fun x => x < wd.heap.size)) rfl _ _ rfl (base := wd.heap.size) (lo := []) (n := 0) (m := n) rfl rfl HRA.out (l := o.take n) rfl HTKL.out (RM.keep (KP.of_below (P := (fun x => x < wd.heap.size)) HXA.out fun x hx => hx) (fun x hx => hx) (fun t ds h => FaIn.keep (KP.of_below (P := (fun x => x < wd.heap.size)) HXA.out fun x hx => hx) (fun x hx => hx) t ds h) (RM.take HRO.out n)) (fun h => by cases h) (by omega) HXA.out.size (fun x hx => hx) ?_; intro p2 c2 w6 hr6 hbel6 _; rw [List.nil_append, Nat.zero_add] at hr6; rw [Nat.zero_add]
                           have HR6 := hide hr6
                           have HB6 : Hid (Below wd.heap.size wd w6) := hide (HXA.out.trans hbel6)
                           clear hr6 hbel6
                           go_frame)
                        | fail)
                      go_upto_region 19 with fail
                      refine wp_region_noPanic ?_
                      refine region_J 11 (N := 11) (S := (fun W' : World => W'.cell? ⟨b1, o1 + i * 4, none⟩ = some (.int .i64 f.1) ∧ W'.cell? ⟨n12, 0, none⟩ = some (.string (S T.nm)) ∧ W'.cell? ⟨n12, 1, none⟩ = some (.int .i64 T.n) ∧ W'.cell? ⟨n12, 2, none⟩ = some (.slice rk T.ar.length rd))) (by kernel_rfl) (by kernel_rfl) ?_
                      have HB7 : Hid (Below wd.heap.size wd w6.drew) := hide (HB6.out.trans ((below_drew w6).mono HB6.out.size))
                      have hS : (fun W' : World => W'.cell? ⟨b1, o1 + i * 4, none⟩ = some (.int .i64 f.1) ∧ W'.cell? ⟨n12, 0, none⟩ = some (.string (S T.nm)) ∧ W'.cell? ⟨n12, 1, none⟩ = some (.int .i64 T.n) ∧ W'.cell? ⟨n12, 2, none⟩ = some (.slice rk T.ar.length rd)) w6.drew := HSF.out w6.drew HB7.out
                      have HR7 := hide (RowO.keep (fun x hx => Nat.lt_of_lt_of_le hx HB6.out.size) HR6.out (below_drew w6))
                      generalize w6.drew = w7 at *
                      refine take_D (i := 0) 76 (.slice p2 n c2) rfl rfl (by kernel_rfl) (by kernel_rfl) (by kernel_rfl) (by kernel_rfl) (fun _ _ _ h => h) (Or.inl ⟨by rfl, fun W' hW => by obtain ⟨s0, s1, s2, s3⟩ := hW; go_simp⟩) hS ?_
                      simp only [Act.put, List.setIfInBounds_toArray, List.set_cons_zero, List.set_cons_succ]
                      refine take_D (i := 1) 77 (.slice (some ⟨b1, o1, none⟩) nl cl) rfl rfl (by kernel_rfl) (by kernel_rfl) (by kernel_rfl) (by kernel_rfl) (fun _ _ _ h => h) (Or.inl ⟨by rfl, fun W' hW => by obtain ⟨s0, s1, s2, s3⟩ := hW; go_simp⟩) hS ?_
                      simp only [Act.put, List.setIfInBounds_toArray, List.set_cons_zero, List.set_cons_succ]
                      refine take_D (i := 2) 78 (.int .i64 i) rfl rfl (by kernel_rfl) (by kernel_rfl) (by kernel_rfl) (by kernel_rfl) (fun _ _ _ h => h) (Or.inl ⟨by rfl, fun W' hW => by obtain ⟨s0, s1, s2, s3⟩ := hW; go_simp⟩) hS ?_
                      simp only [Act.put, List.setIfInBounds_toArray, List.set_cons_zero, List.set_cons_succ]
                      refine take_D (i := 3) 79 (.pointer (some ⟨b1, o1 + i * 4, none⟩)) rfl rfl (by kernel_rfl) (by kernel_rfl) (by kernel_rfl) (by kernel_rfl) (fun _ _ _ h => h) (Or.inl ⟨by rfl, fun W' hW => by obtain ⟨s0, s1, s2, s3⟩ := hW; go_simp⟩) hS ?_
                      simp only [Act.put, List.setIfInBounds_toArray, List.set_cons_zero, List.set_cons_succ]
                      refine take_D (i := 4) 80 (.pointer (some ⟨b1, o1 + i * 4, none⟩)) rfl rfl (by kernel_rfl) (by kernel_rfl) (by kernel_rfl) (by kernel_rfl) (fun _ _ _ h => h) (Or.inl ⟨by rfl, fun W' hW => by obtain ⟨s0, s1, s2, s3⟩ := hW; go_simp⟩) hS ?_
                      simp only [Act.put, List.setIfInBounds_toArray, List.set_cons_zero, List.set_cons_succ]
                      refine take_D (i := 5) 81 (.int .i64 f.1) rfl rfl (by kernel_rfl) (by kernel_rfl) (by kernel_rfl) (by kernel_rfl) (fun _ _ _ h => h) (Or.inl ⟨by rfl, fun W' hW => by obtain ⟨s0, s1, s2, s3⟩ := hW; go_simp⟩) hS ?_
                      simp only [Act.put, List.setIfInBounds_toArray, List.set_cons_zero, List.set_cons_succ]
                      refine take_D (i := 6) 82 (.agg #[.string (S T.nm), .int .i64 T.n, .slice rk T.ar.length rd]) rfl rfl (by kernel_rfl) (by kernel_rfl) (by kernel_rfl) (by kernel_rfl) (fun _ _ _ h => h) (Or.inl ⟨by rfl, fun W' hW => by obtain ⟨s0, s1, s2, s3⟩ := hW; go_simp⟩) hS ?_
                      simp only [Act.put, List.setIfInBounds_toArray, List.set_cons_zero, List.set_cons_succ]
                      refine take_D (i := 7) 83 (.agg #[.int .i64 f.1, .string (S T.nm), .int .i64 T.n, .slice rk T.ar.length rd]) rfl rfl (by kernel_rfl) (by kernel_rfl) (by kernel_rfl) (by kernel_rfl) (fun _ _ _ h => h) (Or.inl ⟨by rfl, fun W' hW => by obtain ⟨s0, s1, s2, s3⟩ := hW; go_simp⟩) hS ?_
                      simp only [Act.put, List.setIfInBounds_toArray, List.set_cons_zero, List.set_cons_succ]
                      refine ready_J (rs := [8]) (by kernel_rfl) (by simp) ?_
                      intro jj hjj
                      obtain rfl := List.mem_singleton.1 hjj
                      clear hjj
                      refine op_J rfl rfl fun K' hK => ?_
                      go_simp
                      have HF8 := hide (rm_new (P := (fun x => x < wd.heap.size)) w7 (f.1, T) HFB.out (HTY.out w7 HB7.out) (fun x hx => Nat.lt_of_lt_of_le hx HB7.out.size))
                      have HB8 : Hid (Below wd.heap.size wd (w7.alloc (.cells #[.int .i64 f.1, .string (S T.nm), .int .i64 T.n, .slice rk T.ar.length rd] 34))) := hide (HB7.out.alloc HB7.out.size _)
                      have HR8 := hide (RowO.keep (fun x hx => Nat.lt_of_lt_of_le hx HB7.out.size) HR7.out ((Below.refl _ w7).alloc (Nat.le_refl _) (.cells #[.int .i64 f.1, .string (S T.nm), .int .i64 T.n, .slice rk T.ar.length rd] 34)))
                      clear hS
                      have hS := HSF.out (w7.alloc (.cells #[.int .i64 f.1, .string (S T.nm), .int .i64 T.n, .slice rk T.ar.length rd] 34)) HB8.out
                      refine hK _ _ ⟨fun _ => hS, ?_⟩
                      clear hK K'
                      generalize (w7.alloc (.cells #[.int .i64 f.1, .string (S T.nm), .int .i64 T.n, .slice rk T.ar.length rd] 34)) = w8 at *
                      refine ready_J (rs := [9]) (by kernel_rfl) (by simp) ?_
                      intro jj hjj
                      obtain rfl := List.mem_singleton.1 hjj
                      clear hjj
                      refine op_J rfl rfl fun K' hK => ?_
                      refine wp_spreadF (P := (fun x => x < wd.heap.size)) (Q := fun x => x = w7.heap.size) _ _ rfl (base := wd.heap.size) (lo := o.take n) (n := n) (m := 1) rfl HTKL.out HR8.out (l := [(f.1, T)]) rfl rfl HF8.out (fun h => by cases h) (by omega) HB8.out.size (fun x hx => hx) ?_
                      intro p9 c9 w9 hr9 hbel9 _
                      have HR9 := hide hr9
                      have HB9 : Hid (Below wd.heap.size wd w9) := hide (HB8.out.trans hbel9)
                      clear hS hr9 hbel9
                      have hS := HSF.out w9 HB9.out
                      refine hK _ _ ⟨fun _ => hS, ?_⟩
                      clear hK K'
                      refine take_D (i := 10) 15 (.slice p9 (n + 1) c9) rfl rfl (by kernel_rfl) (by kernel_rfl) (by kernel_rfl) (by kernel_rfl) (fun _ _ _ h => h) (Or.inl ⟨by rfl, fun W' hW => by obtain ⟨s0, s1, s2, s3⟩ := hW; go_simp⟩) hS ?_
                      simp only [Act.put, List.setIfInBounds_toArray, List.set_cons_zero, List.set_cons_succ]
                      refine done_J (by kernel_rfl) ?_ _
                      refine NoPanic.normal ?_
                      clear hS
                      have HXB := HB9
                      go_wp2_with (first
                        | (at_builtin; refine wpList_spreadF (P := (fun x => x < wd.heap.size)) (Q := (fun x => x < wd.heap.size)) rfl _ _ rfl (base := wd.heap.size) (lo := o.take n ++ [(f.1, T)]) (n := n + 1) (m := 0) rfl (by rw [List.length_append, HTKL.out]; rfl) HR9.out (l := o.drop n) rfl (by rw [List.length_drop, HNO.out]; omega) ((.inl (List.drop_eq_nil_of_le (by rw [HNO.out]; exact Nat.le_refl _)))) (fun h => by cases h) (by omega) HB9.out.size (fun x hx => hx) ?_; intro pz cz wz hrz hbelz _
                           have HRZ := hide hrz
                           have HBZ : Hid (Below wd.heap.size wd wz) := hide (HB9.out.trans hbelz)
                           clear hrz hbelz
                           go_frame)
                        | fail)
                      have hzl : n + 1 + 0 = n1 := by omega
                      rw [hzl] at HRZ ⊢
                      go_roundg (nl - (i + 1))
                      case measure => omega
                      case rel =>
                        refine ⟨i + 1, pz, cz, o.take n ++ [(f.1, T)] ++ o.drop n, by omega, rfl, by go_num, ?_, ?_⟩
                        · rw [ins_len (by rw [HNO.out]; omega), HNO.out]
                          show (Value.slice pz n1 cz) = _
                          rw [HN1.out]
                        · exact ⟨by rw [ins_len (by rw [HNO.out]; omega), HNO.out, ← HN1.out]; exact FM.row HRZ.out (by rw [ins_len (by rw [HNO.out]; omega), HNO.out, HN1.out]) (fun x hx => Nat.lt_of_lt_of_le hx HBZ.out.size), HLO2.out, HB3D.out.trans (HBZ.out.mono HB3D.out.size), fun h9 => by simp at h9⟩
            · have HPOST : Hid (UPost a b [] 80) := hide (.inl ⟨HKA.out, HKB.out, HGR.out hnf⟩)
              clear hnf
              go_wp2_with fail
              exact bodyPost_ret (v := .tuple #[.slice none 0 0, .int .i64 80]) (by simp only [results, Tryd.results25]; go_simp) rfl ⟨HB4W.out.alloc HB4W.out.size _, [], 80, _, rfl, FM.nil _, by simp, HPOST.out⟩
          · have hii : ¬ (i : Int) < nl := by omega
            have hfull : l.take i = l := List.take_of_length_le (by rw [HNL.out]; omega)
            have hlo2 := HLO.out
            have HPOST : Hid (UPost a b o 0) := hide (.inl ⟨HKA.out, HKB.out, .inl ⟨rfl, told_facts h HSOL.out hlo2.1 (by have := hlo2.2.1; rw [hfull] at this; exact this), hlo2.2.2.1⟩⟩)
            have hol : o.length ≤ 10000 := by rw [HNO.out]; omega
            clear hfull hlo2
            go_wp2_with fail
            exact bodyPost_ret (v := .tuple #[.slice po n co, .int .i64 0]) (by simp only [results, Tryd.results25]; go_simp) rfl ⟨HBW.out, o, 0, _, rfl, HFO.out, hol, HPOST.out⟩
end Go.Proofs.YteoflpalmckikaaDoor
