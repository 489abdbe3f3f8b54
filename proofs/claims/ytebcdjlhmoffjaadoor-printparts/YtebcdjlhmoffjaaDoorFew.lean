/-
  THE WALKS OF dawdlerref04's size AND Depth.
-/
import Derived.Test.YtebcdjlhmoffjaaDoorSound
import Derived.Deep.LoopGhost
namespace Go.Proofs.YtebcdjlhmoffjaaDoor
open Go.RowKit
set_option linter.unusedVariables false
set_option linter.unusedSimpArgs false
/-- How many parts a tree has. -/
def tsz (t : Tr) : Nat := t.fold fun t l => 1 + (l.map fun k => k.2).sum
theorem tsz_eq (t : Tr) : tsz t = 1 + (t.ks.map tsz).sum := by
  unfold tsz
  rw [Tr.fold_eq]
  simp only [List.map_map]
  rfl
/-- How deep a tree is. -/
def tdp (t : Tr) : Nat := t.fold fun t l => 1 + (l.foldl (fun n k => max n k.2) 0)
theorem tdp_eq (t : Tr) : tdp t = 1 + t.ks.foldl (fun n k => max n (tdp k)) 0 := by
  unfold tdp
  rw [Tr.fold_eq, List.foldl_map]
theorem tsz_pos (t : Tr) : 1 ≤ tsz t := by rw [tsz_eq]; omega
theorem tdp_pos (t : Tr) : 1 ≤ tdp t := by rw [tdp_eq]; omega
/-- A Kid in memory, as the walks of the document's functions read it. -/
theorem kid_at {P : Nat → Prop} {w : World} {e : Tr} {pn pk : Option Addr} {cn ck : Nat} (hE : TrIn P w e [.int .i64 e.kd, .string (S e.nm), .int .i64 e.nu, .slice pn e.ns.length cn, .slice pk e.ks.length ck]) {i : Nat} (hi : i < e.ks.length) : ∃ b o qn dn qk dk, pk = some ⟨b, o, none⟩ ∧ P b ∧ TrIn P w e.ks[i] [.int .i64 e.ks[i].kd, .string (S e.ks[i].nm), .int .i64 e.ks[i].nu, .slice qn e.ks[i].ns.length dn, .slice qk e.ks[i].ks.length dk] ∧
    w.cell? ⟨b, o + i * 5, none⟩ = some (.int .i64 e.ks[i].kd) ∧ w.cell? ⟨b, o + i * 5 + 1, none⟩ = some (.string (S e.ks[i].nm)) ∧ w.cell? ⟨b, o + i * 5 + 2, none⟩ = some (.int .i64 e.ks[i].nu) ∧ w.cell? ⟨b, o + i * 5 + 3, none⟩ = some (.slice qn e.ks[i].ns.length dn) ∧ w.cell? ⟨b, o + i * 5 + 4, none⟩ = some (.slice qk e.ks[i].ks.length dk) := by
  obtain ⟨pn', cn', pk', ck', hcs, _, _, _, _, _, hEM⟩ := (TrIn_iff _ _ _ _).1 hE
  simp at hcs
  obtain ⟨rfl, rfl⟩ : pk = pk' ∧ ck = ck' := ⟨hcs.2.1, hcs.2.2⟩
  rcases hEM with h | ⟨b, o, hp, hb, hm⟩
  · rw [h] at hi; simp at hi
  · obtain ⟨ds, h1, h2, h3⟩ := hm i e.ks[i] (by simp)
    obtain ⟨qn, dn, qk, dk, rfl, _⟩ := (TrIn_iff _ _ _ _).1 h3
    exact ⟨b, o, qn, dn, qk, dk, hp, hb, h3, h2 0 _ rfl, h2 1 _ rfl, h2 2 _ rfl, h2 3 _ rfl, h2 4 _ rfl⟩
theorem sum_take {l : List Tr} {i : Nat} (h : i < l.length) : ((l.take (i + 1)).map tsz).sum = ((l.take i).map tsz).sum + tsz l[i] := by
  rw [List.take_succ_eq_append_getElem h]
  simp only [List.map_append, List.sum_append, List.map_cons, List.map_nil, List.sum_cons, List.sum_nil, Nat.add_zero]
theorem sum_take_le (l : List Tr) (i : Nat) : ((l.take i).map tsz).sum ≤ (l.map tsz).sum := by
  have h : (l.map tsz).sum = ((l.take i).map tsz).sum + ((l.drop i).map tsz).sum := by rw [← List.sum_append, ← List.map_append, List.take_append_drop]
  omega
set_option maxHeartbeats 2000000 in
set_option maxRecDepth 100000 in
theorem rsize_any (e : Tr) : ∀ {P : Nat → Prop} {w : World} {pn pk : Option Addr} {cn ck m : Nat}, (∀ b, P b → b < w.heap.size) → TrIn P w e [.int .i64 e.kd, .string (S e.nm), .int .i64 e.nu, .slice pn e.ns.length cn, .slice pk e.ks.length ck] → m ≤ 1000000 →
    Calls Tryd.prog 16 #[.agg (cs5 e pn cn pk ck), .int .i64 m] w fun r w' => r = .returned (.int .i64 ((min (tsz e) (m + 1) : Nat) : Int)) ∧ Below w.heap.size w w' := by
  induction e using Tr.ind with
  | _ e ih =>
    intro P w pn pk cn ck m hP hE hm
    have hkl : e.ks.length ≤ 9223372036854775807 := by
      obtain ⟨pn', cn', pk', ck', hcs, _, _, _, h5, _, _⟩ := (TrIn_iff _ _ _ _).1 hE
      exact Nat.le_trans h5.1 h5.2.1
    have HT := hide (tsz_eq e)
    have HIH := hide ih
    have HE := hide hE
    have hB0 : Below w.heap.size w (w.alloc (.cells (cs5 e pn cn pk ck) 25)) := (Below.refl _ w).alloc (Nat.le_refl _) _
    have hW : Hold w.heap.size (cs5 e pn cn pk ck) 25 (w.alloc (.cells (cs5 e pn cn pk ck) 25)) := Hold.new w _ 25
    have HW := hide hW
    have HB0 := hide hB0
    clear ih hE hB0 hW
    unfold cs5 at *
    generalize hnk : e.ks.length = nk at *
    have HNK := hide hnk
    clear hnk
    go_enter Tryd.func16, Tryd.ntmps16
    go_wp2_with fail
    go_loopg [5, 6] nk (fun k s5 s6 wr => ∃ i : Nat, i ≤ nk ∧ k = nk - i ∧ s6 = .int .i64 i ∧ s5 = .int .i64 ((min (1 + ((e.ks.take i).map tsz).sum) (m + 1) : Nat) : Int) ∧ Below (w.heap.size + 1) (w.alloc (.cells #[.int .i64 e.kd, .string (S e.nm), .int .i64 e.nu, .slice pn e.ns.length cn, .slice pk nk ck] 25)) wr)
    case atStart => exact ⟨0, Nat.zero_le _, by omega, rfl, by simp, Below.refl _ _⟩
    case round =>
      obtain ⟨i, hi1, rfl, rfl, rfl, hbr⟩ := hrel
      have hb5 := (HW.out.below hbr (Nat.lt_succ_self _))
      have c4 := hb5.cell 4
      simp only [List.getElem?_toArray, List.getElem?_cons_succ, List.getElem?_cons_zero] at c4
      have HBR := hide hbr
      have hbw : Below w.heap.size w wr := HB0.out.trans (hbr.mono (by omega))
      have hfin : 1 + ((e.ks.take i).map tsz).sum ≤ tsz e := by have := sum_take_le e.ks i; have := HT.out; omega
      have HFIN := hide hfin
      by_cases hgo : i < nk ∧ 1 + ((e.ks.take i).map tsz).sum ≤ m
      · obtain ⟨hlt, hle⟩ := hgo
        have hil : i < e.ks.length := by rw [HNK.out]; exact hlt
        have hst := sum_take hil
        obtain ⟨b, o, qn, dn, qk, dk, hpk, hPb, hIn, a0, a1, a2, a3, a4⟩ := kid_at (e := e) (ck := ck) (cn := cn) (pn := pn) (pk := pk) (by rw [HNK.out]; exact HE.out) hil
        have hcall := HIH.out e.ks[i] (by simp) (w := wr) (m := m - (1 + ((e.ks.take i).map tsz).sum)) (fun b hb => Nat.lt_of_lt_of_le (hP b hb) hbw.size) (TrIn.keep (KP.of_below hbw hP) (fun b hb => hb) _ _ hIn) (by omega)
        have hcc : ∀ x, wr.cell? ⟨b, x, none⟩ = w.cell? ⟨b, x, none⟩ := fun x => hbw.cell (p := ⟨b, x, none⟩) (hP b hPb)
        rw [← hcc] at a0 a1 a2 a3 a4
        have hmn : min (1 + ((e.ks.take i).map tsz).sum) (m + 1) = 1 + ((e.ks.take i).map tsz).sum := by omega
        rw [hmn]
        subst hpk
        generalize e.ks[i] = k at *
        generalize hsg : ((e.ks.take i).map tsz).sum = sg at *
        have hcast : ((m - (1 + sg) : Nat) : Int) = (m : Int) - (1 + sg) := by omega
        rw [hcast] at hcall
        have HC := hide hcall
        have HST := hide hst
        have hii : (i : Int) < nk := by omega
        have hlei : (1 + (sg : Int)) ≤ m := by omega
        generalize hrr : min (tsz k) (m - (1 + sg) + 1) = rr at *
        have HRR := hide hrr
        have hrb : rr ≤ m + 1 := by omega
        clear hcall hst hcc hbr hbw hIn hfin hb5 hsg hcast hmn hrr
        go_wp2_with fail
        refine HC.out.mono ?_
        rintro r w1 ⟨rfl, hb1⟩
        have HB1 := hide hb1
        clear hb1
        go_wp2_with fail
        go_roundg (nk - (i + 1))
        case measure => omega
        case rel =>
          refine ⟨i + 1, by omega, rfl, by go_num, ?_, HBR.out.trans (HB1.out.mono (by have := HBR.out.size; simpa using this))⟩
          have h1 := HST.out
          have h2 := HRR.out
          congr 1
          rw [h1]
          omega
      · have hres : min (1 + ((e.ks.take i).map tsz).sum) (m + 1) = min (tsz e) (m + 1) := by
          by_cases hlt : i < nk
          · have : ¬ 1 + ((e.ks.take i).map tsz).sum ≤ m := fun h => hgo ⟨hlt, h⟩
            omega
          · have h1 : e.ks.take i = e.ks := List.take_of_length_le (by rw [HNK.out]; omega)
            rw [h1, ← HT.out]
        have HRES := hide hres
        rw [hres]
        have hgo2 : ¬ (i : Int) < nk ∨ ((i : Int) < nk ∧ ¬ ((min (tsz e) (m + 1) : Nat) : Int) ≤ m) := by
          by_cases hlt : i < nk
          · right
            have : ¬ 1 + ((e.ks.take i).map tsz).sum ≤ m := fun h => hgo ⟨hlt, h⟩
            refine ⟨by omega, ?_⟩
            omega
          · left; omega
        generalize hmn : min (tsz e) (m + 1) = mn at *
        have hmm : mn ≤ m + 1 := by omega
        have HMN := hide hmn
        clear hbr hbw hfin hb5 hgo hres hmn
        rcases hgo2 with h1 | ⟨h1, h2⟩
        · go_wp2_with fail
          go_ret
          exact ⟨by rw [HMN.out]; rfl, HB0.out.trans (HBR.out.mono (by omega))⟩
        · go_wp2_with fail
          go_ret
          exact ⟨by rw [HMN.out]; rfl, HB0.out.trans (HBR.out.mono (by omega))⟩
theorem mx_take {l : List Tr} {i : Nat} (h : i < l.length) : (l.take (i + 1)).foldl (fun n k => max n (tdp k)) 0 = max ((l.take i).foldl (fun n k => max n (tdp k)) 0) (tdp l[i]) := by
  rw [List.take_succ_eq_append_getElem h, List.foldl_append]; rfl
set_option maxHeartbeats 2000000 in
set_option maxRecDepth 100000 in
theorem rdepth_any (e : Tr) : ∀ {P : Nat → Prop} {w : World} {pn pk : Option Addr} {cn ck m : Nat}, (∀ b, P b → b < w.heap.size) → TrIn P w e [.int .i64 e.kd, .string (S e.nm), .int .i64 e.nu, .slice pn e.ns.length cn, .slice pk e.ks.length ck] → m ≤ 1000000 →
    Calls Tryd.prog 17 #[.agg (cs5 e pn cn pk ck), .int .i64 m] w fun r w' => r = .returned (.int .i64 ((min (tdp e) (m + 1) : Nat) : Int)) ∧ Below w.heap.size w w' := by
  induction e using Tr.ind with
  | _ e ih =>
    intro P w pn pk cn ck m hP hE hm
    have hkl : e.ks.length ≤ 9223372036854775807 := by
      obtain ⟨pn', cn', pk', ck', hcs, _, _, _, h5, _, _⟩ := (TrIn_iff _ _ _ _).1 hE
      exact Nat.le_trans h5.1 h5.2.1
    have HT := hide (tdp_eq e)
    have HTP := hide (tdp_pos e)
    have HIH := hide ih
    have HE := hide hE
    have hB0 : Below w.heap.size w (w.alloc (.cells (cs5 e pn cn pk ck) 25)) := (Below.refl _ w).alloc (Nat.le_refl _) _
    have hW : Hold w.heap.size (cs5 e pn cn pk ck) 25 (w.alloc (.cells (cs5 e pn cn pk ck) 25)) := Hold.new w _ 25
    have HW := hide hW
    have HB0 := hide hB0
    clear ih hE hB0 hW
    unfold cs5 at *
    generalize hnk : e.ks.length = nk at *
    have HNK := hide hnk
    clear hnk
    by_cases hm0 : m = 0
    · subst hm0
      go_enter Tryd.func17, Tryd.ntmps17
      go_wp2_with fail
      go_ret
      exact ⟨by rw [show min (tdp e) (0 + 1) = 1 by have := HTP.out; omega]; rfl, HB0.out⟩
    · have hmi : ¬ (m : Int) ≤ 0 := by omega
      go_enter Tryd.func17, Tryd.ntmps17
      go_wp2_with fail
      go_loopg [5, 6] nk (fun k s5 s6 wr => ∃ i : Nat, i ≤ nk ∧ k = nk - i ∧ s6 = .int .i64 i ∧ s5 = .int .i64 ((min ((e.ks.take i).foldl (fun n k => max n (tdp k)) 0) m : Nat) : Int) ∧ Below (w.heap.size + 1) (w.alloc (.cells #[.int .i64 e.kd, .string (S e.nm), .int .i64 e.nu, .slice pn e.ns.length cn, .slice pk nk ck] 25)) wr)
      case atStart => exact ⟨0, Nat.zero_le _, by omega, rfl, by simp, Below.refl _ _⟩
      case round =>
        obtain ⟨i, hi1, rfl, rfl, rfl, hbr⟩ := hrel
        have hb5 := (HW.out.below hbr (Nat.lt_succ_self _))
        have c4 := hb5.cell 4
        simp only [List.getElem?_toArray, List.getElem?_cons_succ, List.getElem?_cons_zero] at c4
        have HBR := hide hbr
        have hbw : Below w.heap.size w wr := HB0.out.trans (hbr.mono (by omega))
        by_cases hlt : i < nk
        · have hil : i < e.ks.length := by rw [HNK.out]; exact hlt
          have hst := mx_take hil
          obtain ⟨b, o, qn, dn, qk, dk, hpk, hPb, hIn, a0, a1, a2, a3, a4⟩ := kid_at (e := e) (ck := ck) (cn := cn) (pn := pn) (pk := pk) (by rw [HNK.out]; exact HE.out) hil
          have hcall := HIH.out e.ks[i] (by simp) (w := wr) (m := m - 1) (fun b hb => Nat.lt_of_lt_of_le (hP b hb) hbw.size) (TrIn.keep (KP.of_below hbw hP) (fun b hb => hb) _ _ hIn) (by omega)
          have hcc : ∀ x, wr.cell? ⟨b, x, none⟩ = w.cell? ⟨b, x, none⟩ := fun x => hbw.cell (p := ⟨b, x, none⟩) (hP b hPb)
          rw [← hcc] at a0 a1 a2 a3 a4
          subst hpk
          generalize e.ks[i] = k at *
          generalize hsg : (e.ks.take i).foldl (fun n k => max n (tdp k)) 0 = sg at *
          have hcast : ((m - 1 : Nat) : Int) = (m : Int) - 1 := by omega
          rw [hcast] at hcall
          have HC := hide hcall
          have HST := hide hst
          have hii : (i : Int) < nk := by omega
          generalize hrr : min (tdp k) (m - 1 + 1) = rr at *
          generalize hn5 : min sg m = n5 at *
          have HRR := hide hrr
          have HN5 := hide hn5
          have hrb : rr ≤ m := by omega
          have hnb : n5 ≤ m := by omega
          clear hcall hst hcc hbr hbw hIn hb5 hsg hcast hrr hn5
          rcases Nat.lt_or_ge n5 rr with hq | hq
          · have hqi : (n5 : Int) < rr := by omega
            go_wp2_with fail
            refine HC.out.mono ?_
            rintro r w1 ⟨rfl, hb1⟩
            have HB1 := hide hb1
            clear hb1
            go_wp2_with fail
            go_roundg (nk - (i + 1))
            case measure => omega
            case rel =>
              refine ⟨i + 1, by omega, rfl, by go_num, ?_, HBR.out.trans (HB1.out.mono (by have := HBR.out.size; simpa using this))⟩
              have h1 := HST.out
              have h2 := HRR.out
              have h3 := HN5.out
              rw [h1]
              have h4 : (min (max sg (tdp k)) m : Nat) = rr := by omega
              rw [h4]
              try (congr 1; omega)
          · have hqi : ¬ (n5 : Int) < rr := by omega
            go_wp2_with fail
            refine HC.out.mono ?_
            rintro r w1 ⟨rfl, hb1⟩
            have HB1 := hide hb1
            clear hb1
            go_wp2_with fail
            go_roundg (nk - (i + 1))
            case measure => omega
            case rel =>
              refine ⟨i + 1, by omega, rfl, by go_num, ?_, HBR.out.trans (HB1.out.mono (by have := HBR.out.size; simpa using this))⟩
              have h1 := HST.out
              have h2 := HRR.out
              have h3 := HN5.out
              rw [h1]
              have h4 : (min (max sg (tdp k)) m : Nat) = n5 := by omega
              rw [h4]
              try (congr 1; omega)
        · have h1 : e.ks.take i = e.ks := List.take_of_length_le (by rw [HNK.out]; omega)
          have ht := HT.out
          rw [h1]
          generalize hsg : e.ks.foldl (fun n k => max n (tdp k)) 0 = sg at *
          have hres : min (tdp e) (m + 1) = min sg m + 1 := by omega
          have HRES := hide hres
          generalize min sg m = n5 at *
          have hn5 : n5 ≤ 9223372036854775806 := by
            have := HRES.out; omega
          clear hbr hbw hb5 h1 ht hsg hres
          go_wp2_with fail
          go_ret
          exact ⟨by rw [HRES.out]; rfl, HB0.out.trans (HBR.out.mono (by omega))⟩
end Go.Proofs.YtebcdjlhmoffjaaDoor
