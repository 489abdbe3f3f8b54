/-
  THE WALK OF dawdlerref04's kids.
-/
import Derived.Test.YtebcdjlhmoffjaaDoorRefNames
import Derived.Test.YtebcdjlhmoffjaaDoorRefLeaf
import Derived.Test.YtebcdjlhmoffjaaDoorRefPlain
import Derived.Test.YtebcdjlhmoffjaaDoorFew2
namespace Go.Proofs.YtebcdjlhmoffjaaDoor
open Go.RowKit
set_option linter.unusedVariables false
set_option linter.unusedSimpArgs false
/-- May a Kid of that kind stand here? -/
def mayK (k may : Int) : Bool := !((decide (k = 8) || decide (k = 13)) && !decide (k = may))
def manyK (k : Int) : Nat := if k = 5 ∨ k = 6 ∨ k = 9 then 2 else if k = 10 then 3 else 1
def kidsF (l : List (Tr × Bool)) (may : Int) : Bool := l.all fun k => k.2 && mayK k.1.kd may
def lastK (l : List Tr) : Int := (l.getLast?.map (·.kd)).getD 0
def firstK (l : List Tr) : Int := (l.head?.map (·.kd)).getD 0
def rsF (t : Tr) (l : List (Tr × Bool)) : Bool :=
  rplainM t && decide (1 ≤ t.kd) && decide (t.kd ≤ 13) &&
  (if t.kd ≤ 3 then rleafM t
   else if t.kd = 7 then !(decide (t.ks.length < 2) || decide (firstK t.ks = 8) || decide (firstK t.ks = 13)) && t.ks.tail.all (fun k => decide (k.kd = 8)) && kidsF l 8
   else if t.kd = 11 ∨ t.kd = 12 then !(decide (t.ks.length = 0) || decide (lastK t.ks = 13)) && kidsF l 13
   else decide (t.ks.length = manyK t.kd) && kidsF l 0 && (if t.kd = 4 ∨ t.kd = 6 ∨ t.kd = 13 then rnamesM t.ns 1 else if t.kd = 8 then rnamesM t.ns (-1) && cn t.nm else if t.kd = 9 then isOp t.nm || isCmp t.nm else true))
/-- Is a tree sound, by the document's answer? -/
def rsoundM (t : Tr) : Bool := t.fold rsF
def rkidsM (l : List Tr) (may : Int) : Bool := l.all fun k => rsoundM k && mayK k.kd may
theorem kidsF_map (l : List Tr) (may : Int) : kidsF (l.map fun k => (k, k.fold rsF)) may = rkidsM l may := by
  unfold kidsF rkidsM rsoundM
  rw [List.all_map]
  rfl
def rwaysM (t : Tr) : Bool := !(decide (t.ks.length < 2) || decide (firstK t.ks = 8) || decide (firstK t.ks = 13)) && t.ks.tail.all (fun k => decide (k.kd = 8)) && rkidsM t.ks 8
def rblockM (t : Tr) : Bool := !(decide (t.ks.length = 0) || decide (lastK t.ks = 13)) && rkidsM t.ks 13
def rbindM (t : Tr) : Bool := decide (t.ks.length = manyK t.kd) && rkidsM t.ks 0 && (if t.kd = 4 ∨ t.kd = 6 ∨ t.kd = 13 then rnamesM t.ns 1 else if t.kd = 8 then rnamesM t.ns (-1) && cn t.nm else if t.kd = 9 then isOp t.nm || isCmp t.nm else true)
theorem rsF_eq (t : Tr) (l : List (Tr × Bool)) : rsF t l = (rplainM t && decide (1 ≤ t.kd) && decide (t.kd ≤ 13) &&
  (if t.kd ≤ 3 then rleafM t
   else if t.kd = 7 then !(decide (t.ks.length < 2) || decide (firstK t.ks = 8) || decide (firstK t.ks = 13)) && t.ks.tail.all (fun k => decide (k.kd = 8)) && kidsF l 8
   else if t.kd = 11 ∨ t.kd = 12 then !(decide (t.ks.length = 0) || decide (lastK t.ks = 13)) && kidsF l 13
   else decide (t.ks.length = manyK t.kd) && kidsF l 0 && (if t.kd = 4 ∨ t.kd = 6 ∨ t.kd = 13 then rnamesM t.ns 1 else if t.kd = 8 then rnamesM t.ns (-1) && cn t.nm else if t.kd = 9 then isOp t.nm || isCmp t.nm else true))) := rfl
theorem rsoundM_eq (t : Tr) : rsoundM t = (rplainM t && decide (1 ≤ t.kd) && decide (t.kd ≤ 13) && (if t.kd ≤ 3 then rleafM t else if t.kd = 7 then rwaysM t else if t.kd = 11 ∨ t.kd = 12 then rblockM t else rbindM t)) := by
  unfold rsoundM
  rw [Tr.fold_eq, rsF_eq]
  simp only [kidsF_map]
  rfl
/-- What Sound tells of a tree. -/
def RS (k : Tr) : Prop := ∀ {P : Nat → Prop} {w : World} {pn pk : Option Addr} {cn ck : Nat}, (∀ b, P b → b < w.heap.size) → TrIn P w k [.int .i64 k.kd, .string (S k.nm), .int .i64 k.nu, .slice pn k.ns.length cn, .slice pk k.ks.length ck] →
    Calls Tryd.prog 27 #[.agg (cs5 k pn cn pk ck)] w fun r w' => r = .returned (.bool (rsoundM k)) ∧ Below w.heap.size w w'
theorem em_at {P : Nat → Prop} {w : World} {l : List Tr} {pk : Option Addr} (hE : EM P w pk l) {i : Nat} (hi : i < l.length) : ∃ b o qn dn qk dk, pk = some ⟨b, o, none⟩ ∧ P b ∧ TrIn P w l[i] [.int .i64 l[i].kd, .string (S l[i].nm), .int .i64 l[i].nu, .slice qn l[i].ns.length dn, .slice qk l[i].ks.length dk] ∧
    w.cell? ⟨b, o + i * 5, none⟩ = some (.int .i64 l[i].kd) ∧ w.cell? ⟨b, o + i * 5 + 1, none⟩ = some (.string (S l[i].nm)) ∧ w.cell? ⟨b, o + i * 5 + 2, none⟩ = some (.int .i64 l[i].nu) ∧ w.cell? ⟨b, o + i * 5 + 3, none⟩ = some (.slice qn l[i].ns.length dn) ∧ w.cell? ⟨b, o + i * 5 + 4, none⟩ = some (.slice qk l[i].ks.length dk) := by
  rcases hE with h | ⟨b, o, hp, hb, hm⟩
  · rw [h] at hi; simp at hi
  · obtain ⟨ds, h1, h2, h3⟩ := hm i l[i] (by simp)
    obtain ⟨qn, dn, qk, dk, rfl, _⟩ := (TrIn_iff _ _ _ _).1 h3
    exact ⟨b, o, qn, dn, qk, dk, hp, hb, h3, h2 0 _ rfl, h2 1 _ rfl, h2 2 _ rfl, h2 3 _ rfl, h2 4 _ rfl⟩
set_option maxHeartbeats 4000000 in
set_option maxRecDepth 100000 in
theorem rkids_any {l : List Tr} (hih : ∀ k ∈ l, RS k) {P : Nat → Prop} {w : World} {pk : Option Addr} {ck : Nat} {may : Int} (hP : ∀ b, P b → b < w.heap.size) (hn : l.length ≤ 9223372036854775807) (hE : EM P w pk l) :
    Calls Tryd.prog 41 #[.slice pk l.length ck, .int .i64 0, .int .i64 may] w fun r w' => r = .returned (.bool (rkidsM l may)) ∧ Below w.heap.size w w' := by
  have HIH := hide hih
  have HE := hide hE
  have HT : Hid (rkidsM l may = l.all fun k => rsoundM k && mayK k.kd may) := rfl
  clear hih hE
  generalize rkidsM l may = rv at *
  generalize hnk : l.length = nk at *
  have HNK := hide hnk
  clear hnk
  go_enter Tryd.func41, Tryd.ntmps41
  go_wp2_with fail
  go_loopg [7] nk (fun k s7 wr => ∃ i : Nat, i ≤ nk ∧ k = nk - i ∧ s7 = .int .i64 i ∧ Below w.heap.size w wr ∧ (l.take i).all (fun k => rsoundM k && mayK k.kd may) = true)
  case atStart => exact ⟨0, Nat.zero_le _, by omega, rfl, Below.refl _ _, rfl⟩
  case round =>
    obtain ⟨i, hi1, rfl, rfl, hbw, hall⟩ := hrel
    have HBR := hide hbw
    have HALL := hide hall
    by_cases hlt : i < nk
    · have hil : i < l.length := by rw [HNK.out]; exact hlt
      obtain ⟨b, o, qn, dn, qk, dk, hpk, hPb, hIn, a0, a1, a2, a3, a4⟩ := em_at HE.out hil
      have hcall := HIH.out l[i] (by simp) (w := wr) (fun b hb => Nat.lt_of_lt_of_le (hP b hb) hbw.size) (TrIn.keep (KP.of_below hbw hP) (fun b hb => hb) _ _ hIn)
      have hcc : ∀ x, wr.cell? ⟨b, x, none⟩ = w.cell? ⟨b, x, none⟩ := fun x => hbw.cell (p := ⟨b, x, none⟩) (hP b hPb)
      have hblt : b < wr.heap.size := Nat.lt_of_lt_of_le (hP b hPb) hbw.size
      rw [← hcc] at a0 a1 a2 a3 a4
      have htk : l.take (i + 1) = l.take i ++ [l[i]] := List.take_succ_eq_append_getElem hil
      have hmem : l[i] ∈ l := by simp
      subst hpk
      generalize l[i] = k at *
      unfold cs5 at hcall
      have HC := hide hcall
      have HTK := hide htk
      have HMEM := hide hmem
      have HLT := hide hblt
      have hii : (i : Int) < nk := by omega
      clear hcall hcc hbw hIn htk hmem hall hblt
      cases ht : rsoundM k
      · have HF : Hid (rv = false) := by
          show _ = _
          rw [HT.out, List.all_eq_false]
          exact ⟨k, HMEM.out, by simp [ht]⟩
        rw [ht] at HC
        clear ht
        go_wp2_with fail
        refine HC.out.mono ?_
        rintro r w1 ⟨rfl, hb1⟩
        have HB1 := hide hb1
        clear hb1
        go_wp2_with fail
        go_ret
        exact ⟨by rw [HF.out]; rfl, HBR.out.trans (HB1.out.mono HBR.out.size)⟩
      · have HTR := hide ht
        rw [ht] at HC
        clear ht
        have HMK : Hid (mayK k.kd may = !((decide (k.kd = 8) || decide (k.kd = 13)) && !decide (k.kd = may))) := rfl
        generalize hkd : k.kd = kd at *
        have HKD := hide hkd
        clear hkd
        have hY : (mayK kd may = true → (l.take (i + 1)).all (fun k => rsoundM k && mayK k.kd may) = true) := by
          intro h
          rw [HTK.out, List.all_append, HALL.out]
          simp [HTR.out, HKD.out, h]
        have hN : (mayK kd may = false → rv = false) := by
          intro h
          rw [HT.out, List.all_eq_false]
          exact ⟨k, HMEM.out, by simp [HKD.out, h]⟩
        have HY := hide hY
        have HN := hide hN
        clear hY hN
        by_cases q1 : kd = 8
        · subst q1
          by_cases m1 : may = 8
          · subst m1
            have HMF : Hid (mayK 8 8 = true) := rfl
            go_wp2_with fail
            refine HC.out.mono ?_
            rintro r w1 ⟨rfl, hb1⟩
            have c0 := (hb1.cell (p := ⟨b, o + i * 5, none⟩) HLT.out).trans a0
            have HB1 := hide hb1
            clear hb1
            go_wp2_with fail
            go_roundg (nk - (i + 1))
            case measure => omega
            case rel => exact ⟨i + 1, by omega, rfl, by go_num, HBR.out.trans (HB1.out.mono HBR.out.size), HY.out (HMF.out)⟩
          · have m2 : ((8 : Int) == may) = false := by simp; omega
            have m3 : ¬ (8 : Int) = may := by omega
            have HMF : Hid (mayK 8 may = false) := by show _ = _; rw [HMK.out]; simp; omega
            go_wp2_with fail
            refine HC.out.mono ?_
            rintro r w1 ⟨rfl, hb1⟩
            have c0 := (hb1.cell (p := ⟨b, o + i * 5, none⟩) HLT.out).trans a0
            have HB1 := hide hb1
            clear hb1
            go_wp2_with fail
            go_ret
            exact ⟨by rw [HN.out (HMF.out)]; rfl, HBR.out.trans (HB1.out.mono HBR.out.size)⟩
        · have q2 : (kd == 8) = false := by simpa using q1
          by_cases q3 : kd = 13
          · subst q3
            by_cases m1 : may = 13
            · subst m1
              have HMF : Hid (mayK 13 13 = true) := rfl
              go_wp2_with fail
              refine HC.out.mono ?_
              rintro r w1 ⟨rfl, hb1⟩
              have c0 := (hb1.cell (p := ⟨b, o + i * 5, none⟩) HLT.out).trans a0
              have HB1 := hide hb1
              clear hb1
              go_wp2_with fail
              go_roundg (nk - (i + 1))
              case measure => omega
              case rel => exact ⟨i + 1, by omega, rfl, by go_num, HBR.out.trans (HB1.out.mono HBR.out.size), HY.out (HMF.out)⟩
            · have m2 : ((13 : Int) == may) = false := by simp; omega
              have m3 : ¬ (13 : Int) = may := by omega
              have HMF : Hid (mayK 13 may = false) := by show _ = _; rw [HMK.out]; simp; omega
              go_wp2_with fail
              refine HC.out.mono ?_
              rintro r w1 ⟨rfl, hb1⟩
              have c0 := (hb1.cell (p := ⟨b, o + i * 5, none⟩) HLT.out).trans a0
              have HB1 := hide hb1
              clear hb1
              go_wp2_with fail
              go_ret
              exact ⟨by rw [HN.out (HMF.out)]; rfl, HBR.out.trans (HB1.out.mono HBR.out.size)⟩
          · have q4 : (kd == 13) = false := by simpa using q3
            have HMF : Hid (mayK kd may = true) := by show _ = _; rw [HMK.out]; simp [q1, q3]
            go_wp2_with fail
            refine HC.out.mono ?_
            rintro r w1 ⟨rfl, hb1⟩
            have c0 := (hb1.cell (p := ⟨b, o + i * 5, none⟩) HLT.out).trans a0
            have HB1 := hide hb1
            clear hb1
            go_wp2_with fail
            go_roundg (nk - (i + 1))
            case measure => omega
            case rel => exact ⟨i + 1, by omega, rfl, by go_num, HBR.out.trans (HB1.out.mono HBR.out.size), HY.out (HMF.out)⟩
    · have h1 : l.take i = l := List.take_of_length_le (by rw [HNK.out]; omega)
      have HF : Hid (rv = true) := by
        show _ = _
        rw [HT.out, ← h1, HALL.out]
      have hji : ¬ (i : Int) < nk := by omega
      clear hall hbw h1
      go_wp2_with fail
      go_ret
      exact ⟨by rw [HF.out]; rfl, HBR.out⟩
end Go.Proofs.YtebcdjlhmoffjaaDoor
