/-
  THE WALKS OF dawdlerref08's Walk AND root.
  THE WALK OF dawdlerref08's within.
-/
import Derived.Test.YteoflpalmckikaaDoorUniM
import Derived.Test.YteoflpalmckikaaDoorPutR
import Derived.Test.YteoflpalmckikaaDoorRefD
namespace Go.Proofs.YteoflpalmckikaaDoor
open Go.RowKit
set_option linter.unusedVariables false
set_option linter.unusedSimpArgs false
/-- A type that was found, in blocks of P. -/
def RQ (P : Nat → Prop) (t : Ty) (w : World) (r : Ending) (w' : World) : Prop := ∃ pk ck, r = .returned (.agg (cs3 t pk ck)) ∧ Below w.heap.size w w' ∧ TyIn P w' t [.string (S t.nm), .int .i64 t.n, .slice pk t.ar.length ck]
theorem rq_cell {P : Nat → Prop} {t : Ty} {w W : World} {pk : Option Addr} {ck B : Nat} (hP : ∀ b, P b → b < w.heap.size) (hB : w.heap.size ≤ B) (hb : Below w.heap.size w W) (h : TyIn P w t [.string (S t.nm), .int .i64 t.n, .slice pk t.ar.length ck]) : RQ P t w (.returned (.agg (cs3 t pk ck))) (((W.setCell ⟨B, 0, none⟩ (.string (S t.nm))).setCell ⟨B, 1, none⟩ (.int .i64 t.n)).setCell ⟨B, 2, none⟩ (.slice pk t.ar.length ck)) := by
  have h3 : Below w.heap.size w (((W.setCell ⟨B, 0, none⟩ (.string (S t.nm))).setCell ⟨B, 1, none⟩ (.int .i64 t.n)).setCell ⟨B, 2, none⟩ (.slice pk t.ar.length ck)) := ((hb.setCell (p := ⟨B, 0, none⟩) hB _).setCell (p := ⟨B, 1, none⟩) hB _).setCell (p := ⟨B, 2, none⟩) hB _
  exact ⟨pk, ck, rfl, h3, TyIn.keep (KP.of_below h3 hP) (fun b hb => hb) _ _ h⟩
section
variable {H : List Int} {l : List (Int × Ty)} {s : Int → Ty} {e : Int → Int} {p : Int → Nat}
theorem Inv.w_end (h : Inv H l s e p) {u : Ty} (ho : allT ok1 u = true) (hu : u.nm.isEmpty = true) (hno : ∀ f ∈ l, f.1 ≠ u.n) : walkT l e u = u ∧ rootT e u = u := by
  have he : e u.n = u.n := h.fin _ fun f hf e1 => absurd e1 (hno f hf)
  unfold walkT rootT
  rw [if_pos hu, if_pos hu, he, look_none hno]
  exact ⟨(ok_hole ho hu).symm, (ok_hole ho hu).symm⟩
theorem Inv.w_go (h : Inv H l s e p) {u : Ty} {f : Int × Ty} (hu : u.nm.isEmpty = true) (hf : f ∈ l) (hx : f.1 = u.n) : walkT l e f.2 = walkT l e u ∧ (if f.2.nm.isEmpty then p f.2.n + 1 else 0) < p u.n + 1 ∧ (f.2.nm.isEmpty = true → rootT e f.2 = rootT e u) ∧ (f.2.nm.isEmpty = false → rootT e u = hole u.n) := by
  unfold walkT rootT
  rw [if_pos hu, if_pos hu]
  cases hh : f.2.nm.isEmpty
  · have he : e u.n = u.n := h.fin _ fun g hg e1 => by rw [h.uniq hg hf (e1.trans hx.symm)]; exact hh
    rw [he]
    refine ⟨?_, by simp, by simp, fun _ => rfl⟩
    rw [if_neg (by simp), ← hx, h.look hf]
  · have h1 := ok_hole (h.ok f hf).1 hh
    obtain ⟨h2, h3⟩ := h.lnk f hf _ h1
    rw [hx] at h2 h3
    rw [if_pos rfl, if_pos rfl, if_pos rfl, h2]
    exact ⟨rfl, by omega, fun _ => rfl, by simp⟩
end
section
variable {H : List Int} {l : List (Int × Ty)} {s : Int → Ty} {e : Int → Int} {p : Int → Nat}
set_option maxHeartbeats 8000000 in
set_option maxRecDepth 100000 in
theorem rwalk_any (h : Inv H l s e p) (t : Ty) {P : Nat → Prop} {w : World} {pk pl : Option Addr} {ck cl : Nat} (hP : ∀ b, P b → b < w.heap.size) (hE : TyIn P w t [.string (S t.nm), .int .i64 t.n, .slice pk t.ar.length ck]) (hL : RM 4 P w (FaIn P w) pl l) (hll : l.length ≤ 1000000) (ho : allT ok1 t = true) :
    Calls Tryd.prog 65 #[.slice pl l.length cl, .agg (cs3 t pk ck)] w (RQ P (walkT l e t) w) := by
  have hB0 : Below w.heap.size w ((w.alloc (.cells (cs3 t pk ck) 24)).alloc (.cells #[.string ⟨#[]⟩, .int .i64 0, .slice none 0 0] 24)) := ((Below.refl _ w).alloc (Nat.le_refl _) _).alloc (by simp) _
  have hW0 : Hold w.heap.size (cs3 t pk ck) 24 ((w.alloc (.cells (cs3 t pk ck) 24)).alloc (.cells #[.string ⟨#[]⟩, .int .i64 0, .slice none 0 0] 24)) := (Hold.new w _ 24).alloc _
  have hR0 : Hold (w.heap.size + 1) #[.string ⟨#[]⟩, .int .i64 0, .slice none 0 0] 24 ((w.alloc (.cells (cs3 t pk ck) 24)).alloc (.cells #[.string ⟨#[]⟩, .int .i64 0, .slice none 0 0] 24)) := by have := Hold.new (w.alloc (.cells (cs3 t pk ck) 24)) #[.string ⟨#[]⟩, .int .i64 0, .slice none 0 0] 24; simpa using this
  have HFC := hide (fun (n : Int) (W : World) (hb : Below w.heap.size w W) => rfact_any (n := n) (cl := cl) (RM.keep (KP.of_below hb hP) (fun b hb => hb) (fun t ds h => FaIn.keep (KP.of_below hb hP) (fun b hb => hb) t ds h) hL) hll)
  have HW0 := hide hW0; have HR0 := hide hR0; have HB0 := hide hB0; have HE := hide hE; have HL := hide hL; have HI := hide h; have HO := hide ho
  clear hW0 hR0 hB0 hE hL h ho
  unfold cs3 at *
  generalize hrt : walkT l e t = rt at *
  have HRT := hide hrt
  clear hrt
  go_enter Tryd.func65, Tryd.ntmps65
  go_wp2_with fail
  go_loopg [5] (if t.nm.isEmpty then p t.n + 1 else 0) (fun k s5 wr => ∃ u qu du, k = (if u.nm.isEmpty then p u.n + 1 else 0) ∧ Hold w.heap.size #[.string (S u.nm), .int .i64 u.n, .slice qu u.ar.length du] 24 wr ∧ Hold (w.heap.size + 1) #[.string ⟨#[]⟩, .int .i64 0, .slice none 0 0] 24 wr ∧ Below w.heap.size w wr ∧ TyIn P w u [.string (S u.nm), .int .i64 u.n, .slice qu u.ar.length du] ∧ walkT l e u = rt ∧ allT ok1 u = true)
  case atStart => exact ⟨t, pk, ck, rfl, HW0.out, HR0.out, HB0.out, HE.out, HRT.out, HO.out⟩
  case round =>
    obtain ⟨u, qu, du, rfl, hbx, hrx, hbw, htu, hequ, hoku⟩ := hrel
    have u0 := hbx.cell 0; have u1 := hbx.cell 1; have u2 := hbx.cell 2
    simp only [List.getElem?_toArray, List.getElem?_cons_succ, List.getElem?_cons_zero] at u0 u1 u2
    have HBX := hide hbx; have HRX := hide hrx; have HBW := hide hbw; have HTU := hide htu; have HEQ := hide hequ; have HOK := hide hoku
    have hsz := hrx.lt
    have HH := hide (fun W => rhole_any u W qu du)
    unfold cs3 at HH
    clear hbx hrx hbw htu hequ hoku
    cases hh : u.nm.isEmpty with
    | false =>
      rw [hh] at HH
      have HEQ3 : Hid (rt = u) := hide (by rw [← HEQ.out]; unfold walkT; rw [if_neg (by rw [hh]; simp)])
      clear hh
      go_wp2_with fail
      refine (HH.out _).mono ?_
      rintro r w2 ⟨rfl, hb⟩
      have HB2 := hide (HBW.out.trans (hb.mono HBW.out.size))
      have HU2 := hide (HBX.out.below hb HBX.out.lt)
      have HR2 := hide (HRX.out.below hb HRX.out.lt)
      have hs4 := HR2.out.lt
      clear hb u0 u1 u2
      have u0 := HU2.out.cell 0; have u1 := HU2.out.cell 1; have u2 := HU2.out.cell 2
      simp only [List.getElem?_toArray, List.getElem?_cons_succ, List.getElem?_cons_zero] at u0 u1 u2
      have r2 := HR2.out
      have hf0 := r2.frozen 0
      have hf1 := r2.frozen 1
      have hf2 := r2.frozen 2
      have hr0 := r2.cell 0
      have hr1 := r2.cell 1
      have hr2 := r2.cell 2
      simp only [List.getElem?_toArray, List.getElem?_cons_succ, List.getElem?_cons_zero] at hr0 hr1 hr2
      have hs2 := r2.lt
      clear r2
      go_wp2_with fail
      have hro := hold3 HR2.out (.string (S u.nm)) (.int .i64 u.n) (.slice qu u.ar.length du)
      have q0 := hro.cell 0
      have q1 := hro.cell 1
      have q2 := hro.cell 2
      simp only [List.getElem?_toArray, List.getElem?_cons_succ, List.getElem?_cons_zero] at q0 q1 q2
      have HTQ : Hid (RQ P rt w (.returned (.agg (cs3 u qu du))) (((w2.setCell ⟨w.heap.size + 1, 0, none⟩ (.string (S u.nm))).setCell ⟨w.heap.size + 1, 1, none⟩ (.int .i64 u.n)).setCell ⟨w.heap.size + 1, 2, none⟩ (.slice qu u.ar.length du))) := by
        rw [HEQ3.out]
        exact rq_cell hP (by omega) HB2.out HTU.out
      generalize ((w2.setCell ⟨w.heap.size + 1, 0, none⟩ (.string (S u.nm))).setCell ⟨w.heap.size + 1, 1, none⟩ (.int .i64 u.n)).setCell ⟨w.heap.size + 1, 2, none⟩ (.slice qu u.ar.length du) = W3 at *
      exact bodyPost_ret (v := .agg (cs3 u qu du)) (by simp only [results, Tryd.results65]; unfold cs3; go_simp) rfl HTQ.out
    | true =>
      rw [hh] at HH
      have HUH := hide hh
      have HWE := hide (fun (hno : ∀ f ∈ l, f.1 ≠ u.n) => HI.out.w_end HOK.out hh hno)
      have HWG := hide (fun (f : Int × Ty) (hf : f ∈ l) (hx : f.1 = u.n) => HI.out.w_go hh hf hx)
      clear hh
      go_wp2_with fail
      refine (HH.out _).mono ?_
      rintro r w3 ⟨rfl, hb⟩
      have HB1 := hide (HBW.out.trans (hb.mono HBW.out.size))
      have HU1 := hide (HBX.out.below hb HBX.out.lt)
      have HR1 := hide (HRX.out.below hb HRX.out.lt)
      have hs4 := HR1.out.lt
      clear hb u0 u1 u2
      have u0 := HU1.out.cell 0; have u1 := HU1.out.cell 1; have u2 := HU1.out.cell 2
      simp only [List.getElem?_toArray, List.getElem?_cons_succ, List.getElem?_cons_zero] at u0 u1 u2
      go_wp2_with fail
      refine (HFC.out u.n w3 HB1.out).mono ?_
      rintro r w3 ⟨rfl, hor⟩
      rcases hor with ⟨i, f, hlf, rfl, hno, hx⟩ | ⟨rfl, hno⟩
      · have hi : i < l.length := (List.getElem?_eq_some_iff.1 hlf).1
        have hfl : f ∈ l := List.mem_of_getElem? hlf
        have HGO := hide (HWG.out f hfl hx)
        have HOK2 := hide (HI.out.ok f hfl).1
        obtain ⟨b1, o1, z1, z2, rfl, hp1, _, hin1, a0, a1, a2, a3⟩ := fm_at HL.out hi
        have hle : l[i] = f := (List.getElem?_eq_some_iff.1 hlf).2
        rw [hle] at hin1 a0 a1 a2 a3
        have hcc : ∀ W, Below w.heap.size w W → ∀ x, W.cell? ⟨b1, x, none⟩ = w.cell? ⟨b1, x, none⟩ := fun W hb x => hb.cell (p := ⟨b1, x, none⟩) (hP b1 hp1)
        have HIN1 := hide hin1; have HCC := hide hcc; have HA1 := hide a1; have HA2 := hide a2; have HA3 := hide a3
        have hii : ¬ ((i : Int) < 0) := by omega
        have hij : (i : Int) < l.length := by omega
        have c1 : w3.cell? ⟨b1, o1 + i * 4 + 1, none⟩ = some (.string (S f.2.nm)) := (hcc w3 HB1.out _).trans a1
        have c2 : w3.cell? ⟨b1, o1 + i * 4 + 1 + 1, none⟩ = some (.int .i64 f.2.n) := (hcc w3 HB1.out _).trans a2
        have c3 : w3.cell? ⟨b1, o1 + i * 4 + 1 + 2, none⟩ = some (.slice z1 f.2.ar.length z2) := (hcc w3 HB1.out _).trans a3
        clear hno hx hcc hin1 hle hlf hfl a0 a1 a2 a3
        have HEQ2 : Hid (walkT l e f.2 = rt) := hide (by rw [← HEQ.out, HGO.out.1])
        have r3 := HU1.out
        have uf0 := r3.frozen 0
        have uf1 := r3.frozen 1
        have uf2 := r3.frozen 2
        have hs3 := r3.lt
        clear r3
        go_wp2_with fail
        have hbx := hold3 HU1.out (.string (S f.2.nm)) (.int .i64 f.2.n) (.slice z1 f.2.ar.length z2)
        have hrx : Hold (w.heap.size + 1) #[.string ⟨#[]⟩, .int .i64 0, .slice none 0 0] 24 (((w3.setCell ⟨w.heap.size, 0, none⟩ (.string (S f.2.nm))).setCell ⟨w.heap.size, 1, none⟩ (.int .i64 f.2.n)).setCell ⟨w.heap.size, 2, none⟩ (.slice z1 f.2.ar.length z2)) := ((HR1.out.other (by omega) _ _).other (by omega) _ _).other (by omega) _ _
        have hbw : Below w.heap.size w (((w3.setCell ⟨w.heap.size, 0, none⟩ (.string (S f.2.nm))).setCell ⟨w.heap.size, 1, none⟩ (.int .i64 f.2.n)).setCell ⟨w.heap.size, 2, none⟩ (.slice z1 f.2.ar.length z2)) := ((HB1.out.setCell (p := ⟨w.heap.size, 0, none⟩) (Nat.le_refl _) _).setCell (p := ⟨w.heap.size, 1, none⟩) (Nat.le_refl _) _).setCell (p := ⟨w.heap.size, 2, none⟩) (Nat.le_refl _) _
        generalize ((w3.setCell ⟨w.heap.size, 0, none⟩ (.string (S f.2.nm))).setCell ⟨w.heap.size, 1, none⟩ (.int .i64 f.2.n)).setCell ⟨w.heap.size, 2, none⟩ (.slice z1 f.2.ar.length z2) = W3 at *
        go_roundg (if f.2.nm.isEmpty then p f.2.n + 1 else 0)
        case measure => exact HGO.out.2.1
        case rel => exact ⟨f.2, z1, z2, rfl, hbx, hrx, hbw, HIN1.out, HEQ2.out, HOK2.out⟩
      · have HEQ3 : Hid (rt = u) := hide (by rw [← HEQ.out, (HWE.out hno).1])
        clear hno
        have r2 := HR1.out
        have hf0 := r2.frozen 0
        have hf1 := r2.frozen 1
        have hf2 := r2.frozen 2
        have hr0 := r2.cell 0
        have hr1 := r2.cell 1
        have hr2 := r2.cell 2
        simp only [List.getElem?_toArray, List.getElem?_cons_succ, List.getElem?_cons_zero] at hr0 hr1 hr2
        have hs2 := r2.lt
        clear r2
        go_wp2_with fail
        have hro := hold3 HR1.out (.string (S u.nm)) (.int .i64 u.n) (.slice qu u.ar.length du)
        have q0 := hro.cell 0
        have q1 := hro.cell 1
        have q2 := hro.cell 2
        simp only [List.getElem?_toArray, List.getElem?_cons_succ, List.getElem?_cons_zero] at q0 q1 q2
        have HTQ : Hid (RQ P rt w (.returned (.agg (cs3 u qu du))) (((w3.setCell ⟨w.heap.size + 1, 0, none⟩ (.string (S u.nm))).setCell ⟨w.heap.size + 1, 1, none⟩ (.int .i64 u.n)).setCell ⟨w.heap.size + 1, 2, none⟩ (.slice qu u.ar.length du))) := by
          rw [HEQ3.out]
          exact rq_cell hP (by omega) HB1.out HTU.out
        generalize ((w3.setCell ⟨w.heap.size + 1, 0, none⟩ (.string (S u.nm))).setCell ⟨w.heap.size + 1, 1, none⟩ (.int .i64 u.n)).setCell ⟨w.heap.size + 1, 2, none⟩ (.slice qu u.ar.length du) = W3 at *
        exact bodyPost_ret (v := .agg (cs3 u qu du)) (by simp only [results, Tryd.results65]; unfold cs3; go_simp) rfl HTQ.out
end
section
variable {H : List Int} {l : List (Int × Ty)} {s : Int → Ty} {e : Int → Int} {p : Int → Nat}
set_option maxHeartbeats 8000000 in
set_option maxRecDepth 100000 in
theorem rroot_any (h : Inv H l s e p) (t : Ty) {P : Nat → Prop} {w : World} {pk pl : Option Addr} {ck cl : Nat} (hP : ∀ b, P b → b < w.heap.size) (hE : TyIn P w t [.string (S t.nm), .int .i64 t.n, .slice pk t.ar.length ck]) (hL : RM 4 P w (FaIn P w) pl l) (hll : l.length ≤ 1000000) (ho : allT ok1 t = true) :
    Calls Tryd.prog 64 #[.slice pl l.length cl, .agg (cs3 t pk ck)] w (RQ P (rootT e t) w) := by
  have hB0 : Below w.heap.size w ((w.alloc (.cells (cs3 t pk ck) 24)).alloc (.cells #[.string ⟨#[]⟩, .int .i64 0, .slice none 0 0] 24)) := ((Below.refl _ w).alloc (Nat.le_refl _) _).alloc (by simp) _
  have hW0 : Hold w.heap.size (cs3 t pk ck) 24 ((w.alloc (.cells (cs3 t pk ck) 24)).alloc (.cells #[.string ⟨#[]⟩, .int .i64 0, .slice none 0 0] 24)) := (Hold.new w _ 24).alloc _
  have hR0 : Hold (w.heap.size + 1) #[.string ⟨#[]⟩, .int .i64 0, .slice none 0 0] 24 ((w.alloc (.cells (cs3 t pk ck) 24)).alloc (.cells #[.string ⟨#[]⟩, .int .i64 0, .slice none 0 0] 24)) := by have := Hold.new (w.alloc (.cells (cs3 t pk ck) 24)) #[.string ⟨#[]⟩, .int .i64 0, .slice none 0 0] 24; simpa using this
  have HFC := hide (fun (n : Int) (W : World) (hb : Below w.heap.size w W) => rfact_any (n := n) (cl := cl) (RM.keep (KP.of_below hb hP) (fun b hb => hb) (fun t ds h => FaIn.keep (KP.of_below hb hP) (fun b hb => hb) t ds h) hL) hll)
  have HW0 := hide hW0; have HR0 := hide hR0; have HB0 := hide hB0; have HE := hide hE; have HL := hide hL; have HI := hide h; have HO := hide ho
  clear hW0 hR0 hB0 hE hL h ho
  unfold cs3 at *
  generalize hrt : rootT e t = rt at *
  have HRT := hide hrt
  clear hrt
  go_enter Tryd.func64, Tryd.ntmps64
  go_wp2_with fail
  go_loopg [5] (if t.nm.isEmpty then p t.n + 1 else 0) (fun k s5 wr => ∃ u qu du, k = (if u.nm.isEmpty then p u.n + 1 else 0) ∧ Hold w.heap.size #[.string (S u.nm), .int .i64 u.n, .slice qu u.ar.length du] 24 wr ∧ Hold (w.heap.size + 1) #[.string ⟨#[]⟩, .int .i64 0, .slice none 0 0] 24 wr ∧ Below w.heap.size w wr ∧ TyIn P w u [.string (S u.nm), .int .i64 u.n, .slice qu u.ar.length du] ∧ rootT e u = rt ∧ allT ok1 u = true)
  case atStart => exact ⟨t, pk, ck, rfl, HW0.out, HR0.out, HB0.out, HE.out, HRT.out, HO.out⟩
  case round =>
    obtain ⟨u, qu, du, rfl, hbx, hrx, hbw, htu, hequ, hoku⟩ := hrel
    have u0 := hbx.cell 0; have u1 := hbx.cell 1; have u2 := hbx.cell 2
    simp only [List.getElem?_toArray, List.getElem?_cons_succ, List.getElem?_cons_zero] at u0 u1 u2
    have HBX := hide hbx; have HRX := hide hrx; have HBW := hide hbw; have HTU := hide htu; have HEQ := hide hequ; have HOK := hide hoku
    have hsz := hrx.lt
    have HH := hide (fun W => rhole_any u W qu du)
    unfold cs3 at HH
    clear hbx hrx hbw htu hequ hoku
    cases hh : u.nm.isEmpty with
    | false =>
      rw [hh] at HH
      have HEQ3 : Hid (rt = u) := hide (by rw [← HEQ.out]; unfold rootT; rw [if_neg (by rw [hh]; simp)])
      clear hh
      go_wp2_with fail
      refine (HH.out _).mono ?_
      rintro r w2 ⟨rfl, hb⟩
      have HB2 := hide (HBW.out.trans (hb.mono HBW.out.size))
      have HU2 := hide (HBX.out.below hb HBX.out.lt)
      have HR2 := hide (HRX.out.below hb HRX.out.lt)
      have hs4 := HR2.out.lt
      clear hb u0 u1 u2
      have u0 := HU2.out.cell 0; have u1 := HU2.out.cell 1; have u2 := HU2.out.cell 2
      simp only [List.getElem?_toArray, List.getElem?_cons_succ, List.getElem?_cons_zero] at u0 u1 u2
      have r2 := HR2.out
      have hf0 := r2.frozen 0
      have hf1 := r2.frozen 1
      have hf2 := r2.frozen 2
      have hr0 := r2.cell 0
      have hr1 := r2.cell 1
      have hr2 := r2.cell 2
      simp only [List.getElem?_toArray, List.getElem?_cons_succ, List.getElem?_cons_zero] at hr0 hr1 hr2
      have hs2 := r2.lt
      clear r2
      go_wp2_with fail
      have hro := hold3 HR2.out (.string (S u.nm)) (.int .i64 u.n) (.slice qu u.ar.length du)
      have q0 := hro.cell 0
      have q1 := hro.cell 1
      have q2 := hro.cell 2
      simp only [List.getElem?_toArray, List.getElem?_cons_succ, List.getElem?_cons_zero] at q0 q1 q2
      have HTQ : Hid (RQ P rt w (.returned (.agg (cs3 u qu du))) (((w2.setCell ⟨w.heap.size + 1, 0, none⟩ (.string (S u.nm))).setCell ⟨w.heap.size + 1, 1, none⟩ (.int .i64 u.n)).setCell ⟨w.heap.size + 1, 2, none⟩ (.slice qu u.ar.length du))) := by
        rw [HEQ3.out]
        exact rq_cell hP (by omega) HB2.out HTU.out
      generalize ((w2.setCell ⟨w.heap.size + 1, 0, none⟩ (.string (S u.nm))).setCell ⟨w.heap.size + 1, 1, none⟩ (.int .i64 u.n)).setCell ⟨w.heap.size + 1, 2, none⟩ (.slice qu u.ar.length du) = W3 at *
      exact bodyPost_ret (v := .agg (cs3 u qu du)) (by simp only [results, Tryd.results64]; unfold cs3; go_simp) rfl HTQ.out
    | true =>
      rw [hh] at HH
      have HUH := hide hh
      have HWE := hide (fun (hno : ∀ f ∈ l, f.1 ≠ u.n) => HI.out.w_end HOK.out hh hno)
      have HWG := hide (fun (f : Int × Ty) (hf : f ∈ l) (hx : f.1 = u.n) => HI.out.w_go hh hf hx)
      clear hh
      go_wp2_with fail
      refine (HH.out _).mono ?_
      rintro r w3 ⟨rfl, hb⟩
      have HB1 := hide (HBW.out.trans (hb.mono HBW.out.size))
      have HU1 := hide (HBX.out.below hb HBX.out.lt)
      have HR1 := hide (HRX.out.below hb HRX.out.lt)
      have hs4 := HR1.out.lt
      clear hb u0 u1 u2
      have u0 := HU1.out.cell 0; have u1 := HU1.out.cell 1; have u2 := HU1.out.cell 2
      simp only [List.getElem?_toArray, List.getElem?_cons_succ, List.getElem?_cons_zero] at u0 u1 u2
      go_wp2_with fail
      refine (HFC.out u.n w3 HB1.out).mono ?_
      rintro r w3 ⟨rfl, hor⟩
      rcases hor with ⟨i, f, hlf, rfl, hno, hx⟩ | ⟨rfl, hno⟩
      · have hi : i < l.length := (List.getElem?_eq_some_iff.1 hlf).1
        have hfl : f ∈ l := List.mem_of_getElem? hlf
        have HGO := hide (HWG.out f hfl hx)
        have HOK2 := hide (HI.out.ok f hfl).1
        obtain ⟨b1, o1, z1, z2, rfl, hp1, _, hin1, a0, a1, a2, a3⟩ := fm_at HL.out hi
        have hle : l[i] = f := (List.getElem?_eq_some_iff.1 hlf).2
        rw [hle] at hin1 a0 a1 a2 a3
        have hcc : ∀ W, Below w.heap.size w W → ∀ x, W.cell? ⟨b1, x, none⟩ = w.cell? ⟨b1, x, none⟩ := fun W hb x => hb.cell (p := ⟨b1, x, none⟩) (hP b1 hp1)
        have HIN1 := hide hin1; have HCC := hide hcc; have HA1 := hide a1; have HA2 := hide a2; have HA3 := hide a3
        have hii : ¬ ((i : Int) < 0) := by omega
        have hij : (i : Int) < l.length := by omega
        have c1 : w3.cell? ⟨b1, o1 + i * 4 + 1, none⟩ = some (.string (S f.2.nm)) := (hcc w3 HB1.out _).trans a1
        have c2 : w3.cell? ⟨b1, o1 + i * 4 + 1 + 1, none⟩ = some (.int .i64 f.2.n) := (hcc w3 HB1.out _).trans a2
        have c3 : w3.cell? ⟨b1, o1 + i * 4 + 1 + 2, none⟩ = some (.slice z1 f.2.ar.length z2) := (hcc w3 HB1.out _).trans a3
        clear hno hx hcc hin1 hle hlf hfl a0 a1 a2 a3
        have HHF := hide (fun W => rhole_any f.2 W z1 z2)
        unfold cs3 at HHF
        cases hhf : f.2.nm.isEmpty with
        | false =>
          rw [hhf] at HHF
          have HEQ3 : Hid (rt = u) := hide (by rw [← HEQ.out, HGO.out.2.2.2 hhf]; exact (ok_hole HOK.out HUH.out).symm)
          go_wp2_with fail
          refine (HHF.out _).mono ?_
          rintro r w4 ⟨rfl, hb⟩
          have HB4 := hide (HB1.out.trans (hb.mono HB1.out.size))
          have HU4 := hide (HU1.out.below hb HU1.out.lt)
          have HR4 := hide (HR1.out.below hb HR1.out.lt)
          have hs4 := HR4.out.lt
          clear hb u0 u1 u2
          have u0 := HU4.out.cell 0; have u1 := HU4.out.cell 1; have u2 := HU4.out.cell 2
          simp only [List.getElem?_toArray, List.getElem?_cons_succ, List.getElem?_cons_zero] at u0 u1 u2
          have r2 := HR4.out
          have hf0 := r2.frozen 0
          have hf1 := r2.frozen 1
          have hf2 := r2.frozen 2
          have hr0 := r2.cell 0
          have hr1 := r2.cell 1
          have hr2 := r2.cell 2
          simp only [List.getElem?_toArray, List.getElem?_cons_succ, List.getElem?_cons_zero] at hr0 hr1 hr2
          have hs2 := r2.lt
          clear r2
          go_wp2_with fail
          have hro := hold3 HR4.out (.string (S u.nm)) (.int .i64 u.n) (.slice qu u.ar.length du)
          have q0 := hro.cell 0
          have q1 := hro.cell 1
          have q2 := hro.cell 2
          simp only [List.getElem?_toArray, List.getElem?_cons_succ, List.getElem?_cons_zero] at q0 q1 q2
          have HTQ : Hid (RQ P rt w (.returned (.agg (cs3 u qu du))) (((w4.setCell ⟨w.heap.size + 1, 0, none⟩ (.string (S u.nm))).setCell ⟨w.heap.size + 1, 1, none⟩ (.int .i64 u.n)).setCell ⟨w.heap.size + 1, 2, none⟩ (.slice qu u.ar.length du))) := by
            rw [HEQ3.out]
            exact rq_cell hP (by omega) HB4.out HTU.out
          generalize ((w4.setCell ⟨w.heap.size + 1, 0, none⟩ (.string (S u.nm))).setCell ⟨w.heap.size + 1, 1, none⟩ (.int .i64 u.n)).setCell ⟨w.heap.size + 1, 2, none⟩ (.slice qu u.ar.length du) = W3 at *
          exact bodyPost_ret (v := .agg (cs3 u qu du)) (by simp only [results, Tryd.results64]; unfold cs3; go_simp) rfl HTQ.out
        | true =>
          rw [hhf] at HHF
          have HEQ2 : Hid (rootT e f.2 = rt) := hide (by rw [← HEQ.out, HGO.out.2.2.1 hhf])
          have HGO2 := hide (HGO.out.2.1)
          go_wp2_with fail
          refine (HHF.out _).mono ?_
          rintro r w4 ⟨rfl, hb⟩
          have HB4 := hide (HB1.out.trans (hb.mono HB1.out.size))
          have HU4 := hide (HU1.out.below hb HU1.out.lt)
          have HR4 := hide (HR1.out.below hb HR1.out.lt)
          have hs4 := HR4.out.lt
          have hbb := hb
          clear u0 u1 u2
          have u0 := HU4.out.cell 0; have u1 := HU4.out.cell 1; have u2 := HU4.out.cell 2
          simp only [List.getElem?_toArray, List.getElem?_cons_succ, List.getElem?_cons_zero] at u0 u1 u2
          clear c1 c2 c3
          have c1 : w4.cell? ⟨b1, o1 + i * 4 + 1, none⟩ = some (.string (S f.2.nm)) := (HCC.out w4 HB4.out _).trans HA1.out
          have c2 : w4.cell? ⟨b1, o1 + i * 4 + 1 + 1, none⟩ = some (.int .i64 f.2.n) := (HCC.out w4 HB4.out _).trans HA2.out
          have c3 : w4.cell? ⟨b1, o1 + i * 4 + 1 + 2, none⟩ = some (.slice z1 f.2.ar.length z2) := (HCC.out w4 HB4.out _).trans HA3.out
          clear hb hbb
          have r3 := HU4.out
          have uf0 := r3.frozen 0
          have uf1 := r3.frozen 1
          have uf2 := r3.frozen 2
          have hs3 := r3.lt
          clear r3
          go_wp2_with fail
          have hbx := hold3 HU4.out (.string (S f.2.nm)) (.int .i64 f.2.n) (.slice z1 f.2.ar.length z2)
          have hrx : Hold (w.heap.size + 1) #[.string ⟨#[]⟩, .int .i64 0, .slice none 0 0] 24 (((w4.setCell ⟨w.heap.size, 0, none⟩ (.string (S f.2.nm))).setCell ⟨w.heap.size, 1, none⟩ (.int .i64 f.2.n)).setCell ⟨w.heap.size, 2, none⟩ (.slice z1 f.2.ar.length z2)) := ((HR4.out.other (by omega) _ _).other (by omega) _ _).other (by omega) _ _
          have hbw : Below w.heap.size w (((w4.setCell ⟨w.heap.size, 0, none⟩ (.string (S f.2.nm))).setCell ⟨w.heap.size, 1, none⟩ (.int .i64 f.2.n)).setCell ⟨w.heap.size, 2, none⟩ (.slice z1 f.2.ar.length z2)) := ((HB4.out.setCell (p := ⟨w.heap.size, 0, none⟩) (Nat.le_refl _) _).setCell (p := ⟨w.heap.size, 1, none⟩) (Nat.le_refl _) _).setCell (p := ⟨w.heap.size, 2, none⟩) (Nat.le_refl _) _
          generalize ((w4.setCell ⟨w.heap.size, 0, none⟩ (.string (S f.2.nm))).setCell ⟨w.heap.size, 1, none⟩ (.int .i64 f.2.n)).setCell ⟨w.heap.size, 2, none⟩ (.slice z1 f.2.ar.length z2) = W3 at *
          go_roundg (p f.2.n + 1)
          case measure => have h := HGO2.out; rw [hhf] at h; simpa using h
          case rel => exact ⟨f.2, z1, z2, by rw [hhf]; rfl, hbx, hrx, hbw, HIN1.out, HEQ2.out, HOK2.out⟩
      · have HEQ3 : Hid (rt = u) := hide (by rw [← HEQ.out, (HWE.out hno).2])
        clear hno
        have r2 := HR1.out
        have hf0 := r2.frozen 0
        have hf1 := r2.frozen 1
        have hf2 := r2.frozen 2
        have hr0 := r2.cell 0
        have hr1 := r2.cell 1
        have hr2 := r2.cell 2
        simp only [List.getElem?_toArray, List.getElem?_cons_succ, List.getElem?_cons_zero] at hr0 hr1 hr2
        have hs2 := r2.lt
        clear r2
        go_wp2_with fail
        have hro := hold3 HR1.out (.string (S u.nm)) (.int .i64 u.n) (.slice qu u.ar.length du)
        have q0 := hro.cell 0
        have q1 := hro.cell 1
        have q2 := hro.cell 2
        simp only [List.getElem?_toArray, List.getElem?_cons_succ, List.getElem?_cons_zero] at q0 q1 q2
        have HTQ : Hid (RQ P rt w (.returned (.agg (cs3 u qu du))) (((w3.setCell ⟨w.heap.size + 1, 0, none⟩ (.string (S u.nm))).setCell ⟨w.heap.size + 1, 1, none⟩ (.int .i64 u.n)).setCell ⟨w.heap.size + 1, 2, none⟩ (.slice qu u.ar.length du))) := by
          rw [HEQ3.out]
          exact rq_cell hP (by omega) HB1.out HTU.out
        generalize ((w3.setCell ⟨w.heap.size + 1, 0, none⟩ (.string (S u.nm))).setCell ⟨w.heap.size + 1, 1, none⟩ (.int .i64 u.n)).setCell ⟨w.heap.size + 1, 2, none⟩ (.slice qu u.ar.length du) = W3 at *
        exact bodyPost_ret (v := .agg (cs3 u qu du)) (by simp only [results, Tryd.results64]; unfold cs3; go_simp) rfl HTQ.out
end
end Go.Proofs.YteoflpalmckikaaDoor
namespace Go.Proofs.YteoflpalmckikaaDoor
open Go.RowKit
set_option linter.unusedVariables false
set_option linter.unusedSimpArgs false
theorem nodup_len {l : List Int} : ∀ {H : List Int}, l.Nodup → (∀ m ∈ l, m ∈ H) → l.length ≤ H.length := by
  induction l with
  | nil => intro H _ _; simp
  | cons a r ih =>
    intro H hn hs
    rw [List.nodup_cons] at hn
    have ha := hs a (by simp)
    have h1 := ih (H := H.erase a) hn.2 fun m hm => (List.mem_erase_of_ne (fun e1 => hn.1 (by rw [← e1]; exact hm))).2 (hs m (by simp [hm]))
    rw [List.length_erase_of_mem ha] at h1
    have := List.length_pos_of_mem ha
    simp only [List.length_cons]
    omega
def rankT (p : Int → Nat) (t : Ty) : Nat := if t.nm.isEmpty then p t.n + 1 else 0
/-- A hole that is gone through: what is looked for is not in it, or it is one on the way. -/
def Good (s : Int → Ty) (p : Int → Nat) (n : Int) (t : Ty) (seen : List Int) : Prop := ∀ m ∈ seen, n ∉ hls (s m) ∨ tsz (sub s t) < tsz (s m) ∨ (tsz (sub s t) = tsz (s m) ∧ rankT p t < p m + 1)
theorem Good.down {s : Int → Ty} {p : Int → Nat} {n : Int} {t k : Ty} {seen : List Int} (h : Good s p n t seen) (hk : tsz (sub s k) < tsz (sub s t) ∨ (tsz (sub s k) = tsz (sub s t) ∧ rankT p k < rankT p t)) : Good s p n k seen := by
  intro m hm
  rcases h m hm with h1 | h1 | ⟨h1, h2⟩
  · exact .inl h1
  · exact .inr (.inl (by omega))
  · rcases hk with hk | ⟨hk, hk2⟩
    · exact .inr (.inl (by omega))
    · exact .inr (.inr ⟨by omega, by omega⟩)
section
variable (H : List Int) (l : List (Int × Ty)) (s : Int → Ty) (p : Int → Nat) (P : Nat → Prop) (pl : Option Addr) (cl : Nat) (n : Int)
def WQ (t : Ty) (seen : List Int) (base : Nat) (w : World) (r : Ending) (w' : World) : Prop := Below w.heap.size w w' ∧ ∃ v', (n ∈ hls (sub s t) ∧ r = .returned (.tuple #[v', .bool true])) ∨ (n ∉ hls (sub s t) ∧ r = .returned (.tuple #[v', .bool false]) ∧ ∃ seen', IL base v' seen' w' ∧ seen'.Nodup ∧ (∀ m ∈ seen', m ∈ H) ∧ ∀ m ∈ seen', m ∈ seen ∨ n ∉ hls (s m))
def WOK (t : Ty) : Prop := ∀ (w : World) (pk : Option Addr) (ck : Nat) (v : Value) (seen : List Int) (base : Nat), (∀ b, P b → b < w.heap.size) → RM 4 P w (FaIn P w) pl l → TyIn P w t [.string (S t.nm), .int .i64 t.n, .slice pk t.ar.length ck] → IL base v seen w → base ≤ w.heap.size → seen.Nodup → (∀ m ∈ seen, m ∈ H) → Good s p n t seen → (∀ m ∈ hls t, m ∈ H) → allT ok1 t = true →
  Calls Tryd.prog 66 #[.slice pl l.length cl, .int .i64 n, .agg (cs3 t pk ck), v] w (WQ H s n t seen base w)
end
section
variable {H : List Int} {l : List (Int × Ty)} {s : Int → Ty} {e : Int → Int} {p : Int → Nat}
set_option maxHeartbeats 16000000 in
set_option maxRecDepth 100000 in
theorem within_step (h : Inv H l s e p) {n : Int} (hn : ∀ f ∈ l, f.1 ≠ n) (hHl : H.length ≤ 100000) (hll : l.length ≤ 1000000) {P : Nat → Prop} {pl : Option Addr} {cl : Nat} (t : Ty) (ih : ∀ k : Ty, tsz (sub s k) < tsz (sub s t) ∨ (tsz (sub s k) = tsz (sub s t) ∧ rankT p k < rankT p t) → WOK H l s p P pl cl n k) : WOK H l s p P pl cl n t := by
  intro w pk ck v seen base hP hL hE hil hbase hnd hsH hgd htH hot
  have hB0 : Below w.heap.size w (w.alloc (.cells (cs3 t pk ck) 24)) := (Below.refl _ w).alloc (Nat.le_refl _) _
  have hX0 : Hold w.heap.size (cs3 t pk ck) 24 (w.alloc (.cells (cs3 t pk ck) 24)) := Hold.new w _ 24
  have HI := hide (fun W => rhole_any t W pk ck)
  have HFC := hide (fun (n : Int) (W : World) (hb : Below w.heap.size w W) => rfact_any (n := n) (cl := cl) (RM.keep (KP.of_below hb hP) (fun b hb => hb) (fun t ds h => FaIn.keep (KP.of_below hb hP) (fun b hb => hb) t ds h) hL) hll)
  have HB0 := hide hB0; have HX0 := hide hX0; have HL := hide hL; have HE := hide hE; have HIL := hide hil; have HGD := hide hgd; have HTH := hide htH; have HOT := hide hot; have HSH := hide hsH; have HIH := hide ih
  have hkl := hE.len
  clear hB0 hX0 hL hE hil hgd htH hot hsH ih
  unfold cs3 at *
  have x0 := HX0.out.cell 0; have x1 := HX0.out.cell 1; have x2 := HX0.out.cell 2
  simp only [List.getElem?_toArray, List.getElem?_cons_succ, List.getElem?_cons_zero] at x0 x1 x2
  cases hh : t.nm.isEmpty with
  | true =>
    have hst : sub s t = s t.n := sub_at _ _ hh
    have hrk : rankT p t = p t.n + 1 := by unfold rankT; rw [if_pos hh]
    have htH := HTH.out t.n (by rw [hls_at _ hh]; simp)
    have HST := hide hst; have HRK := hide hrk
    rw [hh] at HI
    clear hst hrk hh
    generalize hnk : t.ar.length = nk at *
    clear hnk
    go_enter Tryd.func66, Tryd.ntmps66
    go_wp2_with fail
    refine (HI.out _).mono ?_
    rintro r w1 ⟨rfl, hb⟩
    have HB1 := hide (HB0.out.trans (hb.mono HB0.out.size))
    have HX1 := hide (HX0.out.below hb HX0.out.lt)
    clear x0 x1 x2
    have x0 := HX1.out.cell 0; have x1 := HX1.out.cell 1; have x2 := HX1.out.cell 2
    simp only [List.getElem?_toArray, List.getElem?_cons_succ, List.getElem?_cons_zero] at x0 x1 x2
    clear hb
    by_cases htn : t.n = n
    · have htb : (t.n == n) = true := by simpa using htn
      have HTN := hide htn
      clear htn
      go_wp2_with fail
      refine bodyPost_ret (v := .tuple #[v, .bool true]) (by simp only [results, Tryd.results66]; go_simp) rfl ?_
      refine ⟨HB1.out, _, .inl ⟨?_, rfl⟩⟩
      rw [HST.out, HTN.out, h.idl n hn, hls_hole]
      simp
    · have htb : (t.n == n) = false := by simpa using htn
      have HTN := hide htn
      have hal : (addI seen t.n).length = if t.n ∈ seen then seen.length else seen.length + 1 := by
        unfold addI
        split <;> simp
      have HADD := hide (fun (W : World) (hb : Below w.heap.size w W) => radd_any (n := t.n) (HIL.out.below hb) (Nat.le_trans hbase hb.size) (by have := nodup_len hnd HSH.out; omega))
      obtain ⟨ps, cs, hvs, hsg⟩ := HIL.out.slice
      subst hvs
      have hsl : seen.length ≤ 100000 := by have := nodup_len hnd HSH.out; omega
      have hand := addI_nodup hnd t.n
      have hanH : ∀ m ∈ addI seen t.n, m ∈ H := fun m hm => by
        rcases (addI_mem _ _ _).1 hm with h1 | rfl
        · exact HSH.out m h1
        · exact htH
      have hamem := fun m => addI_mem seen t.n m
      generalize hsd : addI seen t.n = sd at *
      have HAL := hide hal; have HAND := hide hand; have HANH := hide hanH; have HAM := hide hamem
      clear hal hand hanH hamem htn hsg
      generalize hslen : seen.length = ls at *
      go_wp2_with fail
      refine (HADD.out w1 HB1.out).mono ?_
      rintro r w2 ⟨v2, rfl, hil2, hb⟩
      have HB2 := hide (HB1.out.trans (hb.mono HB1.out.size))
      have HX2 := hide (HX1.out.below hb HX1.out.lt)
      clear x0 x1 x2
      have x0 := HX2.out.cell 0; have x1 := HX2.out.cell 1; have x2 := HX2.out.cell 2
      simp only [List.getElem?_toArray, List.getElem?_cons_succ, List.getElem?_cons_zero] at x0 x1 x2
      have HIL2 := hide hil2
      clear hb hil2
      go_wp2_with fail
      refine (HFC.out t.n w2 HB2.out).mono ?_
      rintro r w2 ⟨rfl, hor⟩
      obtain ⟨p2, c2, hv2, _⟩ := HIL2.out.slice
      subst hv2
      have hal2 := HAL.out
      generalize hsdl : sd.length = ld at *
      by_cases hms : t.n ∈ seen
      · rw [if_pos hms] at hal2
        have hle : ((ld : Int) == (ls : Int)) = true := by rw [hal2]; simp
        have hno : n ∉ hls (sub s t) := by
          rcases HGD.out t.n hms with h1 | h1 | ⟨_, h1⟩
          · rw [HST.out]; exact h1
          · rw [HST.out] at h1; omega
          · rw [HRK.out] at h1; omega
        have HNO := hide hno
        have hsub : ∀ m ∈ sd, m ∈ seen := fun m hm => by
          rcases (HAM.out m).1 hm with h1 | rfl
          · exact h1
          · exact hms
        have HSB := hide hsub
        clear hms hno hsub hal2
        rcases hor with ⟨i, f, hlf, rfl, hno, hx⟩ | ⟨rfl, hno⟩
        all_goals
          clear hno
          go_wp2_with fail
          refine bodyPost_ret (v := .tuple #[.slice p2 ld c2, .bool false]) (by simp only [results, Tryd.results66]; go_simp) rfl ?_
          exact ⟨HB2.out, _, .inr ⟨HNO.out, rfl, sd, by unfold IL; rw [hsdl]; exact (by have h5 := HIL2.out; unfold IL at h5; rw [hsdl] at h5; exact h5), HAND.out, HANH.out, fun m hm => .inl (HSB.out m hm)⟩⟩
      · rw [if_neg hms] at hal2
        have hle : ((ld : Int) == (ls : Int)) = false := by rw [hal2]; simp; omega
        clear hal2
        rcases hor with ⟨i, f, hlf, rfl, hno, hx⟩ | ⟨rfl, hno⟩
        · have hi : i < l.length := (List.getElem?_eq_some_iff.1 hlf).1
          have hfl : f ∈ l := List.mem_of_getElem? hlf
          obtain ⟨b1, o1, z1, z2, hpe, hp1, _, hin1, a0, a1, a2, a3⟩ := fm_at HL.out hi
          subst hpe
          have hle2 : l[i] = f := (List.getElem?_eq_some_iff.1 hlf).2
          rw [hle2] at hin1 a0 a1 a2 a3
          have hcc : ∀ x, w2.cell? ⟨b1, x, none⟩ = w.cell? ⟨b1, x, none⟩ := fun x => HB2.out.cell (p := ⟨b1, x, none⟩) (hP b1 hp1)
          have hii : ¬ ((i : Int) < 0) := by omega
          have hij : (i : Int) < l.length := by omega
          have c1 : w2.cell? ⟨b1, o1 + i * 4 + 1, none⟩ = some (.string (S f.2.nm)) := (hcc _).trans a1
          have c2 : w2.cell? ⟨b1, o1 + i * 4 + 1 + 1, none⟩ = some (.int .i64 f.2.n) := (hcc _).trans a2
          have c3 : w2.cell? ⟨b1, o1 + i * 4 + 1 + 2, none⟩ = some (.slice z1 f.2.ar.length z2) := (hcc _).trans a3
          have hsf : sub s f.2 = sub s t := by rw [HST.out, ← hx, h.fixd f hfl]
          have hrf : rankT p f.2 < rankT p t := by
            rw [HRK.out]
            unfold rankT
            cases he : f.2.nm.isEmpty
            · rw [if_neg (by simp)]; omega
            · have := (h.lnk f hfl _ (ok_hole (h.ok f hfl).1 he)).2
              rw [hx] at this
              rw [if_pos rfl]
              omega
          have hgd : Good s p n f.2 sd := by
            intro m hm
            rcases (HAM.out m).1 hm with h1 | rfl
            · rcases HGD.out m h1 with g1 | g1 | ⟨g1, g2⟩
              · exact .inl g1
              · exact .inr (.inl (by rw [hsf]; exact g1))
              · exact .inr (.inr ⟨by rw [hsf]; exact g1, by omega⟩)
            · exact .inr (.inr ⟨by rw [hsf, HST.out], by have := HRK.out; omega⟩)
          have hcall := HIH.out f.2 (.inr ⟨by rw [hsf], hrf⟩) w2 z1 z2 _ sd base (fun b hb => Nat.lt_of_lt_of_le (hP b hb) HB2.out.size) (RM.keep (KP.of_below HB2.out hP) (fun b hb => hb) (fun t ds h => FaIn.keep (KP.of_below HB2.out hP) (fun b hb => hb) t ds h) HL.out) (TyIn.keep (KP.of_below HB2.out hP) (fun b hb => hb) _ _ hin1) HIL2.out (Nat.le_trans hbase HB2.out.size) HAND.out HANH.out hgd (h.ok f hfl).2.2 (h.ok f hfl).1
          have HC := hide hcall; have HSF := hide hsf
          unfold cs3 at HC
          clear hcall hsf hrf hgd hno hx hin1 a0 a1 a2 a3 hcc hle2 hlf hfl
          go_wp2_with fail
          refine HC.out.mono ?_
          rintro r w3 ⟨hb3, v3, hor3⟩
          have HB3 := hide (HB2.out.trans (hb3.mono HB2.out.size))
          clear hb3
          rcases hor3 with ⟨hfd, rfl⟩ | ⟨hfd, rfl, seen3, hs1, hs2, hs3, hs4⟩
          · have HFD := hide hfd
            clear hfd
            go_wp2_with fail
            refine bodyPost_ret (v := .tuple #[v3, .bool true]) (by simp only [results, Tryd.results66]; go_simp) rfl ?_
            exact ⟨HB3.out, _, .inl ⟨by rw [← HSF.out]; exact HFD.out, rfl⟩⟩
          · have HFD := hide hfd
            have HS := hide (And.intro hs1 (And.intro hs2 (And.intro hs3 hs4)))
            clear hfd hs1 hs2 hs3 hs4
            go_wp2_with fail
            refine bodyPost_ret (v := .tuple #[v3, .bool false]) (by simp only [results, Tryd.results66]; go_simp) rfl ?_
            refine ⟨HB3.out, _, .inr ⟨by rw [← HSF.out]; exact HFD.out, rfl, seen3, HS.out.1, HS.out.2.1, HS.out.2.2.1, fun m hm => ?_⟩⟩
            rcases HS.out.2.2.2 m hm with h1 | h1
            · rcases (HAM.out m).1 h1 with h2 | rfl
              · exact .inl h2
              · exact .inr (by rw [← HST.out, ← HSF.out]; exact HFD.out)
            · exact .inr h1
        · have hid := h.idl t.n hno
          have hnn : n ∉ hls (s t.n) := by
            rw [hid, hls_hole]
            simp
            exact fun e1 => HTN.out e1.symm
          have HNN := hide hnn
          clear hno hid hnn hms
          go_wp2_with fail
          refine bodyPost_ret (v := .tuple #[.slice p2 ld c2, .bool false]) (by simp only [results, Tryd.results66]; go_simp) rfl ?_
          refine ⟨HB2.out, _, .inr ⟨by rw [HST.out]; exact HNN.out, rfl, sd, by unfold IL; rw [hsdl]; exact (by have h5 := HIL2.out; unfold IL at h5; rw [hsdl] at h5; exact h5), HAND.out, HANH.out, fun m hm => ?_⟩⟩
          rcases (HAM.out m).1 hm with h1 | rfl
          · exact .inl h1
          · exact .inr HNN.out
  | false =>
    have hsn : sub s t = ⟨t.nm, 0, t.ar.map (sub s)⟩ := sub_node _ _ hh
    have hth : hls t = t.ar.flatMap hls := hls_node _ hh
    have HSN := hide hsn; have HTT := hide hth
    have HOA := hide (allT_kid HOT.out).2
    have HHLS : Hid (hls (sub s t) = t.ar.flatMap fun k => hls (sub s k)) := hide (by rw [hsn, hls_node _ (by exact hh)]; simp [List.flatMap_map])
    rw [hh] at HI
    clear hsn hth hh
    generalize hnk : t.ar.length = nk at *
    have HNK := hide hnk
    clear hnk
    go_enter Tryd.func66, Tryd.ntmps66
    go_wp2_with fail
    refine (HI.out _).mono ?_
    rintro r w1 ⟨rfl, hb⟩
    have HB1 := hide (HB0.out.trans (hb.mono HB0.out.size))
    have HX1 := hide (HX0.out.below hb HX0.out.lt)
    clear x0 x1 x2
    have x0 := HX1.out.cell 0; have x1 := HX1.out.cell 1; have x2 := HX1.out.cell 2
    simp only [List.getElem?_toArray, List.getElem?_cons_succ, List.getElem?_cons_zero] at x0 x1 x2
    clear hb
    go_wp2_with fail
    go_loopg [3, 12, 13, 14, 59] nk (fun k s3 s12 s13 s14 s59 wr => ∃ (i : Nat) (sn : List Int) (ps : Option Addr) (cs : Nat), i ≤ nk ∧ k = nk - i ∧ s12 = .int .i64 i ∧ s3 = .slice ps sn.length cs ∧ IL base (.slice ps sn.length cs) sn wr ∧ sn.Nodup ∧ (∀ m ∈ sn, m ∈ H) ∧ (∀ m ∈ sn, m ∈ seen ∨ n ∉ hls (s m)) ∧ (∀ k ∈ t.ar.take i, n ∉ hls (sub s k)) ∧ Below w1.heap.size w1 wr)
    case atStart =>
      obtain ⟨ps, cs, rfl, _⟩ := HIL.out.slice
      exact ⟨0, seen, ps, cs, Nat.zero_le _, by omega, rfl, rfl, HIL.out.below HB1.out, hnd, HSH.out, fun m hm => .inl hm, by simp, Below.refl _ _⟩
    case round =>
      obtain ⟨i, sn, ps, cs, hi1, rfl, rfl, rfl, g1, g2, g3, g4, g5, hbr⟩ := hrel
      have HG1 := hide g1; have HG2 := hide g2; have HG3 := hide g3; have HG4 := hide g4; have HG5 := hide g5
      have HBR := hide hbr
      have HBW := hide (HB1.out.trans (hbr.mono HB1.out.size))
      have HX2 := hide (HX1.out.below hbr HX1.out.lt)
      clear x0 x1 x2 g1 g2 g3 g4 g5 hbr
      have x0 := HX2.out.cell 0; have x1 := HX2.out.cell 1; have x2 := HX2.out.cell 2
      simp only [List.getElem?_toArray, List.getElem?_cons_succ, List.getElem?_cons_zero] at x0 x1 x2
      by_cases hlt : i < nk
      · have hil : i < t.ar.length := by rw [HNK.out]; exact hlt
        obtain ⟨b, o, qk, dk, hpk, hPb, hIn, a0, a1, a2⟩ := kid_at (e := t) (ck := ck) (pk := pk) (by rw [HNK.out]; exact HE.out) hil
        have hcc : ∀ x, wr.cell? ⟨b, x, none⟩ = w.cell? ⟨b, x, none⟩ := fun x => HBW.out.cell (p := ⟨b, x, none⟩) (hP b hPb)
        rw [← hcc] at a0 a1 a2
        have hmem := List.getElem_mem hil
        have htk : t.ar.take (i + 1) = t.ar.take i ++ [t.ar[i]] := List.take_succ_eq_append_getElem hil
        have hlt2 : tsz (sub s t.ar[i]) < tsz (sub s t) := tsz_kid_lt (by rw [HSN.out]; exact List.mem_map_of_mem hmem)
        have hhl : ∀ m ∈ hls t.ar[i], m ∈ H := fun m hm => HTH.out m (by rw [HTT.out]; exact List.mem_flatMap.2 ⟨_, hmem, hm⟩)
        have hgd : Good s p n t.ar[i] sn := by
          intro m hm
          rcases HG4.out m hm with h1 | h1
          · exact (HGD.out.down (.inl hlt2)) m h1
          · exact .inl h1
        have hcall := HIH.out t.ar[i] (.inl hlt2) wr qk dk _ sn base (fun b hb => Nat.lt_of_lt_of_le (hP b hb) HBW.out.size) (RM.keep (KP.of_below HBW.out hP) (fun b hb => hb) (fun t ds h => FaIn.keep (KP.of_below HBW.out hP) (fun b hb => hb) t ds h) HL.out) (TyIn.keep (KP.of_below HBW.out hP) (fun b hb => hb) _ _ hIn) HG1.out (Nat.le_trans hbase HBW.out.size) HG2.out HG3.out hgd hhl (HOA.out _ hmem)
        have HME := hide hmem; have HTK := hide htk
        have hfl : n ∈ hls (sub s t.ar[i]) → n ∈ hls (sub s t) := fun h1 => by rw [HHLS.out]; exact List.mem_flatMap.2 ⟨_, hmem, h1⟩
        subst hpk
        generalize t.ar[i] = k at *
        have HC := hide hcall; have HFL := hide hfl
        unfold cs3 at HC
        have hii : (i : Int) < nk := by omega
        clear hcall hcc hIn hmem htk hlt2 hhl hgd hfl
        go_wp2_with fail
        refine HC.out.mono ?_
        rintro r w3 ⟨hb3, v3, hor3⟩
        have HB3 := hide (HBW.out.trans (hb3.mono HBW.out.size))
        have HB13 := hide (HBR.out.trans (hb3.mono HBR.out.size))
        clear hb3
        rcases hor3 with ⟨hfd, rfl⟩ | ⟨hfd, rfl, seen3, hs1, hs2, hs3, hs4⟩
        · have HFD := hide hfd
          clear hfd
          go_wp2_with fail
          refine bodyPost_ret (v := .tuple #[v3, .bool true]) (by simp only [results, Tryd.results66]; go_simp) rfl ?_
          exact ⟨HB3.out, _, .inl ⟨HFL.out HFD.out, rfl⟩⟩
        · have hs5 : ∀ m ∈ seen3, m ∈ seen ∨ n ∉ hls (s m) := fun m hm => by
            rcases hs4 m hm with h1 | h1
            · exact HG4.out m h1
            · exact .inr h1
          have hs6 : ∀ k' ∈ t.ar.take (i + 1), n ∉ hls (sub s k') := fun k' hk' => by
            rw [HTK.out] at hk'
            rcases List.mem_append.1 hk' with h1 | h1
            · exact HG5.out k' h1
            · rw [List.mem_singleton.1 h1]; exact hfd
          obtain ⟨p3, c3, hv3, _⟩ := hs1.slice
          subst hv3
          have HS := hide (And.intro hs1 (And.intro hs2 (And.intro hs3 (And.intro hs5 hs6))))
          clear hfd hs1 hs2 hs3 hs4 hs5 hs6
          go_wp2_with fail
          go_roundg (nk - (i + 1))
          case measure => omega
          case rel => exact ⟨i + 1, seen3, p3, c3, by omega, rfl, by go_num, rfl, HS.out.1, HS.out.2.1, HS.out.2.2.1, HS.out.2.2.2.1, HS.out.2.2.2.2, HB13.out⟩
      · have h1 : t.ar.take i = t.ar := List.take_of_length_le (by rw [HNK.out]; omega)
        rw [h1] at HG5
        have hii : ¬ (i : Int) < nk := by omega
        clear h1
        go_wp2_with fail
        refine bodyPost_ret (v := .tuple #[.slice ps sn.length cs, .bool false]) (by simp only [results, Tryd.results66]; go_simp) rfl ?_
        refine ⟨HBW.out, _, .inr ⟨?_, rfl, sn, HG1.out, HG2.out, HG3.out, HG4.out⟩⟩
        rw [HHLS.out]
        intro h1
        obtain ⟨k, hk, h2⟩ := List.mem_flatMap.1 h1
        exact HG5.out k hk h2
theorem rwithin_any (h : Inv H l s e p) {n : Int} (hn : ∀ f ∈ l, f.1 ≠ n) (hHl : H.length ≤ 100000) (hll : l.length ≤ 1000000) {P : Nat → Prop} {pl : Option Addr} {cl : Nat} (t : Ty) : WOK H l s p P pl cl n t := by
  have main : ∀ (a b : Nat) (t : Ty), tsz (sub s t) ≤ a → rankT p t ≤ b → WOK H l s p P pl cl n t := by
    intro a
    induction a with
    | zero => intro b t ha; have := tsz_pos (sub s t); omega
    | succ a iha =>
      intro b
      induction b with
      | zero =>
        intro t ha hb
        refine within_step h hn hHl hll t fun k hk => ?_
        rcases hk with hk | ⟨_, hk⟩
        · exact iha _ k (by omega) (Nat.le_refl _)
        · omega
      | succ b ihb =>
        intro t ha hb
        refine within_step h hn hHl hll t fun k hk => ?_
        rcases hk with hk | ⟨hk, hk2⟩
        · exact iha _ k (by omega) (Nat.le_refl _)
        · exact ihb k (by omega) (by omega)
  exact main _ _ t (Nat.le_refl _) (Nat.le_refl _)
end
end Go.Proofs.YteoflpalmckikaaDoor
