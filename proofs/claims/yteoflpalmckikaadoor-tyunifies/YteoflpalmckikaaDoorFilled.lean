/-
  THE WALKS OF ty's hole AND filled.
-/
import Derived.Test.YteoflpalmckikaaDoorMk
namespace Go.Proofs.YteoflpalmckikaaDoor
open Go.RowKit
set_option linter.unusedVariables false
set_option linter.unusedSimpArgs false
/-- What is told of a hole: a type in new memory. -/
def TQ (t : Ty) (w : World) (r : Ending) (w' : World) : Prop := ∃ pk ck, r = .returned (.agg (cs3 t pk ck)) ∧ Below w.heap.size w w' ∧ TyIn (New w.heap.size w'.heap.size) w' t [.string (S t.nm), .int .i64 t.n, .slice pk t.ar.length ck]
theorem S_nil : S [] = ⟨#[]⟩ := rfl
theorem hole_in (P : Nat → Prop) (w : World) (n : Int) (h : -9223372036854775808 ≤ n ∧ n ≤ 9223372036854775807) : TyIn P w (hole n) [.string ⟨#[]⟩, .int .i64 n, .slice none 0 0] := by
  rw [TyIn_iff]
  exact ⟨none, 0, rfl, by simp [hole], h, ⟨by simp [hole], by omega, fun _ => rfl⟩, .inl rfl⟩
theorem hole_any (n : Int) (w : World) (h : -9223372036854775808 ≤ n ∧ n ≤ 9223372036854775807) : Calls Tryd.prog 38 #[.int .i64 n] w (TQ (hole n) w) := by
  go_enter Tryd.func38, Tryd.ntmps38
  go_wp2_with fail
  refine bodyPost_ret (v := .agg #[.string ⟨#[]⟩, .int .i64 n, .slice none 0 0]) (by simp [results, Tryd.results38, go_sem]) rfl ⟨none, 0, rfl, (Below.refl _ w).alloc (Nat.le_refl _) _, ?_⟩
  exact hole_in _ _ n h
/-- A type's three cells, written. -/
theorem hold3 {B : Nat} {W : World} {x y z : Value} {t : TypeId} (h : Hold B #[x, y, z] t W) (a b c : Value) : Hold B #[a, b, c] t (((W.setCell ⟨B, 0, none⟩ a).setCell ⟨B, 1, none⟩ b).setCell ⟨B, 2, none⟩ c) := by
  have h1 := ((h.set 0 a).set 1 b).set 2 c
  simpa using h1
theorem kp3 (W : World) (B : Nat) (a b c : Value) : KP (fun k => k ≠ B) W (((W.setCell ⟨B, 0, none⟩ a).setCell ⟨B, 1, none⟩ b).setCell ⟨B, 2, none⟩ c) :=
  ((KP.setCell W B 0 a fun h => h rfl).trans (KP.setCell _ B 1 b fun h => h rfl)).trans (KP.setCell _ B 2 c fun h => h rfl)
theorem size3 (W : World) (B : Nat) (a b c : Value) : (((W.setCell ⟨B, 0, none⟩ a).setCell ⟨B, 1, none⟩ b).setCell ⟨B, 2, none⟩ c).heap.size = W.heap.size := by simp
/-- A type that was made, written into the cell of the result. -/
theorem tq_cell {t : Ty} {w W : World} {pk : Option Addr} {ck B : Nat} (hB : w.heap.size ≤ B) (hb : Below w.heap.size w W) (h : TyIn (fun b => w.heap.size ≤ b ∧ b < W.heap.size ∧ b ≠ B) W t [.string (S t.nm), .int .i64 t.n, .slice pk t.ar.length ck]) : TQ t w (.returned (.agg (cs3 t pk ck))) (((W.setCell ⟨B, 0, none⟩ (.string (S t.nm))).setCell ⟨B, 1, none⟩ (.int .i64 t.n)).setCell ⟨B, 2, none⟩ (.slice pk t.ar.length ck)) := by
  have k := kp3 W B (.string (S t.nm)) (.int .i64 t.n) (.slice pk t.ar.length ck)
  refine ⟨pk, ck, rfl, ?_, TyIn.keep (k.mono fun b hb => hb.2.2) (fun b hb => ⟨hb.1, by rw [size3]; exact hb.2.1⟩) _ _ h⟩
  exact hb.trans (k.below fun x hx => by omega)
theorem ar_le (e : Ty) : e.ar.length ≤ (e.ar.map tsz).sum := by
  have h2 : (e.ar.map fun _ => 1).sum ≤ (e.ar.map tsz).sum := sum_le_sum _ fun k _ => tsz_pos k
  rw [List.map_const', List.sum_replicate_nat] at h2
  omega
/-- A function's value that is called. -/
def CallsV (fv : Value) (n : Int) (w : World) (Q : Ending → World → Prop) : Prop :=
  (fv = .func (.func 38) #[] #[] ∧ Calls Tryd.prog 38 #[.int .i64 n] w Q) ∨ (∃ B, fv = .func (.func 37) #[] #[.pointer (some ⟨B, 0, none⟩)] ∧ Calls Tryd.prog 37 #[.int .i64 n, .pointer (some ⟨B, 0, none⟩)] w Q) ∨ (∃ B, fv = .func (.func 42) #[] #[.pointer (some ⟨B, 0, none⟩)] ∧ Calls Tryd.prog 42 #[.int .i64 n, .pointer (some ⟨B, 0, none⟩)] w Q)
set_option maxHeartbeats 8000000 in
set_option maxRecDepth 100000 in
theorem filled_any (sg : Int → Ty) (e : Ty) : ∀ {P : Nat → Prop} {w : World} {pk : Option Addr} {ck : Nat} {fv : Value}, (∀ b, P b → b < w.heap.size) → TyIn P w e [.string (S e.nm), .int .i64 e.n, .slice pk e.ar.length ck] → tsz e ≤ 1000000 → (∀ n ∈ hls e, ∀ W, Below w.heap.size w W → CallsV fv n W (TQ (sg n) W)) →
    Calls Tryd.prog 36 #[.agg (cs3 e pk ck), fv] w (TQ (sub sg e) w) := by
  induction e using Ty.ind with
  | _ e ih =>
    intro P w pk ck fv hP hE hsz hcv
    have hkl := hE.len
    obtain ⟨hnl, hn1, hn2⟩ := hE.bds
    have hB0 : Below w.heap.size w ((w.alloc (.cells (cs3 e pk ck) 24)).alloc (.cells #[.string ⟨#[]⟩, .int .i64 0, .slice none 0 0] 24)) := ((Below.refl _ w).alloc (Nat.le_refl _) _).alloc (by simp) _
    have hW : Hold w.heap.size (cs3 e pk ck) 24 ((w.alloc (.cells (cs3 e pk ck) 24)).alloc (.cells #[.string ⟨#[]⟩, .int .i64 0, .slice none 0 0] 24)) := (Hold.new w _ 24).alloc _
    have hR : Hold (w.heap.size + 1) #[.string ⟨#[]⟩, .int .i64 0, .slice none 0 0] 24 ((w.alloc (.cells (cs3 e pk ck) 24)).alloc (.cells #[.string ⟨#[]⟩, .int .i64 0, .slice none 0 0] 24)) := by have := Hold.new (w.alloc (.cells (cs3 e pk ck) 24)) #[.string ⟨#[]⟩, .int .i64 0, .slice none 0 0] 24; simpa using this
    have HI := hide fun W => isHole_any e W pk ck
    have HB0 := hide hB0
    have HW := hide hW
    have HR := hide hR
    have HIH := hide ih
    have HE := hide hE
    have HCV := hide hcv
    clear ih hE hB0 hW hR hcv
    cases hh : e.nm.isEmpty
    · have HSUB := hide (sub_node sg e hh)
      have HLS := hide (hls_node e hh)
      have hlen : e.ar.length ≤ 1000000 := by
        have h1 := tsz_eq e
        have h2 := ar_le e
        omega
      have hks : ∀ k ∈ e.ar, tsz k ≤ 1000000 := by
        intro k hk
        have h1 := tsz_eq e
        obtain ⟨i, hi, rfl⟩ := List.getElem_of_mem hk
        have h2 := sum_take tsz hi
        have h3 := sum_take_le tsz e.ar (i + 1)
        omega
      have HKS := hide hks
      generalize sub sg e = te at *
      rw [hh] at HI
      unfold cs3 at *
      have HTM := hide (tm_of HE.out)
      generalize hnk : e.ar.length = nk at *
      have HNK := hide hnk
      obtain ⟨i0, hi, hz0, hz1, hz2'⟩ := info_parts info24
      clear hnk hks hh hsz hkl
      go_enter Tryd.func36, Tryd.ntmps36
      go_wp2_with fail
      refine (HI.out _).mono ?_
      rintro r w1 ⟨rfl, hb1⟩
      have c0 := HW.out.below hb1 HW.out.lt
      have r0 := HR.out.below hb1 HR.out.lt
      have HB1 := hide (HB0.out.trans (hb1.mono HB0.out.size))
      have k0 := c0.cell 0
      have k2 := c0.cell 2
      simp only [List.getElem?_toArray, List.getElem?_cons_succ, List.getElem?_cons_zero] at k0 k2
      have hs1 : w.heap.size + 1 < w1.heap.size := r0.lt
      have hs0 : w.heap.size < w1.heap.size := by omega
      have HR1 := hide r0
      clear hb1 c0 r0
      go_wp2_with fail
      go_loopg [20] nk (fun k s20 wr => ∃ i : Nat, ∃ v : Value, i ≤ nk ∧ k = nk - i ∧ s20 = .int .i64 i ∧ Below w.heap.size w wr ∧ Hold w1.heap.size #[.string (S e.nm), .int .i64 0, v] 24 wr ∧ Hold (w.heap.size + 1) #[.string ⟨#[]⟩, .int .i64 0, .slice none 0 0] 24 wr ∧ Row3 (w1.heap.size + 1) w1.heap.size wr v ((e.ar.take i).map (sub sg)) ∧ w1.heap.size + 1 ≤ wr.heap.size)
      case atStart =>
        refine ⟨0, .slice none 0 0, Nat.zero_le _, by omega, rfl, HB1.out.alloc HB1.out.size _, Hold.new w1 _ 24, HR1.out.alloc _, Row3.nil _ _ _, by simp⟩
      case round =>
        obtain ⟨i, v, hi1, rfl, rfl, hbr, hmd, hrs, hrow, hszr⟩ := hrel
        have HBR := hide hbr
        have HMD := hide hmd
        have HRS := hide hrs
        have HROW := hide hrow
        by_cases hlt : i < nk
        · have hil : i < e.ar.length := by rw [HNK.out]; exact hlt
          obtain ⟨b, o, qk, dk, hpk, hPb, hIn, a0, a1, a2⟩ := tm_at HTM.out hil
          have hcc : ∀ x, wr.cell? ⟨b, x, none⟩ = w.cell? ⟨b, x, none⟩ := fun x => hbr.cell (p := ⟨b, x, none⟩) (hP b hPb)
          rw [← hcc] at a0 a1 a2
          have hmem : ∀ n ∈ hls e.ar[i], n ∈ hls e := fun n hn => by rw [HLS.out]; exact List.mem_flatMap.2 ⟨_, List.getElem_mem hil, hn⟩
          have hbw : Below w.heap.size w ((wr.alloc (.cells #[.string (S e.ar[i].nm), .int .i64 e.ar[i].n, .slice qk e.ar[i].ar.length dk] 24)).drew) := by
            have := hbr.alloc hbr.size (.cells #[.string (S e.ar[i].nm), .int .i64 e.ar[i].n, .slice qk e.ar[i].ar.length dk] 24)
            exact ⟨this.os, this.tape, this.output, this.size, this.block⟩
          have hcall := HIH.out e.ar[i] (by simp) (w := (wr.alloc (.cells #[.string (S e.ar[i].nm), .int .i64 e.ar[i].n, .slice qk e.ar[i].ar.length dk] 24)).drew) (fv := fv) (fun b hb => Nat.lt_of_lt_of_le (hP b hb) hbw.size) (TyIn.keep (KP.of_below hbw hP) (fun b hb => hb) _ _ hIn) (HKS.out _ (List.getElem_mem hil)) (fun n hn W hW => HCV.out n (hmem n hn) W (hbw.trans (hW.mono hbw.size)))
          have htk : (e.ar.take (i + 1)).map (sub sg) = (e.ar.take i).map (sub sg) ++ [sub sg e.ar[i]] := by rw [List.take_succ_eq_append_getElem hil, List.map_append, List.map_singleton]
          have htl : ((e.ar.take i).map (sub sg)).length = i := by simp; omega
          have HTL := hide htl
          subst hpk
          generalize e.ar[i] = k at *
          generalize (e.ar.take i).map (sub sg) = ml at *
          generalize sub sg k = tk at *
          have HC := hide hcall
          have HTK := hide htk
          have hii : (i : Int) < nk := by omega
          obtain ⟨p, c, rfl, hsl⟩ := Row3.slice HROW.out
          obtain ⟨L, e1, e2, e3, e4, e5⟩ := HROW.out
          rw [htl] at e1 e3 HMD HROW hmd e4 e5
          have hm2 := hmd.cell 2
          simp only [List.getElem?_toArray, List.getElem?_cons_succ, List.getElem?_cons_zero] at hm2
          have hm3 := hmd.lt
          have hwrs : (wr.alloc (.cells #[.string (S k.nm), .int .i64 k.n, .slice qk k.ar.length dk] 24)).heap.size = wr.heap.size + 1 := by simp
          have HWRS := hide hwrs
          clear hwrs
          have hrl : ∀ r, (Value.slice p i c).ownBlock = some r → r < wr.heap.size := by
            intro r hr
            rcases e3.2 with ⟨h, _⟩ | ⟨g, cap, cur, h, _, hg, _⟩
            · rw [h] at hr; cases hr
            · rw [h] at hr
              have : g = r := by simpa [Value.ownBlock] using hr
              subst this
              exact (Array.getElem?_eq_some_iff.1 hg).1
          have HE1 := hide e1
          have HE2 := hide e2
          have HE3 := hide e3
          have HE4 := hide e4
          have HE5 := hide e5
          have HBW := hide hbw
          have HRL := hide hrl
          clear hcall hcc hbr hmd hrs hrow hIn hmem hbw htk htl hsl e1 e2 e3 e4 e5 hrl
          go_wp2_with fail
          refine wp_region_noPanic ?_
          refine region_J 9 (N := 7) (S := (fun W' : World => W'.cell? ⟨w1.heap.size, 2, none⟩ = some (.slice p i c) ∧ W'.cell? ⟨wr.heap.size, 0, none⟩ = some (.string (S k.nm)) ∧ W'.cell? ⟨wr.heap.size, 1, none⟩ = some (.int .i64 k.n) ∧ W'.cell? ⟨wr.heap.size, 2, none⟩ = some (.slice qk k.ar.length dk))) (by kernel_rfl) (by kernel_rfl) ?_
          have hbx := Hold.new wr #[.string (S k.nm), .int .i64 k.n, .slice qk k.ar.length dk] 24
          have hmb := HMD.out.alloc (.cells #[.string (S k.nm), .int .i64 k.n, .slice qk k.ar.length dk] 24)
          have hSf : ∀ W', Hold wr.heap.size #[.string (S k.nm), .int .i64 k.n, .slice qk k.ar.length dk] 24 W' → Hold w1.heap.size #[.string (S e.nm), .int .i64 0, .slice p i c] 24 W' → (fun W' : World => W'.cell? ⟨w1.heap.size, 2, none⟩ = some (.slice p i c) ∧ W'.cell? ⟨wr.heap.size, 0, none⟩ = some (.string (S k.nm)) ∧ W'.cell? ⟨wr.heap.size, 1, none⟩ = some (.int .i64 k.n) ∧ W'.cell? ⟨wr.heap.size, 2, none⟩ = some (.slice qk k.ar.length dk)) W' := fun W' x1 x2 => ⟨x2.cell 2, x1.cell 0, x1.cell 1, x1.cell 2⟩
          have hS : (fun W' : World => W'.cell? ⟨w1.heap.size, 2, none⟩ = some (.slice p i c) ∧ W'.cell? ⟨wr.heap.size, 0, none⟩ = some (.string (S k.nm)) ∧ W'.cell? ⟨wr.heap.size, 1, none⟩ = some (.int .i64 k.n) ∧ W'.cell? ⟨wr.heap.size, 2, none⟩ = some (.slice qk k.ar.length dk)) (wr.alloc (.cells #[.string (S k.nm), .int .i64 k.n, .slice qk k.ar.length dk] 24)).drew := hSf _ hbx hmb
          have HBX := hide hbx
          have HMB := hide hmb
          have HSF := hide hSf
          clear hbx hmb hSf
          refine take_D (i := 0) 24 (.pointer (some ⟨w1.heap.size, 2, none⟩)) rfl rfl (by kernel_rfl) (by kernel_rfl) (by kernel_rfl) (by kernel_rfl) (fun _ _ _ h => h) (Or.inl ⟨by rfl, fun W' hW => by obtain ⟨s0, s1, s2, s3⟩ := hW; go_simp⟩) hS ?_
          simp only [Act.put, List.setIfInBounds_toArray, List.set_cons_zero, List.set_cons_succ]
          refine take_D (i := 1) 25 (.slice p i c) rfl rfl (by kernel_rfl) (by kernel_rfl) (by kernel_rfl) (by kernel_rfl) (fun _ _ _ h => h) (Or.inl ⟨by rfl, fun W' hW => by obtain ⟨s0, s1, s2, s3⟩ := hW; go_simp⟩) hS ?_
          simp only [Act.put, List.setIfInBounds_toArray, List.set_cons_zero, List.set_cons_succ]
          refine take_D (i := 2) 26 (.agg #[.string (S k.nm), .int .i64 k.n, .slice qk k.ar.length dk]) rfl rfl (by kernel_rfl) (by kernel_rfl) (by kernel_rfl) (by kernel_rfl) (fun _ _ _ h => h) (Or.inl ⟨by rfl, fun W' hW => by obtain ⟨s0, s1, s2, s3⟩ := hW; go_simp⟩) hS ?_
          simp only [Act.put, List.setIfInBounds_toArray, List.set_cons_zero, List.set_cons_succ]
          refine take_D (i := 3) 27 (fv) rfl rfl (by kernel_rfl) (by kernel_rfl) (by kernel_rfl) (by kernel_rfl) (fun _ _ _ h => h) (Or.inl ⟨by rfl, fun W' hW => by obtain ⟨s0, s1, s2, s3⟩ := hW; go_simp⟩) hS ?_
          simp only [Act.put, List.setIfInBounds_toArray, List.set_cons_zero, List.set_cons_succ]
          refine ready_J (rs := [4]) (by kernel_rfl) (by simp) ?_
          intro jj hjj
          obtain rfl := List.mem_singleton.1 hjj
          clear hjj
          refine op_J rfl rfl fun K hK => ?_
          go_simp
          refine HC.out.mono ?_
          rintro r w2 ⟨rk, rd, rfl, hb2', hin2⟩
          have hb2 : Below (wr.alloc (.cells #[.string (S k.nm), .int .i64 k.n, .slice qk k.ar.length dk] 24)).heap.size (wr.alloc (.cells #[.string (S k.nm), .int .i64 k.n, .slice qk k.ar.length dk] 24)) w2 := ⟨hb2'.os, hb2'.tape, hb2'.output, hb2'.size, hb2'.block⟩
          clear hb2'
          have HX2 := hide (HBX.out.below hb2 HBX.out.lt)
          have HM2 := hide (HMB.out.below hb2 HMB.out.lt)
          have HRS2 := hide ((HRS.out.alloc (.cells #[.string (S k.nm), .int .i64 k.n, .slice qk k.ar.length dk] 24)).below hb2 (HRS.out.alloc _).lt)
          have HBB2 : Hid (Below (wr.heap.size + 1) (wr.alloc (.cells #[.string (S k.nm), .int .i64 k.n, .slice qk k.ar.length dk] 24)) w2) := ⟨hb2.os, hb2.tape, hb2.output, by have := hb2.size; simpa using this, fun b hb => hb2.block b (by show b < (wr.alloc _).heap.size; simpa using hb)⟩
          have HIN2 : Hid (TyIn (New (wr.heap.size + 1) w2.heap.size) w2 tk [.string (S tk.nm), .int .i64 tk.n, .slice rk tk.ar.length rd]) := by
            refine TyIn.keep (KP.refl _ _) (fun b hb => ⟨?_, hb.2⟩) _ _ hin2
            have h1 := hb.1
            have e : (wr.alloc (.cells #[.string (S k.nm), .int .i64 k.n, .slice qk k.ar.length dk] 24)).drew.heap.size = wr.heap.size + 1 := by show (wr.alloc _).heap.size = _; simp
            omega
          have k0 := HX2.out.cell 0
          have k1 := HX2.out.cell 1
          have k2 := HX2.out.cell 2
          have m2 := HM2.out.cell 2
          simp only [List.getElem?_toArray, List.getElem?_cons_succ, List.getElem?_cons_zero] at k0 k1 k2 m2
          refine hK _ _ ⟨fun _ => ⟨m2, k0, k1, k2⟩, ?_⟩
          clear hK K hb2 hin2 hS HC
          refine ready_J (rs := [5]) (by kernel_rfl) (by simp) ?_
          intro jj hjj
          obtain rfl := List.mem_singleton.1 hjj
          clear hjj
          refine op_J rfl rfl fun K hK => ?_
          unfold cs3
          go_simp
          have hz2 : w2.heap.size < w2.heap.size + 1 := Nat.lt_succ_self _
          have hnb : Below w2.heap.size w2 (w2.alloc (.cells #[.string (S tk.nm), .int .i64 tk.n, .slice rk tk.ar.length rd] 24)) := (Below.refl _ w2).alloc (Nat.le_refl _) _
          have hX5 := HX2.out.alloc (.cells #[.string (S tk.nm), .int .i64 tk.n, .slice rk tk.ar.length rd] 24)
          have hM5 := HM2.out.alloc (.cells #[.string (S tk.nm), .int .i64 tk.n, .slice rk tk.ar.length rd] 24)
          refine hK _ _ ⟨fun _ => ⟨hM5.cell 2, hX5.cell 0, hX5.cell 1, hX5.cell 2⟩, ?_⟩
          clear hK K
          refine ready_J (rs := [6]) (by kernel_rfl) (by simp) ?_
          intro jj hjj
          obtain rfl := List.mem_singleton.1 hjj
          clear hjj
          refine op_J rfl rfl fun K hK => ?_
          have hHt := HIN2.out.three
          have hRow2 : (w2.alloc (.cells #[.string (S tk.nm), .int .i64 tk.n, .slice rk tk.ar.length rd] 24)).ownsRow (w1.heap.size + 1) 24 3 (.slice p i c) i L.flatten := row_keep HE3.out fun g hg hl => (Below.heap_alloc _ _ _ (by have := HBB2.out.size; have := HWRS.out; omega)).trans ((HBB2.out.block g (by omega)).trans (Below.heap_alloc _ _ _ hl))
          have hnews := cells_new w2 [.string (S tk.nm), .int .i64 tk.n, .slice rk tk.ar.length rd] 24
          have hones : ∀ u ∈ ([.string (S tk.nm), .int .i64 tk.n, .slice rk tk.ar.length rd] : List Value), u.oneCell' = true := by simp [Value.oneCell']
          refine wp_append_lies _ _ _ _ (by rfl) (w1.heap.size + 1) 24 i0 _ 3 48 Tryd.underlying22 hi hz0 hz1 hz2' rfl (by omega) (.slice p i c) i L.flatten (by rfl) hRow2 ⟨w2.heap.size, 0, none⟩ 1 1 [.string (S tk.nm), .int .i64 tk.n, .slice rk tk.ar.length rd] (by rfl) (by rfl) hnews hones (by omega) (by unfold maxLen; omega) (by omega) (by simp; have := HBB2.out.size; have := HWRS.out; omega) (w2.heap.size + 1) (by simp) ?_
          intro gg cap W2 hown hgr hat hlt
          have hgwr : ∀ r, (Value.slice p i c).ownBlock = some r → r < wr.heap.size := HRL.out
          have hBW := HBB2.out.size
          have hWR := HWRS.out
          have k56 : KP (fun b => b < w2.heap.size ∧ some b ≠ (Value.slice p i c).ownBlock) w2 W2 := (KP.alloc w2 _ fun b hb => hb.1).trans (KP.of_grown hgr fun b hb => ⟨by simp; omega, hb.2⟩)
          have hB2w : Below wr.heap.size wr w2 := ((Below.refl _ wr).alloc (Nat.le_refl _) _).trans (HBB2.out.mono (by omega))
          have hM6 : Hold w1.heap.size #[.string (S e.nm), .int .i64 0, .slice p i c] 24 W2 := HM2.out.kp k56 ⟨HM2.out.lt, fun e => HE4.out e.symm⟩
          have hRS6 : Hold (w.heap.size + 1) #[.string ⟨#[]⟩, .int .i64 0, .slice none 0 0] 24 W2 := HRS2.out.kp k56 ⟨HRS2.out.lt, fun e => by
            rcases HE3.out.2 with ⟨h, _⟩ | ⟨g, cap, cur, h, hb, _⟩
            · rw [h] at e; cases e
            · rw [h] at e
              have : w.heap.size + 1 = g := by simpa [Value.ownBlock] using e
              omega⟩
          have hX6 : Hold wr.heap.size #[.string (S k.nm), .int .i64 k.n, .slice qk k.ar.length dk] 24 W2 := HX2.out.kp k56 ⟨HX2.out.lt, fun e => by have := hgwr _ e.symm; omega⟩
          have hB6 : Below w.heap.size w W2 := ((HBR.out.trans (hB2w.mono HBR.out.size))).trans (k56.below fun x hx => ⟨by omega, fun e => by
            rcases HE3.out.2 with ⟨h, _⟩ | ⟨g, cap, cur, h, hb, _⟩
            · rw [h] at e; cases e
            · rw [h] at e
              have : x = g := by simpa [Value.ownBlock] using e
              omega⟩)
          have m6 := hM6.cell 2
          have f6 := hM6.frozen 2
          have x0 := hX6.cell 0
          have x1 := hX6.cell 1
          have x2 := hX6.cell 2
          simp only [List.getElem?_toArray, List.getElem?_cons_succ, List.getElem?_cons_zero] at m6 x0 x1 x2
          refine hK _ _ ⟨fun _ => ⟨m6, x0, x1, x2⟩, ?_⟩
          clear hK K
          have HOWN := hide hown
          have HGR := hide hgr
          have HAT := hide hat
          have HM6 := hide hM6
          have HRS6 := hide hRS6
          have HB6 := hide hB6
          have hw12 : w1.heap.size < W2.heap.size := hM6.lt
          clear hown hgr hat hM6 hRS6 hB6 k56 hnews hones hRow2 hHt hX5 hM5 hnb hB2w hX6 HX2 HBX
          refine ready_J (rs := [7]) (by kernel_rfl) (by simp) ?_
          intro jj hjj
          obtain rfl := List.mem_singleton.1 hjj
          clear hjj
          refine op_J rfl rfl fun K hK => ?_
          go_simp
          refine hK _ _ ⟨fun h => absurd h (by omega), ?_⟩
          clear hK K
          refine ready_J (rs := [8]) (by kernel_rfl) (by simp) ?_
          intro jj hjj
          obtain rfl := List.mem_singleton.1 hjj
          clear hjj
          refine op_J rfl rfl fun K hK => ?_
          go_simp
          refine hK _ _ ⟨fun h => absurd h (by omega), ?_⟩
          clear hK K
          refine done_J (by kernel_rfl) ?_ _
          refine NoPanic.normal ?_
          have HRW : Hid (Row3 (w1.heap.size + 1) w1.heap.size (W2.setCell ⟨w1.heap.size, 2, none⟩ (.slice (some ⟨gg, 0, none⟩) (i + 1) cap)) (.slice (some ⟨gg, 0, none⟩) (i + 1) cap) (ml ++ [tk])) := by
            have hl := HTL.out
            have hB2w : Below wr.heap.size wr w2 := ((Below.refl _ wr).alloc (Nat.le_refl _) _).trans (HBB2.out.mono (by have := HWRS.out; omega))
            have := Row3.push (base := w1.heap.size + 1) (bM := w1.heap.size) (x := 0) (W0 := wr) (W := w2) (W1 := W2) (v := .slice p i c) (l := ml) (t := tk) (ds := [.string (S tk.nm), .int .i64 tk.n, .slice rk tk.ar.length rd]) (g := gg) (cap := cap) (L := L) (by rw [HE1.out, hl]) HE2.out HE5.out (KP.of_below hB2w fun b hb => hb.2) (TyIn.keep (KP.refl _ _) (fun b hb => ⟨by have := hb.1; omega, hb.2⟩) _ _ HIN2.out) hszr hm3 HRL.out (by rw [hl]; exact HOWN.out) HGR.out HAT.out HE4.out (.slice (some ⟨gg, 0, none⟩) (i + 1) cap) 2 ⟨_, _, HM6.out⟩
            rw [List.length_append, List.length_singleton, hl] at this
            exact this
          have HMM : Hid (Hold w1.heap.size #[.string (S e.nm), .int .i64 0, .slice (some ⟨gg, 0, none⟩) (i + 1) cap] 24 (W2.setCell ⟨w1.heap.size, 2, none⟩ (.slice (some ⟨gg, 0, none⟩) (i + 1) cap))) := by
            have := HM6.out.set 2 (.slice (some ⟨gg, 0, none⟩) (i + 1) cap)
            exact hide (by simpa using this)
          have HRR : Hid (Hold (w.heap.size + 1) #[.string ⟨#[]⟩, .int .i64 0, .slice none 0 0] 24 (W2.setCell ⟨w1.heap.size, 2, none⟩ (.slice (some ⟨gg, 0, none⟩) (i + 1) cap))) := HRS6.out.other (by omega) _ _
          have HBB : Hid (Below w.heap.size w (W2.setCell ⟨w1.heap.size, 2, none⟩ (.slice (some ⟨gg, 0, none⟩) (i + 1) cap))) := HB6.out.setCell (p := ⟨w1.heap.size, 2, none⟩) (by show w.heap.size ≤ w1.heap.size; omega) _
          have hsz3 : w1.heap.size + 1 ≤ (W2.setCell ⟨w1.heap.size, 2, none⟩ (.slice (some ⟨gg, 0, none⟩) (i + 1) cap)).heap.size := by simp; omega
          generalize W2.setCell ⟨w1.heap.size, 2, none⟩ (.slice (some ⟨gg, 0, none⟩) (i + 1) cap) = W3 at *
          go_wp2_with fail
          go_roundg (nk - (i + 1))
          case measure => omega
          case rel =>
            refine ⟨i + 1, _, by omega, rfl, by go_num, HBB.out, HMM.out, HRR.out, ?_, hsz3⟩
            rw [HTK.out]
            exact HRW.out
        · have h1 : e.ar.take i = e.ar := List.take_of_length_le (by rw [HNK.out]; omega)
          rw [h1] at HROW
          obtain ⟨p, c, rfl, hsl⟩ := Row3.slice HROW.out
          have hm0 := hmd.cell 0
          have hm1 := hmd.cell 1
          have hm2 := hmd.cell 2
          simp only [List.getElem?_toArray, List.getElem?_cons_succ, List.getElem?_cons_zero] at hm0 hm1 hm2
          have hm3 := hmd.lt
          have hr3 := hrs.lt
          have hf0 := hrs.frozen 0
          have hf1 := hrs.frozen 1
          have hf2 := hrs.frozen 2
          have hr0 := hrs.cell 0
          have hr1 := hrs.cell 1
          have hr2 := hrs.cell 2
          simp only [List.getElem?_toArray, List.getElem?_cons_succ, List.getElem?_cons_zero] at hr0 hr1 hr2
          have hii : ¬ (i : Int) < nk := by omega
          have HSL := hide hsl
          have HR3 := hide hrs
          clear hbr hmd hrow h1 hsl hrs
          go_wp2_with fail
          have hro := hold3 HR3.out (.string (S e.nm)) (.int .i64 0) (.slice p e.ar.length c)
          have q0 := hro.cell 0
          have q1 := hro.cell 1
          have q2 := hro.cell 2
          simp only [List.getElem?_toArray, List.getElem?_cons_succ, List.getElem?_cons_zero] at q0 q1 q2
          have HTQ : Hid (TQ te w (.returned (.agg #[.string (S e.nm), .int .i64 0, .slice p e.ar.length c])) (((wr.setCell ⟨w.heap.size + 1, 0, none⟩ (.string (S e.nm))).setCell ⟨w.heap.size + 1, 1, none⟩ (.int .i64 0)).setCell ⟨w.heap.size + 1, 2, none⟩ (.slice p e.ar.length c))) := by
            have hte := HSUB.out
            have hl : te.ar.length = e.ar.length := by rw [hte]; simp
            have hn0 : te.nm = e.nm := by rw [hte]
            have hz : te.n = 0 := by rw [hte]
            have := tq_cell (t := te) (w := w) (W := wr) (pk := p) (ck := c) (B := w.heap.size + 1) (by omega) HBR.out (by
              rw [TyIn_iff]
              refine ⟨p, c, rfl, by rw [hn0]; exact hnl, by rw [hz]; omega, by rw [hl]; simpa using HSL.out, ?_⟩
              have h1 := HROW.out.tm
              rw [hte]
              refine TM.keep (KP.refl _ _) (fun b hb => ?_) h1
              have := hb.1
              exact ⟨by omega, hb.2, by omega⟩)
            unfold cs3 at this
            rw [hl, hn0, hz] at this
            exact this
          generalize ((wr.setCell ⟨w.heap.size + 1, 0, none⟩ (.string (S e.nm))).setCell ⟨w.heap.size + 1, 1, none⟩ (.int .i64 0)).setCell ⟨w.heap.size + 1, 2, none⟩ (.slice p e.ar.length c) = W3 at *
          exact bodyPost_ret (v := .agg #[.string (S e.nm), .int .i64 0, .slice p e.ar.length c]) (by simp only [results, Tryd.results36]; go_simp) rfl HTQ.out
    · have HSUB := hide (sub_at sg e hh)
      have hmem : e.n ∈ hls e := by rw [hls_at e hh]; simp
      have HCV2 := hide (HCV.out e.n hmem)
      generalize sub sg e = te at *
      rw [hh] at HI
      unfold cs3 at *
      generalize sg e.n = tn at *
      obtain rfl : te = tn := HSUB.out
      generalize e.n = n at *
      generalize hnk : e.ar.length = nk at *
      clear hmem hh HSUB HCV HIH hsz
      go_enter Tryd.func36, Tryd.ntmps36
      go_wp2_with fail
      refine (HI.out _).mono ?_
      rintro r w1 ⟨rfl, hb1⟩
      have c0 := HW.out.below hb1 HW.out.lt
      have r0 := HR.out.below hb1 HR.out.lt
      have HB1 := hide (HB0.out.trans (hb1.mono HB0.out.size))
      have k1 := c0.cell 1
      simp only [List.getElem?_toArray, List.getElem?_cons_succ, List.getElem?_cons_zero] at k1
      have hs1 : w.heap.size + 1 < w1.heap.size := r0.lt
      have HR1 := hide r0
      clear hb1 c0 r0
      have hcc := HCV2.out w1 HB1.out
      rcases hcc with ⟨rfl, hc⟩ | ⟨B, rfl, hc⟩ | ⟨B, rfl, hc⟩
      all_goals
        have HC := hide hc
        clear hc
        go_wp2_with fail
        refine HC.out.mono ?_
        rintro r w2 ⟨qk, dk, rfl, hb2, hin2⟩
        have r2 := HR1.out.below hb2 HR1.out.lt
        have hf0 := r2.frozen 0
        have hf1 := r2.frozen 1
        have hf2 := r2.frozen 2
        have hr0 := r2.cell 0
        have hr1 := r2.cell 1
        have hr2 := r2.cell 2
        simp only [List.getElem?_toArray, List.getElem?_cons_succ, List.getElem?_cons_zero] at hr0 hr1 hr2
        have HB2 := hide (HB1.out.trans (hb2.mono HB1.out.size))
        have HBB2 := hide hb2
        have HIN2 := hide hin2
        have HR2 := hide r2
        have hs2 := r2.lt
        clear hb2 hin2 r2
        unfold cs3
        go_wp2_with fail
        have hro := hold3 HR2.out (.string (S te.nm)) (.int .i64 te.n) (.slice qk te.ar.length dk)
        have q0 := hro.cell 0
        have q1 := hro.cell 1
        have q2 := hro.cell 2
        simp only [List.getElem?_toArray, List.getElem?_cons_succ, List.getElem?_cons_zero] at q0 q1 q2
        have HTQ : Hid (TQ te w (.returned (.agg #[.string (S te.nm), .int .i64 te.n, .slice qk te.ar.length dk])) (((w2.setCell ⟨w.heap.size + 1, 0, none⟩ (.string (S te.nm))).setCell ⟨w.heap.size + 1, 1, none⟩ (.int .i64 te.n)).setCell ⟨w.heap.size + 1, 2, none⟩ (.slice qk te.ar.length dk))) :=
          tq_cell (t := te) (w := w) (W := w2) (pk := qk) (ck := dk) (B := w.heap.size + 1) (by omega) HB2.out (TyIn.keep (KP.refl _ _) (fun b hb => ⟨by have := hb.1; omega, hb.2, by have := hb.1; omega⟩) _ _ HIN2.out)
        generalize ((w2.setCell ⟨w.heap.size + 1, 0, none⟩ (.string (S te.nm))).setCell ⟨w.heap.size + 1, 1, none⟩ (.int .i64 te.n)).setCell ⟨w.heap.size + 1, 2, none⟩ (.slice qk te.ar.length dk) = W3 at *
        exact bodyPost_ret (v := .agg #[.string (S te.nm), .int .i64 te.n, .slice qk te.ar.length dk]) (by simp only [results, Tryd.results36]; go_simp) rfl HTQ.out
end Go.Proofs.YteoflpalmckikaaDoor
