/-
  THE WALKS OF ty.holes's CLOSURES: a type's holes, each once, by their first place, as they are yielded.
-/
import Derived.Test.YteoflpalmckikaaDoorMapIn
import Derived.Test.YteoflpalmckikaaDoorFilled
import Derived.Carry
import Derived.Laws.EntriesVeiled
namespace Go.Proofs.YteoflpalmckikaaDoor
open Go.RowKit Go.Shelf
set_option linter.unusedVariables false
set_option linter.unusedSimpArgs false
attribute [local go_sem] Oper.semAt_some
/-- A hole that is told: its number, and how many were ahead of it. -/
abbrev Hl := Int × Nat
def encH (x : Hl) : Array Value := #[.int .i64 x.2, .int .i64 x.1]
/-- What a body keeps of an iterator's memory. -/
structure KpOK (Kp : World → World → Prop) (P : Nat → Prop) (B : Nat) : Prop where
  size : ∀ {W W'}, Kp W W' → W.heap.size ≤ W'.heap.size
  ty : ∀ {W W' b}, Kp W W' → P b → b < W.heap.size → W'.heap[b]? = W.heap[b]?
  cell : ∀ {W W' b C t}, Kp W W' → B ≤ b → t = 56 ∨ t = 65 ∨ t = 26 → Hold b C t W → Hold b C t W'
  map : ∀ {W W' b f}, Kp W W' → B ≤ b → MapI W b f → MapI W' b f
theorem TyIn.same {P Q : Nat → Prop} {w w' : World} (k : ∀ b, P b → w'.heap[b]? = w.heap[b]?) (hq : ∀ b, P b → Q b) (t : Ty) (cs : List Value) (h : TyIn P w t cs) : TyIn Q w' t cs := by
  have hc : ∀ b x, P b → w'.cell? ⟨b, x, none⟩ = w.cell? ⟨b, x, none⟩ := fun b x hb => by unfold World.cell?; rw [show w'.heap[b]? = _ from k b hb]
  revert cs
  induction t using Ty.ind with
  | _ t ih =>
    intro cs h
    rw [TyIn_iff] at h ⊢
    obtain ⟨pk, ck, h1, h2, h3, h5, h7⟩ := h
    refine ⟨pk, ck, h1, h2, h3, h5, ?_⟩
    rcases h7 with h7 | ⟨b, o, hp, hb, hm⟩
    · exact .inl h7
    · refine .inr ⟨b, o, hp, hq b hb, fun i t' ht => ?_⟩
      obtain ⟨ds, e1, e2, e3⟩ := hm i t' ht
      exact ⟨ds, e1, fun j d hd => (hc b _ hb).trans (e2 j d hd), ih t' (List.mem_of_getElem? ht) ds e3⟩
/-- The iterator's memory, once l have been told, and k are in its map. -/
structure ItM (P : Nat → Prop) (we : World) (Pm Bp By Bd ld : Nat) (J : List Hl → World → Prop) (l k : List Int) (W : World) : Prop where
  j : J l.zipIdx W
  mp : MapI W Pm (plF k)
  nd : k.Nodup
  bp : Hold Bp #[.map (some Pm)] 56 W
  by' : Hold By #[.func (.yield ld) #[] #[]] 65 W
  bd : Hold Bd #[.func (.func 49) #[] #[.pointer (some ⟨Bp, 0, none⟩), .pointer (some ⟨By, 0, none⟩), .pointer (some ⟨Bd, 0, none⟩)]] 26 W
  old : ∀ b, P b → W.heap[b]? = we.heap[b]?
variable {P : Nat → Prop} {we : World} {Pm Bp By Bd ld B : Nat} {J : List Hl → World → Prop} {l k : List Int} {W W' : World}
theorem ItM.ne (h : ItM P we Pm Bp By Bd ld J l k W) : Pm ≠ Bp ∧ Pm ≠ By ∧ Pm ≠ Bd := ⟨h.mp.ne h.bp, h.mp.ne h.by', h.mp.ne h.bd⟩
theorem ItM.alloc (h : ItM P we Pm Bp By Bd ld J l k W) (hP : ∀ b, P b → b < W.heap.size) (hJ : ∀ s W W', J s W → W.grownBy W' none → J s W') (o : Obj) : ItM P we Pm Bp By Bd ld J l k (W.alloc o) :=
  ⟨hJ _ _ _ h.j (World.grownBy_alloc W o none), h.mp.alloc o, h.nd, h.bp.alloc o, h.by'.alloc o, h.bd.alloc o, fun b hb => (Below.heap_alloc W o b (hP b hb)).trans (h.old b hb)⟩
theorem Below.grow {W W' : World} (h : Below W.heap.size W W') : W.grownBy W' none := ⟨h.os, h.tape, h.output, h.size, fun k hk _ => h.block k hk⟩
theorem ItM.below (h : ItM P we Pm Bp By Bd ld J l k W) (hP : ∀ b, P b → b < W.heap.size) (hJ : ∀ s W W', J s W → W.grownBy W' none → J s W') (hb : Below W.heap.size W W') : ItM P we Pm Bp By Bd ld J l k W' :=
  ⟨hJ _ _ _ h.j (Below.grow hb), h.mp.below hb h.mp.lt, h.nd, h.bp.below hb h.bp.lt, h.by'.below hb h.by'.lt, h.bd.below hb h.bd.lt, fun b hbb => (hb.block b (hP b hbb)).trans (h.old b hbb)⟩
theorem Hold.stored {b b' : Nat} {C : Array Value} {t : TypeId} (h : Hold b C t W) (hs : Stored W b' W') (hne : b' ≠ b) : Hold b C t W' := (hs.1.block b h.lt fun e => hne (by cases e; rfl)).trans h
theorem ItM.store {n : Int} (h : ItM P we Pm Bp By Bd ld J l k W) (hP : ∀ b, P b → b < B) (hB : B ≤ Pm) (hPm : Pm < W.heap.size) (hJ : OwnB B J) (hn : n ∉ k) (hm : MapI W' Pm (updV (plF k) n (.int .i64 (k.length : Int)))) (hs : Stored W Pm W') : ItM P we Pm Bp By Bd ld J l (k ++ [n]) W' := by
  obtain ⟨n1, n2, n3⟩ := h.ne
  rw [plF_new k n hn] at hm
  refine ⟨hJ _ _ _ _ h.j hs.1 (fun r e => by cases e; obtain ⟨es, clock, hb, _⟩ := h.mp; exact ⟨hB, _, hb, rfl⟩), hm, ?_, h.bp.stored hs n1, h.by'.stored hs n2, h.bd.stored hs n3, fun b hb => ?_⟩
  · have := addI_nodup h.nd n
    unfold addI at this
    rwa [if_neg hn] at this
  · have := hP b hb
    exact (hs.1.block b (by omega) (fun e => by cases e; omega)).trans (h.old b hb)
theorem ItM.told {Kp : World → World → Prop} {l' : List Int} (hK : KpOK Kp P B) (hP : ∀ b, P b → b < B) (hB : B ≤ Pm ∧ B ≤ Bp ∧ B ≤ By ∧ B ≤ Bd) (h : ItM P we Pm Bp By Bd ld J l k W) (hk : Kp W W') (hj : J l'.zipIdx W') : ItM P we Pm Bp By Bd ld J l' k W' :=
  ⟨hj, hK.map hk hB.1 h.mp, h.nd, hK.cell hk hB.2.1 (.inl rfl) h.bp, hK.cell hk hB.2.2.1 (.inr (.inl rfl)) h.by', hK.cell hk hB.2.2.2 (.inr (.inr rfl)) h.bd, fun b hb => (hK.ty hk hb (by have := hP b hb; have := h.mp.lt; omega)).trans (h.old b hb)⟩
theorem zipIdx_snoc (l : List Int) (n : Int) : (l ++ [n]).zipIdx = l.zipIdx ++ [(n, l.length)] := by rw [List.zipIdx_append]; simp
theorem addI_in {l : List Int} {n : Int} (h : n ∈ l) : addI l n = l := if_pos h
theorem addI_new {l : List Int} {n : Int} (h : n ∉ l) : addI l n = l ++ [n] := if_neg h
theorem hsA_pre (l : List Int) (t : Ty) : ∃ r, hsA l t = l ++ r := by
  unfold hsA
  generalize hls t = r
  induction r generalizing l with
  | nil => exact ⟨[], by simp⟩
  | cons a r ih =>
    rw [List.foldl_cons]
    obtain ⟨s, hs⟩ := ih (addI l a)
    rw [hs]
    unfold addI
    split
    · exact ⟨s, rfl⟩
    · exact ⟨a :: s, by simp⟩
theorem foldA_pre (ts : List Ty) (l : List Int) : ∃ r, ts.foldl hsA l = l ++ r := by
  induction ts generalizing l with
  | nil => exact ⟨[], by simp⟩
  | cons t ts ih =>
    obtain ⟨r, hr⟩ := hsA_pre l t
    obtain ⟨s, hs⟩ := ih (hsA l t)
    exact ⟨r ++ s, by rw [List.foldl_cons, hs, hr, List.append_assoc]⟩
theorem zero3 (w : World) : (zeroValue 3).run Tryd.prog w = .ok (.int .i64 0) w := by kernel_rfl
set_option maxHeartbeats 4000000 in
set_option maxRecDepth 100000 in
theorem down_any {P : Nat → Prop} {we : World} {Pm Bp By Bd ld B : Nat} {Kp : World → World → Prop} {J : List Hl → World → Prop} (full : List Int) (hK : KpOK Kp P B) (hB : B ≤ Pm ∧ B ≤ Bp ∧ B ≤ By ∧ B ≤ Bd) (hJ : OwnB B J) (hPB : ∀ b, P b → b < B)
    (hY : ∀ m pre x r W1, full.zipIdx = pre ++ x :: r → J pre W1 → YieldAt Fence.wide m Tryd.prog ld (encH x) W1 fun e W' => e = .returned (.bool true) ∧ J (pre ++ [x]) W' ∧ Kp W1 W') (t : Ty) :
    ∀ {n : Nat} {l : List Int} {W : World} {pk : Option Addr} {ck : Nat}, ItM P we Pm Bp By Bd ld J l l W → TyIn P we t [.string (S t.nm), .int .i64 t.n, .slice pk t.ar.length ck] → (∃ r, full = hsA l t ++ r) →
    CallsIn Fence.wide n Tryd.prog 49 #[.agg (cs3 t pk ck), .pointer (some ⟨Bp, 0, none⟩), .pointer (some ⟨By, 0, none⟩), .pointer (some ⟨Bd, 0, none⟩)] W fun e W' => e = .returned (.bool true) ∧ ItM P we Pm Bp By Bd ld J (hsA l t) (hsA l t) W' ∧ W.heap.size ≤ W'.heap.size := by
  induction t using Ty.ind with
  | _ t ih =>
    intro n l W pk ck hM hE hF
    have hPW : ∀ b, P b → b < W.heap.size := fun b hb => Nat.lt_of_lt_of_le (hPB b hb) (Nat.le_trans hB.1 (Nat.le_of_lt hM.mp.lt))
    have hJ0 : ∀ s W W', J s W → W.grownBy W' none → J s W' := fun s W W' h g => hJ s W W' none h g (fun r e => by cases e)
    have hkl := hE.len
    have hM1 := hM.alloc hPW hJ0 (.cells (cs3 t pk ck) 24)
    have hBox := Hold.new W (cs3 t pk ck) 24
    have hI := fun W => isHole_any t W pk ck
    have HIH := hide ih
    have HE := hide hE
    have HY := hide hY
    have HM1 := hide hM1
    have HBX := hide hBox
    have HF := hide hF
    have hWs : (W.alloc (.cells (cs3 t pk ck) 24)).heap.size = W.heap.size + 1 := by simp
    have HWS := hide hWs
    have HM := hide hM
    clear ih hE hY hM1 hBox hF hWs hM
    refine callsIn_of_wp Tryd.func49 rfl trivial ?_ rfl
    simp only [Tryd.ntmps49, List.size_toArray, List.length_cons, List.length_nil, Nat.reduceAdd, Nat.reduceSub, Array.replicate_succ, Array.replicate_zero, List.push_toArray, List.append_toArray, List.nil_append, List.cons_append]
    cases hh : t.nm.isEmpty
    · rw [hh] at hI
      have HI := hide hI
      clear hI
      unfold cs3 at *
      gi_wp2_with fail
      refine ⟨trivial, fun h => by simp [Fence.wide] at h, (callsIn_wide.2 (HI.out _)).mono ?_⟩
      rintro r w1 ⟨rfl, hb1⟩
      have HM2 := hide (HM1.out.below (fun b hb => by have := hPW b hb; have := HWS.out; omega) hJ0 hb1)
      have HB2 := hide (HBX.out.below hb1 HBX.out.lt)
      have hs1 : W.heap.size < w1.heap.size := HB2.out.lt
      have c2 := HB2.out.cell 2
      simp only [List.getElem?_toArray, List.getElem?_cons_succ, List.getElem?_cons_zero] at c2
      clear hb1
      gi_wp2_with fail
      have hnode := hsA_node l t hh
      have HND := hide hnode
      have HTM := hide (tm_of HE.out)
      clear hnode
      generalize hnk : t.ar.length = nk at *
      have HNK := hide hnk
      clear hnk
      gi_loopw [36] (fun s36 wr => ∃ i : Nat, i ≤ nk ∧ s36 = .int .i64 i ∧ ItM P we Pm Bp By Bd ld J ((t.ar.take i).foldl hsA l) ((t.ar.take i).foldl hsA l) wr ∧ W.heap.size < wr.heap.size) (fun s36 wr => nk - (intOf s36).toNat)
      case atStart => exact ⟨0, Nat.zero_le _, rfl, HM2.out, hs1⟩
      case round =>
        obtain ⟨i, hi1, rfl, hmr, hsr⟩ := hrel
        have HMR := hide hmr
        clear hmr
        by_cases hlt : i < nk
        · have hil : i < t.ar.length := by rw [HNK.out]; exact hlt
          obtain ⟨b, o, qk, dk, hpk, hPb, hIn, a0, a1, a2⟩ := tm_at HTM.out hil
          have hcc : ∀ x, wr.cell? ⟨b, x, none⟩ = we.cell? ⟨b, x, none⟩ := fun x => by unfold World.cell?; rw [show wr.heap[b]? = _ from HMR.out.old b hPb]
          rw [← hcc] at a0 a1 a2
          have htk : (t.ar.take (i + 1)).foldl hsA l = hsA ((t.ar.take i).foldl hsA l) t.ar[i] := by rw [List.take_succ_eq_append_getElem hil, List.foldl_append]; rfl
          have hpre : ∃ r, full = hsA ((t.ar.take i).foldl hsA l) t.ar[i] ++ r := by
            obtain ⟨r, hr⟩ := HF.out
            obtain ⟨s, hs⟩ := foldA_pre (t.ar.drop (i + 1)) (hsA ((t.ar.take i).foldl hsA l) t.ar[i])
            refine ⟨s ++ r, ?_⟩
            rw [hr, HND.out, ← List.append_assoc, ← hs, ← htk, ← List.foldl_append, List.take_append_drop]
          have hPr : ∀ b, P b → b < wr.heap.size := fun b hb => by have := hPW b hb; omega
          have hcall := HIH.out t.ar[i] (by simp) (n := n - 1) (HMR.out.alloc hPr hJ0 (.cells #[.string (S t.ar[i].nm), .int .i64 t.ar[i].n, .slice qk t.ar[i].ar.length dk] 24)) hIn hpre
          have d0 := HMR.out.bd.cell 0
          simp only [List.getElem?_toArray, List.getElem?_cons_succ, List.getElem?_cons_zero] at d0
          have hdb : Bd < wr.heap.size := HMR.out.bd.lt
          subst hpk
          have HTK := hide htk
          generalize t.ar[i] = k at *
          have HC := hide hcall
          have hii : (i : Int) < nk := by omega
          clear hcall hcc hIn hpre htk
          gi_wp2_with fail
          refine ⟨trivial, fun h => by simp [Fence.wide] at h, HC.out.mono ?_⟩
          rintro r w3 ⟨rfl, hm3, hsz3⟩
          have HM3 := hide hm3
          have hsz4 : wr.heap.size + 1 ≤ w3.heap.size := by simpa using hsz3
          clear hm3 hsz3
          gi_wp2_with fail
          go_roundw
          case rel => exact ⟨i + 1, by omega, by go_num, by rw [HTK.out]; exact HM3.out, by omega⟩
          case measure => simp [intOf]; omega
        · have h1 : t.ar.take i = t.ar := List.take_of_length_le (by rw [HNK.out]; omega)
          rw [h1, ← HND.out] at HMR
          have hii : ¬ (i : Int) < nk := by omega
          clear h1
          gi_wp2_with fail
          go_ret
          exact ⟨rfl, HMR.out, by omega⟩
    · rw [hh] at hI
      have HI := hide hI
      clear hI
      unfold cs3 at *
      gi_wp2_with fail
      refine ⟨trivial, fun h => by simp [Fence.wide] at h, (callsIn_wide.2 (HI.out _)).mono ?_⟩
      rintro r w1 ⟨rfl, hb1⟩
      have HM2 := hide (HM1.out.below (fun b hb => by have := hPW b hb; have := HWS.out; omega) hJ0 hb1)
      have HB2 := hide (HBX.out.below hb1 HBX.out.lt)
      have hs1 : W.heap.size < w1.heap.size := HB2.out.lt
      have c1 := HB2.out.cell 1
      have p0 := HM2.out.bp.cell 0
      simp only [List.getElem?_toArray, List.getElem?_cons_succ, List.getElem?_cons_zero] at c1 p0
      clear hb1
      have hat := hsA_at l t hh
      generalize t.n = tn at *
      by_cases hin : tn ∈ l
      · have HA : Hid (hsA l t = l) := by rw [hat, addI_in hin]; exact rfl
        have hf := plF_at hin
        have HMP := hide HM2.out.mp
        clear hat
        gi_wp2_with (first | (gi_at_lookup; refine wpListIn_look_ok _ rfl _ _ 56 rfl 3 3 Tryd.underlying56 Tryd.underlying3 (.int .i64 0) (zero3 _) Pm (plF l) rfl HMP.out tn rfl ?_; rw [hf]) | gi_in)
        go_ret
        exact ⟨rfl, by rw [HA.out]; exact HM2.out, by omega⟩
      · have HA : Hid (hsA l t = l ++ [tn]) := by rw [hat, addI_new hin]; exact rfl
        have hf := plF_no hin
        have HMP := hide HM2.out.mp
        have hlen := HM2.out.mp.run_len (P := Tryd.prog) Tryd.underlying56 l HM2.out.nd (plF_some l) 3
        have hPm : Pm < W.heap.size := HM.out.mp.lt
        have hPm1 : Pm < w1.heap.size := HM2.out.mp.lt
        have hneP : Pm ≠ W.heap.size := by omega
        obtain ⟨r, hfull⟩ := HF.out
        have hfz : full.zipIdx = l.zipIdx ++ (tn, l.length) :: r.zipIdx (l.length + 1) := by
          rw [hfull, HA.out, List.zipIdx_append, zipIdx_snoc, List.append_assoc]
          simp
        have HFZ := hide hfz
        have HHF := hide hf
        clear hat hfull hfz hf
        gi_wp2_with (first
          | (gi_at_lookup; refine wpListIn_look_ok _ rfl _ _ 56 rfl 3 3 Tryd.underlying56 Tryd.underlying3 (.int .i64 0) (zero3 _) Pm (plF l) rfl HMP.out tn rfl ?_; rw [HHF.out])
          | (gi_at_mapUpdate; refine wpListIn_store _ rfl _ _ _ 56 rfl 3 3 Tryd.underlying56 Tryd.underlying3 Pm (plF l) rfl HMP.out tn (.int .i64 (l.length : Int)) rfl rfl ?_; intro w2 hm2 hst2
             have HM3 := hide (HM2.out.store hPB hB.1 hPm1 hJ hin hm2 hst2)
             have HB3 := hide (HB2.out.stored hst2 hneP)
             have d1 := HB3.out.cell 1
             have e0 := HM3.out.bp.cell 0
             have y0 := HM3.out.by'.cell 0
             simp only [List.getElem?_toArray, List.getElem?_cons_succ, List.getElem?_cons_zero] at d1 e0 y0
             obtain ⟨fn, tmps, assign, body, hy, hR⟩ := HY.out (n - 1) l.zipIdx (tn, l.length) _ w2 HFZ.out HM3.out.j
             simp only [encH] at hy
             have HR := hide hR
             have hss := hst2.2
             have HSS := hide hss
             clear hR hm2 hst2 hlen hss)
          | (gi_at_lookup; refine wpListIn_look _ rfl _ _ 56 rfl 3 3 Tryd.underlying56 Tryd.underlying3 (.int .i64 0) (zero3 _) Pm (plF (l ++ [tn])) rfl HM3.out.mp tn rfl ?_; rw [plF_at (by simp : tn ∈ l ++ [tn]), plc_last l tn hin])
          | gi_in)
        refine ⟨fun h => by simp [Fence.wide] at h, HR.out.mono ?_⟩
        rintro e W3 ⟨rfl, hJ3, hk3⟩
        have hsz3 := hK.size hk3
        have HFIN := hide (HM3.out.told hK hPB hB hk3 (l' := l ++ [tn]) (by rw [zipIdx_snoc]; exact hJ3))
        clear hJ3 hk3
        gi_wp2_with fail
        go_ret
        exact ⟨rfl, by rw [HA.out]; exact HFIN.out, by have := HSS.out; omega⟩
set_option maxHeartbeats 4000000 in
set_option maxRecDepth 100000 in
/-- The iterator: all of them, in order. -/
theorem iter_any {n : Nat} {P : Nat → Prop} {we w : World} {t : Ty} {pk : Option Addr} {ck Bt : Nat} {Kp : World → World → Prop} (hP : ∀ b, P b → b < we.heap.size) (hwe : Below we.heap.size we w) (hE : TyIn P we t [.string (S t.nm), .int .i64 t.n, .slice pk t.ar.length ck]) (hBt : Hold Bt (cs3 t pk ck) 24 w)
    (hK : ∀ B, w.heap.size ≤ B → KpOK Kp P B) : ItT n 48 #[.pointer (some ⟨Bt, 0, none⟩)] encH Kp (hs t).zipIdx w := by
  intro ld J W hW hJ hY h0
  have hBW := hBt.below hW hBt.lt
  have hPW : ∀ b, P b → b < W.heap.size := fun b hb => by have := hP b hb; have := hwe.size; have := hW.size; omega
  have hJ0 : ∀ s W W', J s W → W.grownBy W' none → W.heap.size ≤ W.heap.size → J s W' := fun s W W' h g _ => hJ s W W' none h g (fun r e => by cases e)
  show CallsIn Fence.wide n Tryd.prog 48 #[.func (.yield ld) #[] #[], .pointer (some ⟨Bt, 0, none⟩)] W _
  refine callsIn_of_wp Tryd.func48 rfl trivial ?_ rfl
  simp only [Tryd.ntmps48, List.size_toArray, List.length_cons, List.length_nil, Nat.reduceAdd, Nat.reduceSub, Array.replicate_succ, Array.replicate_zero, List.push_toArray, List.append_toArray, List.nil_append, List.cons_append]
  have hlt := hBW.lt
  have hmm := @run_makeMap Tryd.prog
  obtain ⟨cl, hcl⟩ : ∃ cl : Value, cl = (.func (.func 49) #[] #[.pointer (some ⟨W.heap.size + 1 + 1, 0, none⟩), .pointer (some ⟨W.heap.size, 0, none⟩), .pointer (some ⟨W.heap.size + 1 + 1 + 1, 0, none⟩)]) := ⟨_, rfl⟩
  have hV := Hold.new (((W.alloc (.cells #[.func (.yield ld) #[] #[]] 65)).alloc (.map #[] 0)).alloc (.cells #[.map (some (W.heap.size + 1))] 56)) #[cl] 26
  have hV2 := (Hold.new ((W.alloc (.cells #[.func (.yield ld) #[] #[]] 65)).alloc (.map #[] 0)) #[.map (some (W.heap.size + 1))] 56).alloc (.cells #[cl] 26)
  have hV1 := ((MapI.made (W.alloc (.cells #[.func (.yield ld) #[] #[]] 65))).alloc (.cells #[.map (some (W.heap.size + 1))] 56)).alloc (.cells #[cl] 26)
  have hV0 := (((Hold.new W #[.func (.yield ld) #[] #[]] 65).alloc (.map #[] 0)).alloc (.cells #[.map (some (W.heap.size + 1))] 56)).alloc (.cells #[cl] 26)
  have hVB : Below W.heap.size W ((((W.alloc (.cells #[.func (.yield ld) #[] #[]] 65)).alloc (.map #[] 0)).alloc (.cells #[.map (some (W.heap.size + 1))] 56)).alloc (.cells #[cl] 26)) := ((((Below.refl _ W).alloc (Nat.le_refl _) _).alloc (by simp) _).alloc (by simp; omega) _).alloc (by simp; omega) _
  rw [World.size_alloc, World.size_alloc, World.size_alloc] at hV
  rw [World.size_alloc, World.size_alloc] at hV2
  rw [World.size_alloc] at hV1
  have hBV := hBW.below hVB hlt
  have c0 := hBV.cell 0; have c1 := hBV.cell 1; have c2 := hBV.cell 2
  unfold cs3 at c0 c1 c2
  simp only [List.getElem?_toArray, List.getElem?_cons_succ, List.getElem?_cons_zero] at c0 c1 c2
  have hsV : ((((W.alloc (.cells #[.func (.yield ld) #[] #[]] 65)).alloc (.map #[] 0)).alloc (.cells #[.map (some (W.heap.size + 1))] 56)).alloc (.cells #[cl] 26)).heap.size = W.heap.size + 1 + 1 + 1 + 1 := by simp
  obtain ⟨V, hVe⟩ : ∃ V, V = ((((W.alloc (.cells #[.func (.yield ld) #[] #[]] 65)).alloc (.map #[] 0)).alloc (.cells #[.map (some (W.heap.size + 1))] 56)).alloc (.cells #[cl] 26)) := ⟨_, rfl⟩
  rw [← hVe] at hV hV0 hV1 hV2 hVB c0 c1 c2 hsV
  have hnil : plF ([] : List Int) = fun _ => none := plF_nil
  have hM : ItM P we (W.heap.size + 1) (W.heap.size + 1 + 1) W.heap.size (W.heap.size + 1 + 1 + 1) ld J [] [] V := by
    refine ⟨hJ0 _ _ _ h0 (Below.grow hVB) (Nat.le_refl _), by rw [hnil]; exact hV1, List.nodup_nil, hV2, hV0, by rw [hcl] at hV; exact hV, fun b hb => ?_⟩
    have := hP b hb
    exact (hVB.block b (hPW b hb)).trans ((hW.block b (by have := hwe.size; omega)).trans (hwe.block b this))
  have hD := down_any (n := n - 1) (hs t) (hK W.heap.size hW.size) ⟨by omega, by omega, Nat.le_refl _, by omega⟩ hJ hPW hY t hM hE ⟨[], by unfold hs; simp⟩
  have HD := hide hD
  unfold cs3 at HD
  clear hD hM hV hV0 hV1 hV2 hVB hBV hBW hBt hE hY hK hnil
  subst hcl
  subst hVe
  gi_wp2_with fail
  refine ⟨trivial, fun h => by simp [Fence.wide] at h, HD.out.mono ?_⟩
  rintro e W3 ⟨rfl, hM3, _⟩
  have HM3 := hide hM3
  clear hM3 HD
  gi_wp2_with fail
  go_end0
  exact ⟨⟨_, rfl⟩, HM3.out.j⟩
theorem holes_any (t : Ty) (w : World) (pk : Option Addr) (ck : Nat) : Calls Tryd.prog 32 #[.agg (cs3 t pk ck)] w fun r w' => r = .returned (.func (.func 48) #[] #[.pointer (some ⟨w.heap.size, 0, none⟩)]) ∧ w' = w.alloc (.cells (cs3 t pk ck) 24) := by
  unfold cs3
  go_enter Tryd.func32, Tryd.ntmps32
  go_wp2_with fail
  go_ret
  exact ⟨rfl, rfl⟩
end Go.Proofs.YteoflpalmckikaaDoor
