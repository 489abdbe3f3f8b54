/-
  A LIST OF TYPES THAT IS MADE, of types that lie in blocks of P or were made too.
  THE WALKS OF dawdlerref08's fact AND put.
-/
import Derived.Test.YteoflpalmckikaaDoorFilled
import Derived.Test.YteoflpalmckikaaDoorApplyP
import Derived.Test.YteoflpalmckikaaDoorTeller
import Derived.Deep.DeepCutAuto
namespace Go.Proofs.YteoflpalmckikaaDoor
open Go.RowKit
set_option linter.unusedVariables false
set_option linter.unusedSimpArgs false
/-- Blocks of what is in a list that is made: no box, not its own row. -/
def KdP (P : Nat → Prop) (base bM : Nat) (v : Value) (w : World) (b : Nat) : Prop := (P b ∨ base ≤ b) ∧ b < w.heap.size ∧ b ≠ bM ∧ some b ≠ v.ownBlock
def RowP (P : Nat → Prop) (base bM : Nat) (w : World) (v : Value) (l : List Ty) : Prop := ∃ L : List (List Value), L.length = l.length ∧ (∀ ds ∈ L, ds.length = 3) ∧ w.ownsRow base 24 3 v l.length L.flatten ∧ v.ownBlock ≠ some bM ∧ ∀ (i : Nat) t, l[i]? = some t → ∃ ds, L[i]? = some ds ∧ TyIn (KdP P base bM v w) w t ds
theorem RowP.nil (P : Nat → Prop) (base bM : Nat) (w : World) : RowP P base bM w (.slice none 0 0) [] := ⟨[], rfl, by simp, World.ownsRow_nil _ _ _ _, by simp [Value.ownBlock], by simp⟩
theorem RowP.keep {P : Nat → Prop} {base bM : Nat} {w w' : World} {v : Value} {l : List Ty} (h : RowP P base bM w v l) (k : KP (fun b => (P b ∨ base ≤ b) ∧ b < w.heap.size ∧ b ≠ bM) w w') : RowP P base bM w' v l := by
  obtain ⟨L, h1, h2, h3, h4, h5⟩ := h
  refine ⟨L, h1, h2, ?_, h4, fun i t ht => ?_⟩
  · rcases h3 with ⟨e1, e2 | ⟨g, cap, cur, hv, hb, hg, r⟩⟩
    · exact ⟨e1, .inl e2⟩
    · refine ⟨e1, .inr ⟨g, cap, cur, hv, hb, (k.block g ⟨.inr hb, (Array.getElem?_eq_some_iff.1 hg).1, fun e => h4 (by rw [hv, e]; rfl)⟩).trans hg, r⟩⟩
  · obtain ⟨ds, e1, e2⟩ := h5 i t ht
    exact ⟨ds, e1, TyIn.keep (k.mono fun b hb => ⟨hb.1, hb.2.1, hb.2.2.1⟩) (fun b hb => ⟨hb.1, Nat.lt_of_lt_of_le hb.2.1 k.size, hb.2.2⟩) _ _ e2⟩
theorem RowP.slice {P : Nat → Prop} {base bM : Nat} {w : World} {v : Value} {l : List Ty} (h : RowP P base bM w v l) : ∃ p c, v = .slice p l.length c ∧ SlOK p l.length c := by
  obtain ⟨L, h1, h2, h3, h4, h5⟩ := h
  rcases h3 with ⟨e1, ⟨e2, e3⟩ | ⟨g, cap, cur, hv, hb, hg, r1, r2, r⟩⟩
  · exact ⟨none, 0, by rw [e3]; exact e2, by omega, by omega, fun _ => rfl⟩
  · exact ⟨_, _, hv, r1, r2, fun h => by cases h⟩
theorem RowP.tm {P : Nat → Prop} {base bM : Nat} {w : World} {p : Option Addr} {c n : Nat} {l : List Ty} (h : RowP P base bM w (.slice p n c) l) : TM (fun b => (P b ∨ base ≤ b) ∧ b < w.heap.size) w p l := by
  obtain ⟨L, h1, h2, h3, h4, h5⟩ := h
  cases hl : l with
  | nil => exact .inl rfl
  | cons x r =>
    right
    rw [← hl]
    have hn : 0 < l.length := by rw [hl]; simp
    have h3' := h3
    rcases h3 with ⟨e1, ⟨e2, e3⟩ | ⟨g, cap, cur, hv, hb, hg, r1, r2, r⟩⟩
    · omega
    · cases hv
      refine ⟨g, 0, rfl, ⟨.inr hb, (Array.getElem?_eq_some_iff.1 hg).1⟩, fun i t ht => ?_⟩
      obtain ⟨ds, e5, e6⟩ := h5 i t ht
      refine ⟨ds, h2 ds (List.mem_of_getElem? e5), fun j d hd => ?_, TyIn.keep (KP.refl _ w) (fun b hb => ⟨hb.1, hb.2.1⟩) _ _ e6⟩
      have := row_cell h3' (flat_at h2 e5 hd)
      rw [Nat.zero_add]
      exact this
/-- One more: W0 is where the list stood, W where the new one was made, W1 behind the append (x: the block of what is appended). -/
theorem RowP.push {P : Nat → Prop} {base bM x : Nat} {W0 W W1 : World} {v : Value} {l : List Ty} {t : Ty} {ds : List Value} {g cap : Nat} {L : List (List Value)} (h1 : L.length = l.length) (h2 : ∀ ds ∈ L, ds.length = 3) (h5 : ∀ (i : Nat) t, l[i]? = some t → ∃ ds, L[i]? = some ds ∧ TyIn (KdP P base bM v W0) W0 t ds) (hb0 : KP (fun b => (P b ∨ base ≤ b) ∧ b < W0.heap.size) W0 W) (ht : TyIn (fun b => P b ∨ New W0.heap.size W.heap.size b) W t ds) (hPb : ∀ b, P b → b < base ∧ b ≠ bM) (hbase : base ≤ W0.heap.size) (hM : bM < W0.heap.size)
    (hlt : ∀ r, v.ownBlock = some r → base ≤ r ∧ r < W0.heap.size) (hown : W1.ownsRow base 24 3 (.slice (some ⟨g, 0, none⟩) (l.length + 1) cap) (l.length + 1) (L.flatten ++ ds)) (hgr : (W.alloc (.cells ds.toArray 24)).grownBy W1 v.ownBlock) (hat : v.ownBlock = some g ∨ g = W.heap.size + 1) (hv : v.ownBlock ≠ some bM) (u : Value) (off : Nat) (hH : ∃ C t', Hold bM C t' W1) :
    RowP P base bM (W1.setCell ⟨bM, off, none⟩ u) (.slice (some ⟨g, 0, none⟩) (l ++ [t]).length cap) (l ++ [t]) := by
  have hgM : g ≠ bM := by
    rcases hat with h | h
    · intro e; subst e; exact hv h
    · have := hb0.size; omega
  have hlen : (l ++ [t]).length = l.length + 1 := by simp
  have hgW : ∀ r, v.ownBlock = some r → r < W0.heap.size := fun r h => (hlt r h).2
  have hk : KP (fun b => b < W.heap.size ∧ b ≠ bM ∧ some b ≠ v.ownBlock) W (W1.setCell ⟨bM, off, none⟩ u) :=
    ((KP.alloc W _ fun b hb => hb.1).trans (KP.of_grown hgr fun b hb => ⟨by simp; omega, hb.2.2⟩)).trans (KP.setCell _ _ _ _ fun h => h.2.1 rfl)
  have hsz : W.heap.size + 1 ≤ (W1.setCell ⟨bM, off, none⟩ u).heap.size := by have := hgr.size; simp at this ⊢; omega
  refine ⟨L ++ [ds], by simp [h1], ?_, ?_, by simpa [Value.ownBlock] using hgM, ?_⟩
  · intro d hd
    rcases List.mem_append.1 hd with hd | hd
    · exact h2 d hd
    · simp at hd; rw [hd]; exact ht.three.1
  · rw [hlen, List.flatten_append]
    simp only [List.flatten_cons, List.flatten_nil, List.append_nil]
    refine row_keep hown fun b hb _ => Below.heap_setCell _ _ _ b fun e => ?_
    have hbg : g = b := by simpa [Value.ownBlock] using hb
    exact hgM (hbg.trans e)
  · intro i s hs
    have hne : ∀ b, some b ≠ v.ownBlock → b < W.heap.size → g ≠ b := by
      intro b hb hl e
      rcases hat with h | h
      · rw [e] at h; exact hb h.symm
      · omega
    rcases Nat.lt_trichotomy i l.length with hi | hi | hi
    · rw [List.getElem?_append_left hi] at hs
      obtain ⟨d, e1, e2⟩ := h5 i s hs
      refine ⟨d, by rw [List.getElem?_append_left (by omega)]; exact e1, ?_⟩
      have k1 : KP (KdP P base bM v W0) W0 (W1.setCell ⟨bM, off, none⟩ u) := (hb0.mono fun b (hb : KdP P base bM v W0 b) => ⟨hb.1, hb.2.1⟩).trans (hk.mono fun b hb => ⟨Nat.lt_of_lt_of_le hb.2.1 hb0.size, hb.2.2.1, hb.2.2.2⟩)
      refine TyIn.keep k1 (fun b hb => ⟨hb.1, Nat.lt_of_lt_of_le hb.2.1 k1.size, hb.2.2.1, fun e => ?_⟩) _ _ e2
      have e' : b = g := by simpa [Value.ownBlock] using e
      exact hne b hb.2.2.2 (Nat.lt_of_lt_of_le hb.2.1 hb0.size) e'.symm
    · subst hi
      simp at hs
      subst hs
      refine ⟨ds, by rw [← h1]; simp, ?_⟩
      have hsW := hb0.size
      have hQ : ∀ b, (P b ∨ New W0.heap.size W.heap.size b) → (P b ∨ base ≤ b) ∧ b < W.heap.size ∧ b ≠ bM ∧ some b ≠ v.ownBlock := fun b hb => by
        rcases hb with hb | hb
        · obtain ⟨h1, h2⟩ := hPb b hb
          exact ⟨.inl hb, by omega, h2, fun e => by have := (hlt b e.symm).1; omega⟩
        · exact ⟨.inr (Nat.le_trans hbase hb.1), hb.2, by have := hb.1; omega, fun e => by have := hgW b e.symm; have := hb.1; omega⟩
      have k1 : KP (fun b => P b ∨ New W0.heap.size W.heap.size b) W (W1.setCell ⟨bM, off, none⟩ u) := hk.mono fun b hb => (hQ b hb).2
      refine TyIn.keep k1 (fun b hb => ?_) _ _ ht
      obtain ⟨q1, q2, q3, q4⟩ := hQ b hb
      refine ⟨q1, by omega, q3, fun e => ?_⟩
      have e' : b = g := by simpa [Value.ownBlock] using e
      exact hne b q4 q2 e'.symm
    · rw [List.getElem?_append_right (by omega)] at hs
      have hz : i - l.length ≠ 0 := by omega
      obtain ⟨k, hk'⟩ : ∃ k, i - l.length = k + 1 := ⟨i - l.length - 1, by omega⟩
      rw [hk'] at hs
      simp at hs
end Go.Proofs.YteoflpalmckikaaDoor
namespace Go.Proofs.YteoflpalmckikaaDoor
open Go.RowKit
set_option linter.unusedVariables false
set_option linter.unusedSimpArgs false
theorem look_first {l : List (Int × Ty)} {n : Int} {i : Nat} {f : Int × Ty} (hf : l[i]? = some f) (hno : ∀ g ∈ l.take i, g.1 ≠ n) (hx : f.1 = n) : look l n = f.2 := by
  obtain ⟨hi, rfl⟩ := List.getElem?_eq_some_iff.1 hf
  unfold look
  have : l.find? (fun f => f.1 == n) = some l[i] := by
    rw [List.find?_eq_some_iff_getElem]
    refine ⟨by simp [hx], i, hi, rfl, fun j hj => ?_⟩
    have := hno l[j] (List.mem_take_iff_getElem.2 ⟨j, by omega, rfl⟩)
    simp [this]
  rw [this]
theorem look_no {l : List (Int × Ty)} {n : Int} (hno : ∀ f ∈ l, f.1 ≠ n) : look l n = hole n := by
  unfold look
  have : l.find? (fun f => f.1 == n) = none := by
    rw [List.find?_eq_none]
    intro f hf
    simp [hno f hf]
  rw [this]
set_option maxHeartbeats 2000000 in
set_option maxRecDepth 100000 in
theorem rfact_any {l : List (Int × Ty)} {n : Int} {P : Nat → Prop} {w : World} {pl : Option Addr} {cl : Nat} (hL : RM 4 P w (FaIn P w) pl l) (hll : l.length ≤ 1000000) :
    Calls Tryd.prog 54 #[.slice pl l.length cl, .int .i64 n] w fun r w' => w' = w ∧ ((∃ i f, l[i]? = some f ∧ r = .returned (.int .i64 (i : Nat)) ∧ (∀ g ∈ l.take i, g.1 ≠ n) ∧ f.1 = n) ∨ (r = .returned (.int .i64 (-1)) ∧ ∀ f ∈ l, f.1 ≠ n)) := by
  have HL := hide hL
  generalize hnk : l.length = nk at *
  have HNK := hide hnk
  clear hnk hL
  go_enter Tryd.func54, Tryd.ntmps54
  go_wp2_with fail
  go_loopg [5] nk (fun k s5 wr => ∃ i : Nat, i ≤ nk ∧ k = nk - i ∧ s5 = .int .i64 i ∧ (∀ f ∈ l.take i, f.1 ≠ n) ∧ wr = w)
  case atStart => exact ⟨0, Nat.zero_le _, by omega, rfl, by simp, rfl⟩
  case round =>
    obtain ⟨i, hi1, rfl, rfl, hno, rfl⟩ := hrel
    have HNO := hide hno
    clear hno
    by_cases hlt : i < nk
    · have hil : i < l.length := by rw [HNK.out]; exact hlt
      obtain ⟨b1, o1, q1, d1, rfl, hp1, _, hin1, a0, a1, a2, a3⟩ := fm_at HL.out hil
      have htk : l.take (i + 1) = l.take i ++ [l[i]] := List.take_succ_eq_append_getElem hil
      have hend : l[i]? = some l[i] := List.getElem?_eq_getElem hil
      generalize hlf : l[i] = f at *
      have hii : (i : Int) < nk := by omega
      have HTK := hide htk; have HEND := hide hend
      clear htk hin1 a1 a2 a3 hend hlf
      by_cases hx : f.1 = n
      · have hxb : (f.1 == n) = true := by simp [hx]
        have HX := hide hx
        clear hx
        go_wp2_with fail
        go_ret
        exact ⟨rfl, .inl ⟨i, f, HEND.out, rfl, HNO.out, HX.out⟩⟩
      · have hxb : (f.1 == n) = false := by simp [hx]
        have hn2 : ∀ g ∈ l.take (i + 1), g.1 ≠ n := by
          rw [HTK.out]
          intro g h
          rcases List.mem_append.1 h with h | h
          · exact HNO.out g h
          · rw [List.mem_singleton.1 h]; exact hx
        have HN2 := hide hn2
        have HX := hide hx
        clear hx hn2
        go_wp2_with fail
        go_roundg (nk - (i + 1))
        case measure => omega
        case rel => exact ⟨i + 1, by omega, rfl, by go_num, HN2.out, rfl⟩
    · have hii : ¬ (i : Int) < nk := by omega
      have h1 : l.take i = l := List.take_of_length_le (by rw [HNK.out]; omega)
      have h2 := HNO.out
      rw [h1] at h2
      have HN := hide h2
      clear h1 h2
      go_wp2_with fail
      go_ret
      first
        | exact ⟨rfl, .inr ⟨rfl, HN.out⟩⟩
        | exact ⟨rfl, .inr ⟨rfl, fun a b h => HN.out (a, b) h⟩⟩
/-- A type that was made, of blocks of P or of its own. -/
def TQP (P : Nat → Prop) (t : Ty) (w : World) (r : Ending) (w' : World) : Prop := ∃ pk ck, r = .returned (.agg (cs3 t pk ck)) ∧ Below w.heap.size w w' ∧ TyIn (fun b => P b ∨ New w.heap.size w'.heap.size b) w' t [.string (S t.nm), .int .i64 t.n, .slice pk t.ar.length ck]
theorem tqp_cell {P : Nat → Prop} {t : Ty} {w W : World} {pk : Option Addr} {ck B : Nat} (hP : ∀ b, P b → b < w.heap.size) (hB : w.heap.size ≤ B) (hb : Below w.heap.size w W) (h : TyIn (fun b => (P b ∨ w.heap.size ≤ b) ∧ b < W.heap.size ∧ b ≠ B) W t [.string (S t.nm), .int .i64 t.n, .slice pk t.ar.length ck]) : TQP P t w (.returned (.agg (cs3 t pk ck))) (((W.setCell ⟨B, 0, none⟩ (.string (S t.nm))).setCell ⟨B, 1, none⟩ (.int .i64 t.n)).setCell ⟨B, 2, none⟩ (.slice pk t.ar.length ck)) := by
  refine ⟨pk, ck, rfl, ?_, ?_⟩
  · exact ((hb.setCell (p := ⟨B, 0, none⟩) hB _).setCell (p := ⟨B, 1, none⟩) hB _).setCell (p := ⟨B, 2, none⟩) hB _
  · refine TyIn.keep ((kp3 W B _ _ _).mono fun b hb => hb.2.2) (fun b hb => ?_) _ _ h
    rw [size3]
    rcases hb.1 with h1 | h1
    · exact .inl h1
    · exact .inr ⟨h1, hb.2.1⟩
set_option maxHeartbeats 8000000 in
set_option maxRecDepth 100000 in
theorem rput_any (l : List (Int × Ty)) (hll : l.length ≤ 1000000) (e : Ty) : ∀ {P : Nat → Prop} {w : World} {pk pl : Option Addr} {ck cl : Nat}, (∀ b, P b → b < w.heap.size) → TyIn P w e [.string (S e.nm), .int .i64 e.n, .slice pk e.ar.length ck] → RM 4 P w (FaIn P w) pl l → tsz e ≤ 1000000 →
    Calls Tryd.prog 39 #[.slice pl l.length cl, .agg (cs3 e pk ck)] w (TQP P (sub (look l) e) w) := by
  induction e using Ty.ind with
  | _ e ih =>
    intro P w pk pl ck cl hP hE hLL hsz
    have hkl := hE.len
    obtain ⟨hnl, hn1, hn2⟩ := hE.bds
    have hB0 : Below w.heap.size w ((w.alloc (.cells (cs3 e pk ck) 24)).alloc (.cells #[.string ⟨#[]⟩, .int .i64 0, .slice none 0 0] 24)) := ((Below.refl _ w).alloc (Nat.le_refl _) _).alloc (by simp) _
    have hW : Hold w.heap.size (cs3 e pk ck) 24 ((w.alloc (.cells (cs3 e pk ck) 24)).alloc (.cells #[.string ⟨#[]⟩, .int .i64 0, .slice none 0 0] 24)) := (Hold.new w _ 24).alloc _
    have hR : Hold (w.heap.size + 1) #[.string ⟨#[]⟩, .int .i64 0, .slice none 0 0] 24 ((w.alloc (.cells (cs3 e pk ck) 24)).alloc (.cells #[.string ⟨#[]⟩, .int .i64 0, .slice none 0 0] 24)) := by have := Hold.new (w.alloc (.cells (cs3 e pk ck) 24)) #[.string ⟨#[]⟩, .int .i64 0, .slice none 0 0] 24; simpa using this
    have HI := hide fun W => rhole_any e W pk ck
    have HB0 := hide hB0
    have HW := hide hW
    have HR := hide hR
    have HIH := hide ih
    have HE := hide hE
    have HLL := hide hLL
    clear ih hE hB0 hW hR hLL
    cases hh : e.nm.isEmpty
    · generalize hnl2 : l.length = nl at *
      have HSUB := hide (sub_node (look l) e hh)
      have hlen : e.ar.length ≤ 1000000 := by
        have h1 := tsz_eq e
        have h2 := ar_le e
        omega
      have hks : ∀ k ∈ e.ar, tsz k ≤ 1000000 := by
        intro k hk
        have h1 := tsz_eq e
        obtain ⟨i, hi, rfl⟩ := List.getElem_of_mem hk
        have h2 := sum_take tsz hi
        have h3 := sum_take_le tsz e.ar (i + 1)
        omega
      have HKS := hide hks
      generalize sub (look l) e = te at *
      rw [hh] at HI
      unfold cs3 at *
      have HTM := hide (tm_of HE.out)
      generalize hnk : e.ar.length = nk at *
      have HNK := hide hnk
      obtain ⟨i0, hi, hz0, hz1, hz2'⟩ := info_parts info24
      clear hnk hks hh hsz hkl
      go_enter Tryd.func39, Tryd.ntmps39
      go_wp2_with fail
      refine (HI.out _).mono ?_
      rintro r w1 ⟨rfl, hb1⟩
      have c0 := HW.out.below hb1 HW.out.lt
      have r0 := HR.out.below hb1 HR.out.lt
      have HB1 := hide (HB0.out.trans (hb1.mono HB0.out.size))
      have k0 := c0.cell 0
      have k2 := c0.cell 2
      simp only [List.getElem?_toArray, List.getElem?_cons_succ, List.getElem?_cons_zero] at k0 k2
      have hs1 : w.heap.size + 1 < w1.heap.size := r0.lt
      have hs0 : w.heap.size < w1.heap.size := by omega
      have HR1 := hide r0
      have HC1 := hide c0
      clear hb1 c0 r0
      go_wp2_with fail
      go_loopg [7] nk (fun k s7 wr => ∃ i : Nat, ∃ v : Value, i ≤ nk ∧ k = nk - i ∧ s7 = .int .i64 i ∧ Below w.heap.size w wr ∧ Hold w1.heap.size #[.string (S e.nm), .int .i64 0, v] 24 wr ∧ Hold (w.heap.size + 1) #[.string ⟨#[]⟩, .int .i64 0, .slice none 0 0] 24 wr ∧ Hold w.heap.size #[.string (S e.nm), .int .i64 e.n, .slice pk nk ck] 24 wr ∧ RowP P (w1.heap.size + 1) w1.heap.size wr v ((e.ar.take i).map (sub (look l))) ∧ w1.heap.size + 1 ≤ wr.heap.size)
      case atStart =>
        refine ⟨0, .slice none 0 0, Nat.zero_le _, by omega, rfl, HB1.out.alloc HB1.out.size _, Hold.new w1 _ 24, HR1.out.alloc _, HC1.out.alloc _, RowP.nil _ _ _ _, by simp⟩
      case round =>
        obtain ⟨i, v, hi1, rfl, rfl, hbr, hmd, hrs, hcb, hrow, hszr⟩ := hrel
        clear k0 k2
        have HBR := hide hbr
        have HMD := hide hmd
        have HRS := hide hrs
        have HCB := hide hcb
        have HROW := hide hrow
        have k2 := hcb.cell 2
        simp only [List.getElem?_toArray, List.getElem?_cons_succ, List.getElem?_cons_zero] at k2
        by_cases hlt : i < nk
        · have hil : i < e.ar.length := by rw [HNK.out]; exact hlt
          obtain ⟨b, o, qk, dk, hpk, hPb, hIn, a0, a1, a2⟩ := tm_at HTM.out hil
          have hcc : ∀ W, Below w.heap.size w W → ∀ x, W.cell? ⟨b, x, none⟩ = w.cell? ⟨b, x, none⟩ := fun W hb x => hb.cell (p := ⟨b, x, none⟩) (hP b hPb)
          have hbw : Below w.heap.size w wr.drew := hbr.trans ((below_drew wr).mono hbr.size)
          have hcall := HIH.out e.ar[i] (by simp) (w := wr.drew) (pl := pl) (cl := cl) (fun b hb => Nat.lt_of_lt_of_le (hP b hb) hbw.size) (TyIn.keep (KP.of_below hbw hP) (fun b hb => hb) _ _ hIn) (RM.keep (KP.of_below hbw hP) (fun b hb => hb) (fun t ds h => FaIn.keep (KP.of_below hbw hP) (fun b hb => hb) t ds h) HLL.out) (HKS.out _ (List.getElem_mem hil))
          have htk : (e.ar.take (i + 1)).map (sub (look l)) = (e.ar.take i).map (sub (look l)) ++ [sub (look l) e.ar[i]] := by rw [List.take_succ_eq_append_getElem hil, List.map_append, List.map_singleton]
          have htl : ((e.ar.take i).map (sub (look l))).length = i := by simp; omega
          have HTL := hide htl
          subst hpk
          generalize e.ar[i] = k at *
          generalize (e.ar.take i).map (sub (look l)) = ml at *
          generalize sub (look l) k = tk at *
          have hSF : ∀ W', Hold w1.heap.size #[.string (S e.nm), .int .i64 0, v] 24 W' → Hold w.heap.size #[.string (S e.nm), .int .i64 e.n, .slice (some ⟨b, o, none⟩) nk ck] 24 W' → Below w.heap.size w W' → W'.cell? ⟨w1.heap.size, 2, none⟩ = some v ∧ W'.cell? ⟨w.heap.size, 2, none⟩ = some (.slice (some ⟨b, o, none⟩) nk ck) ∧ W'.cell? ⟨b, o + i * 3, none⟩ = some (.string (S k.nm)) ∧ W'.cell? ⟨b, o + i * 3 + 1, none⟩ = some (.int .i64 k.n) ∧ W'.cell? ⟨b, o + i * 3 + 2, none⟩ = some (.slice qk k.ar.length dk) := fun W' x1 x2 x3 => ⟨x1.cell 2, x2.cell 2, (hcc W' x3 _).trans a0, (hcc W' x3 _).trans a1, (hcc W' x3 _).trans a2⟩
          have HC := hide hcall
          have HTK := hide htk
          have hii : (i : Int) < nk := by omega
          obtain ⟨p, c, rfl, hsl⟩ := RowP.slice HROW.out
          obtain ⟨L, e1, e2, e3, e4, e5⟩ := HROW.out
          rw [htl] at e1 e3 HMD HROW hmd e4 e5 hSF
          have HSF := hide hSF
          have hm3 := hmd.lt
          have hrl : ∀ r, (Value.slice p i c).ownBlock = some r → w1.heap.size + 1 ≤ r ∧ r < wr.heap.size := by
            intro r hr
            rcases e3.2 with ⟨h, _⟩ | ⟨g, cap, cur, h, hbg, hg, _⟩
            · rw [h] at hr; cases hr
            · rw [h] at hr
              have : g = r := by simpa [Value.ownBlock] using hr
              subst this
              exact ⟨hbg, (Array.getElem?_eq_some_iff.1 hg).1⟩
          have HE1 := hide e1
          have HE2 := hide e2
          have HE3 := hide e3
          have HE4 := hide e4
          have HE5 := hide e5
          have HRL := hide hrl
          have hdw : wr.drew.heap.size = wr.heap.size := rfl
          clear hcall hcc hbr hmd hrs hcb hrow hIn hbw htk htl hsl e1 e2 e3 e4 e5 hrl a0 a1 a2 hSF
          go_upto_region 10 with fail
          clear k2
          refine wp_region_noPanic ?_
          refine region_J 13 (N := 11) (S := (fun W' : World => W'.cell? ⟨w1.heap.size, 2, none⟩ = some (.slice p i c) ∧ W'.cell? ⟨w.heap.size, 2, none⟩ = some (.slice (some ⟨b, o, none⟩) nk ck) ∧ W'.cell? ⟨b, o + i * 3, none⟩ = some (.string (S k.nm)) ∧ W'.cell? ⟨b, o + i * 3 + 1, none⟩ = some (.int .i64 k.n) ∧ W'.cell? ⟨b, o + i * 3 + 2, none⟩ = some (.slice qk k.ar.length dk))) (by kernel_rfl) (by kernel_rfl) ?_
          have hS : (fun W' : World => W'.cell? ⟨w1.heap.size, 2, none⟩ = some (.slice p i c) ∧ W'.cell? ⟨w.heap.size, 2, none⟩ = some (.slice (some ⟨b, o, none⟩) nk ck) ∧ W'.cell? ⟨b, o + i * 3, none⟩ = some (.string (S k.nm)) ∧ W'.cell? ⟨b, o + i * 3 + 1, none⟩ = some (.int .i64 k.n) ∧ W'.cell? ⟨b, o + i * 3 + 2, none⟩ = some (.slice qk k.ar.length dk)) wr.drew := HSF.out wr.drew (HMD.out.below (below_drew wr) HMD.out.lt) (HCB.out.below (below_drew wr) HCB.out.lt) (HBR.out.trans ((below_drew wr).mono HBR.out.size))
          refine take_D (i := 0) 34 (.pointer (some ⟨w1.heap.size, 2, none⟩)) rfl rfl (by kernel_rfl) (by kernel_rfl) (by kernel_rfl) (by kernel_rfl) (fun _ _ _ h => h) (Or.inl ⟨by rfl, fun W' hW => by obtain ⟨s0, s1, s2, s3, s4⟩ := hW; go_simp⟩) hS ?_
          simp only [Act.put, List.setIfInBounds_toArray, List.set_cons_zero, List.set_cons_succ]
          refine take_D (i := 1) 35 (.slice p i c) rfl rfl (by kernel_rfl) (by kernel_rfl) (by kernel_rfl) (by kernel_rfl) (fun _ _ _ h => h) (Or.inl ⟨by rfl, fun W' hW => by obtain ⟨s0, s1, s2, s3, s4⟩ := hW; go_simp⟩) hS ?_
          simp only [Act.put, List.setIfInBounds_toArray, List.set_cons_zero, List.set_cons_succ]
          refine take_D (i := 2) 36 (.slice pl nl cl) rfl rfl (by kernel_rfl) (by kernel_rfl) (by kernel_rfl) (by kernel_rfl) (fun _ _ _ h => h) (Or.inl ⟨by rfl, fun W' hW => by obtain ⟨s0, s1, s2, s3, s4⟩ := hW; go_simp⟩) hS ?_
          simp only [Act.put, List.setIfInBounds_toArray, List.set_cons_zero, List.set_cons_succ]
          refine take_D (i := 3) 37 (.pointer (some ⟨w.heap.size, 2, none⟩)) rfl rfl (by kernel_rfl) (by kernel_rfl) (by kernel_rfl) (by kernel_rfl) (fun _ _ _ h => h) (Or.inl ⟨by rfl, fun W' hW => by obtain ⟨s0, s1, s2, s3, s4⟩ := hW; go_simp⟩) hS ?_
          simp only [Act.put, List.setIfInBounds_toArray, List.set_cons_zero, List.set_cons_succ]
          refine take_D (i := 4) 38 (.slice (some ⟨b, o, none⟩) nk ck) rfl rfl (by kernel_rfl) (by kernel_rfl) (by kernel_rfl) (by kernel_rfl) (fun _ _ _ h => h) (Or.inl ⟨by rfl, fun W' hW => by obtain ⟨s0, s1, s2, s3, s4⟩ := hW; go_simp⟩) hS ?_
          simp only [Act.put, List.setIfInBounds_toArray, List.set_cons_zero, List.set_cons_succ]
          refine take_D (i := 5) 39 (.int .i64 i) rfl rfl (by kernel_rfl) (by kernel_rfl) (by kernel_rfl) (by kernel_rfl) (fun _ _ _ h => h) (Or.inl ⟨by rfl, fun W' hW => by obtain ⟨s0, s1, s2, s3, s4⟩ := hW; go_simp⟩) hS ?_
          simp only [Act.put, List.setIfInBounds_toArray, List.set_cons_zero, List.set_cons_succ]
          refine take_D (i := 6) 40 (.pointer (some ⟨b, o + i * 3, none⟩)) rfl rfl (by kernel_rfl) (by kernel_rfl) (by kernel_rfl) (by kernel_rfl) (fun _ _ _ h => h) (Or.inl ⟨by rfl, fun W' hW => by obtain ⟨s0, s1, s2, s3, s4⟩ := hW; go_simp⟩) hS ?_
          simp only [Act.put, List.setIfInBounds_toArray, List.set_cons_zero, List.set_cons_succ]
          refine take_D (i := 7) 41 (.agg #[.string (S k.nm), .int .i64 k.n, .slice qk k.ar.length dk]) rfl rfl (by kernel_rfl) (by kernel_rfl) (by kernel_rfl) (by kernel_rfl) (fun _ _ _ h => h) (Or.inl ⟨by rfl, fun W' hW => by obtain ⟨s0, s1, s2, s3, s4⟩ := hW; go_simp⟩) hS ?_
          simp only [Act.put, List.setIfInBounds_toArray, List.set_cons_zero, List.set_cons_succ]
          refine ready_J (rs := [8]) (by kernel_rfl) (by simp) ?_
          intro jj hjj
          obtain rfl := List.mem_singleton.1 hjj
          clear hjj
          refine op_J rfl rfl fun K hK => ?_
          go_simp
          refine HC.out.mono ?_
          rintro r w2 ⟨rk, rd, rfl, hb2, hin2⟩
          have HB2r : Hid (Below wr.heap.size wr w2) := hide ((below_drew wr).trans (hb2.mono (Nat.le_refl _)))
          have HIN2 : Hid (TyIn (fun b => P b ∨ New wr.heap.size w2.heap.size b) w2 tk [.string (S tk.nm), .int .i64 tk.n, .slice rk tk.ar.length rd]) := hin2
          have HM2 := hide (HMD.out.below HB2r.out HMD.out.lt)
          have HC2 := hide (HCB.out.below HB2r.out HCB.out.lt)
          have HRS2 := hide (HRS.out.below HB2r.out HRS.out.lt)
          have HBW2 := hide (HBR.out.trans (HB2r.out.mono HBR.out.size))
          clear hS
          have hS := HSF.out w2 HM2.out HC2.out HBW2.out
          refine hK _ _ ⟨fun _ => hS, ?_⟩
          clear hK K hb2 hin2 HC
          refine ready_J (rs := [9]) (by kernel_rfl) (by simp) ?_
          intro jj hjj
          obtain rfl := List.mem_singleton.1 hjj
          clear hjj
          refine op_J rfl rfl fun K hK => ?_
          unfold cs3
          go_simp
          clear hS
          have hS := HSF.out (w2.alloc (.cells #[.string (S tk.nm), .int .i64 tk.n, .slice rk tk.ar.length rd] 24)) (HM2.out.alloc _) (HC2.out.alloc _) (HBW2.out.alloc HBW2.out.size _)
          refine hK _ _ ⟨fun _ => hS, ?_⟩
          clear hK K
          refine ready_J (rs := [10]) (by kernel_rfl) (by simp) ?_
          intro jj hjj
          obtain rfl := List.mem_singleton.1 hjj
          clear hjj
          refine op_J rfl rfl fun K hK => ?_
          have hBW := HB2r.out.size
          have hRow2 : (w2.alloc (.cells #[.string (S tk.nm), .int .i64 tk.n, .slice rk tk.ar.length rd] 24)).ownsRow (w1.heap.size + 1) 24 3 (.slice p i c) i L.flatten := row_keep HE3.out fun g hg hl => (Below.heap_alloc _ _ _ (by omega)).trans (HB2r.out.block g hl)
          have hnews := cells_new w2 [.string (S tk.nm), .int .i64 tk.n, .slice rk tk.ar.length rd] 24
          have hones : ∀ u ∈ ([.string (S tk.nm), .int .i64 tk.n, .slice rk tk.ar.length rd] : List Value), u.oneCell' = true := by simp [Value.oneCell']
          refine wp_append_lies _ _ _ _ (by rfl) (w1.heap.size + 1) 24 i0 _ 3 48 Tryd.underlying22 hi hz0 hz1 hz2' rfl (by omega) (.slice p i c) i L.flatten (by rfl) hRow2 ⟨w2.heap.size, 0, none⟩ 1 1 [.string (S tk.nm), .int .i64 tk.n, .slice rk tk.ar.length rd] (by rfl) (by rfl) hnews hones (by omega) (by unfold maxLen; omega) (by omega) (by simp; omega) (w2.heap.size + 1) (by simp) ?_
          intro gg cap W2 hown hgr hat hlt
          have k56 : KP (fun b => b < w2.heap.size ∧ some b ≠ (Value.slice p i c).ownBlock) w2 W2 := (KP.alloc w2 _ fun b hb => hb.1).trans (KP.of_grown hgr fun b hb => ⟨by simp; omega, hb.2⟩)
          have hM6 : Hold w1.heap.size #[.string (S e.nm), .int .i64 0, .slice p i c] 24 W2 := HM2.out.kp k56 ⟨HM2.out.lt, fun e => HE4.out e.symm⟩
          have hC6 : Hold w.heap.size #[.string (S e.nm), .int .i64 e.n, .slice (some ⟨b, o, none⟩) nk ck] 24 W2 := HC2.out.kp k56 ⟨HC2.out.lt, fun e => by have := (HRL.out _ e.symm).1; omega⟩
          have hRS6 : Hold (w.heap.size + 1) #[.string ⟨#[]⟩, .int .i64 0, .slice none 0 0] 24 W2 := HRS2.out.kp k56 ⟨HRS2.out.lt, fun e => by have := (HRL.out _ e.symm).1; omega⟩
          have hB6 : Below w.heap.size w W2 := HBW2.out.trans (k56.below fun x hx => ⟨by have := HBW2.out.size; omega, fun e => by have := (HRL.out _ e.symm).1; omega⟩)
          clear hS
          have hS := HSF.out W2 hM6 hC6 hB6
          refine hK _ _ ⟨fun _ => hS, ?_⟩
          clear hK K
          have HOWN := hide hown; have HGR := hide hgr; have HAT := hide hat
          have HM6 := hide hM6; have HC6 := hide hC6; have HRS6 := hide hRS6; have HB6 := hide hB6
          have m6 := hM6.cell 2
          have f6 := hM6.frozen 2
          simp only [List.getElem?_toArray, List.getElem?_cons_succ, List.getElem?_cons_zero] at m6
          have hw12 : w1.heap.size < W2.heap.size := hM6.lt
          clear hown hgr hat hM6 hC6 hRS6 hB6 k56 hnews hones hRow2 hS
          refine ready_J (rs := [11]) (by kernel_rfl) (by simp) ?_
          intro jj hjj
          obtain rfl := List.mem_singleton.1 hjj
          clear hjj
          refine op_J rfl rfl fun K hK => ?_
          go_simp
          refine hK _ _ ⟨fun h => absurd h (by omega), ?_⟩
          clear hK K
          refine ready_J (rs := [12]) (by kernel_rfl) (by simp) ?_
          intro jj hjj
          obtain rfl := List.mem_singleton.1 hjj
          clear hjj
          refine op_J rfl rfl fun K hK => ?_
          go_simp
          refine hK _ _ ⟨fun h => absurd h (by omega), ?_⟩
          clear hK K
          refine done_J (by kernel_rfl) ?_ _
          refine NoPanic.normal ?_
          have HRW : Hid (RowP P (w1.heap.size + 1) w1.heap.size (W2.setCell ⟨w1.heap.size, 2, none⟩ (.slice (some ⟨gg, 0, none⟩) (i + 1) cap)) (.slice (some ⟨gg, 0, none⟩) (i + 1) cap) (ml ++ [tk])) := by
            have hl := HTL.out
            have := RowP.push (P := P) (base := w1.heap.size + 1) (bM := w1.heap.size) (x := 0) (W0 := wr) (W := w2) (W1 := W2) (v := .slice p i c) (l := ml) (t := tk) (ds := [.string (S tk.nm), .int .i64 tk.n, .slice rk tk.ar.length rd]) (g := gg) (cap := cap) (L := L) (by rw [HE1.out, hl]) HE2.out HE5.out (KP.of_below HB2r.out fun b hb => hb.2) HIN2.out (fun b hb => ⟨by have := hP b hb; omega, by have := hP b hb; omega⟩) hszr hm3 HRL.out (by rw [hl]; exact HOWN.out) HGR.out HAT.out HE4.out (.slice (some ⟨gg, 0, none⟩) (i + 1) cap) 2 ⟨_, _, HM6.out⟩
            rw [List.length_append, List.length_singleton, hl] at this
            exact this
          have HMM : Hid (Hold w1.heap.size #[.string (S e.nm), .int .i64 0, .slice (some ⟨gg, 0, none⟩) (i + 1) cap] 24 (W2.setCell ⟨w1.heap.size, 2, none⟩ (.slice (some ⟨gg, 0, none⟩) (i + 1) cap))) := by
            have := HM6.out.set 2 (.slice (some ⟨gg, 0, none⟩) (i + 1) cap)
            exact hide (by simpa using this)
          have HCC : Hid (Hold w.heap.size #[.string (S e.nm), .int .i64 e.n, .slice (some ⟨b, o, none⟩) nk ck] 24 (W2.setCell ⟨w1.heap.size, 2, none⟩ (.slice (some ⟨gg, 0, none⟩) (i + 1) cap))) := HC6.out.other (by omega) _ _
          have HRR : Hid (Hold (w.heap.size + 1) #[.string ⟨#[]⟩, .int .i64 0, .slice none 0 0] 24 (W2.setCell ⟨w1.heap.size, 2, none⟩ (.slice (some ⟨gg, 0, none⟩) (i + 1) cap))) := HRS6.out.other (by omega) _ _
          have HBB : Hid (Below w.heap.size w (W2.setCell ⟨w1.heap.size, 2, none⟩ (.slice (some ⟨gg, 0, none⟩) (i + 1) cap))) := HB6.out.setCell (p := ⟨w1.heap.size, 2, none⟩) (by show w.heap.size ≤ w1.heap.size; omega) _
          have hsz3 : w1.heap.size + 1 ≤ (W2.setCell ⟨w1.heap.size, 2, none⟩ (.slice (some ⟨gg, 0, none⟩) (i + 1) cap)).heap.size := by simp; omega
          generalize W2.setCell ⟨w1.heap.size, 2, none⟩ (.slice (some ⟨gg, 0, none⟩) (i + 1) cap) = W3 at *
          go_wp2_with fail
          go_roundg (nk - (i + 1))
          case measure => omega
          case rel =>
            refine ⟨i + 1, _, by omega, rfl, by go_num, HBB.out, HMM.out, HRR.out, HCC.out, ?_, hsz3⟩
            rw [HTK.out]
            exact HRW.out
        · have h1 : e.ar.take i = e.ar := List.take_of_length_le (by rw [HNK.out]; omega)
          rw [h1] at HROW
          obtain ⟨p, c, rfl, hsl⟩ := RowP.slice HROW.out
          have hm0 := hmd.cell 0
          have hm1 := hmd.cell 1
          have hm2 := hmd.cell 2
          simp only [List.getElem?_toArray, List.getElem?_cons_succ, List.getElem?_cons_zero] at hm0 hm1 hm2
          have hm3 := hmd.lt
          have hr3 := hrs.lt
          have hf0 := hrs.frozen 0
          have hf1 := hrs.frozen 1
          have hf2 := hrs.frozen 2
          have hr0 := hrs.cell 0
          have hr1 := hrs.cell 1
          have hr2 := hrs.cell 2
          simp only [List.getElem?_toArray, List.getElem?_cons_succ, List.getElem?_cons_zero] at hr0 hr1 hr2
          have hii : ¬ (i : Int) < nk := by omega
          have HSL := hide hsl
          have HR3 := hide hrs
          clear hbr hmd hrow h1 hsl hrs hcb
          go_wp2_with fail
          have hro := hold3 HR3.out (.string (S e.nm)) (.int .i64 0) (.slice p e.ar.length c)
          have q0 := hro.cell 0
          have q1 := hro.cell 1
          have q2 := hro.cell 2
          simp only [List.getElem?_toArray, List.getElem?_cons_succ, List.getElem?_cons_zero] at q0 q1 q2
          have HTQ : Hid (TQP P te w (.returned (.agg #[.string (S e.nm), .int .i64 0, .slice p e.ar.length c])) (((wr.setCell ⟨w.heap.size + 1, 0, none⟩ (.string (S e.nm))).setCell ⟨w.heap.size + 1, 1, none⟩ (.int .i64 0)).setCell ⟨w.heap.size + 1, 2, none⟩ (.slice p e.ar.length c))) := by
            have hte := HSUB.out
            have hl : te.ar.length = e.ar.length := by rw [hte]; simp
            have hn0 : te.nm = e.nm := by rw [hte]
            have hz : te.n = 0 := by rw [hte]
            have := tqp_cell (P := P) (t := te) (w := w) (W := wr) (pk := p) (ck := c) (B := w.heap.size + 1) hP (by omega) HBR.out (by
              rw [TyIn_iff]
              refine ⟨p, c, rfl, by rw [hn0]; exact hnl, by rw [hz]; omega, by rw [hl]; simpa using HSL.out, ?_⟩
              have h1 := HROW.out.tm
              rw [hte]
              refine TM.keep (KP.refl _ _) (fun b hb => ?_) h1
              rcases hb.1 with h2 | h2
              · have := hP b h2
                exact ⟨.inl h2, hb.2, by omega⟩
              · exact ⟨.inr (by omega), hb.2, by omega⟩)
            unfold cs3 at this
            rw [hl, hn0, hz] at this
            exact this
          generalize ((wr.setCell ⟨w.heap.size + 1, 0, none⟩ (.string (S e.nm))).setCell ⟨w.heap.size + 1, 1, none⟩ (.int .i64 0)).setCell ⟨w.heap.size + 1, 2, none⟩ (.slice p e.ar.length c) = W3 at *
          exact bodyPost_ret (v := .agg #[.string (S e.nm), .int .i64 0, .slice p e.ar.length c]) (by simp only [results, Tryd.results39]; go_simp) rfl HTQ.out
    · have hsub := sub_at (look l) e hh
      have HFC := hide (fun (W : World) (hb : Below w.heap.size w W) => rfact_any (n := e.n) (cl := cl) (RM.keep (KP.of_below hb hP) (fun b hb => hb) (fun t ds h => FaIn.keep (KP.of_below hb hP) (fun b hb => hb) t ds h) HLL.out) hll)
      have HSB := hide hsub
      clear hsub
      generalize sub (look l) e = te at *
      rw [hh] at HI
      unfold cs3 at *
      generalize hen : e.n = n at *
      generalize hnk : e.ar.length = nk at *
      clear hnk hh HIH hsz hen
      go_enter Tryd.func39, Tryd.ntmps39
      go_wp2_with fail
      refine (HI.out _).mono ?_
      rintro r w1 ⟨rfl, hb1⟩
      have c0 := HW.out.below hb1 HW.out.lt
      have r0 := HR.out.below hb1 HR.out.lt
      have HB1 := hide (HB0.out.trans (hb1.mono HB0.out.size))
      have k1 := c0.cell 1
      simp only [List.getElem?_toArray, List.getElem?_cons_succ, List.getElem?_cons_zero] at k1
      have hs1 : w.heap.size + 1 < w1.heap.size := r0.lt
      have HR1 := hide r0
      clear hb1 c0 r0
      go_wp2_with fail
      refine (HFC.out w1 HB1.out).mono ?_
      rintro r w2 ⟨rfl, hor⟩
      rcases hor with ⟨i, f, hlf, rfl, hno, hx⟩ | ⟨rfl, hno⟩
      · have hi : i < l.length := (List.getElem?_eq_some_iff.1 hlf).1
        obtain ⟨b1, o1, z1, z2, rfl, hp1, _, hin1, a0, a1, a2, a3⟩ := fm_at HLL.out hi
        have hle : l[i] = f := (List.getElem?_eq_some_iff.1 hlf).2
        rw [hle] at hin1 a0 a1 a2 a3
        have HSUB : Hid (te = f.2) := hide (by rw [HSB.out]; exact look_first hlf hno hx)
        have hcc : ∀ x, w2.cell? ⟨b1, x, none⟩ = w.cell? ⟨b1, x, none⟩ := fun x => HB1.out.cell (p := ⟨b1, x, none⟩) (hP b1 hp1)
        rw [← hcc] at a0 a1 a2 a3
        have HIN1 := hide hin1
        have hii : ¬ ((i : Int) < 0) := by omega
        have hij : (i : Int) < l.length := by omega
        clear hno hx hcc hin1 HSB hle hlf
        have r2 := HR1.out
        have hf0 := r2.frozen 0
        have hf1 := r2.frozen 1
        have hf2 := r2.frozen 2
        have hr0 := r2.cell 0
        have hr1 := r2.cell 1
        have hr2 := r2.cell 2
        simp only [List.getElem?_toArray, List.getElem?_cons_succ, List.getElem?_cons_zero] at hr0 hr1 hr2
        have hs2 := r2.lt
        clear r2
        go_wp2_with fail
        have hro := hold3 HR1.out (.string (S f.2.nm)) (.int .i64 f.2.n) (.slice z1 f.2.ar.length z2)
        have q0 := hro.cell 0
        have q1 := hro.cell 1
        have q2 := hro.cell 2
        simp only [List.getElem?_toArray, List.getElem?_cons_succ, List.getElem?_cons_zero] at q0 q1 q2
        have HTQ : Hid (TQP P te w (.returned (.agg #[.string (S f.2.nm), .int .i64 f.2.n, .slice z1 f.2.ar.length z2])) (((w2.setCell ⟨w.heap.size + 1, 0, none⟩ (.string (S f.2.nm))).setCell ⟨w.heap.size + 1, 1, none⟩ (.int .i64 f.2.n)).setCell ⟨w.heap.size + 1, 2, none⟩ (.slice z1 f.2.ar.length z2))) := by
          rw [HSUB.out]
          exact tqp_cell (P := P) (t := f.2) (w := w) (W := w2) (pk := z1) (ck := z2) (B := w.heap.size + 1) hP (by omega) HB1.out (TyIn.keep (KP.of_below HB1.out hP) (fun b hb => ⟨.inl hb, by have := hP b hb; have := HB1.out.size; omega, by have := hP b hb; omega⟩) _ _ HIN1.out)
        generalize ((w2.setCell ⟨w.heap.size + 1, 0, none⟩ (.string (S f.2.nm))).setCell ⟨w.heap.size + 1, 1, none⟩ (.int .i64 f.2.n)).setCell ⟨w.heap.size + 1, 2, none⟩ (.slice z1 f.2.ar.length z2) = W3 at *
        exact bodyPost_ret (v := .agg #[.string (S f.2.nm), .int .i64 f.2.n, .slice z1 f.2.ar.length z2]) (by simp only [results, Tryd.results39]; go_simp) rfl HTQ.out
      · have HSUB : Hid (te = hole n) := hide (by rw [HSB.out]; exact look_no hno)
        clear hno HSB
        have r2 := HR1.out
        have hf0 := r2.frozen 0
        have hf1 := r2.frozen 1
        have hf2 := r2.frozen 2
        have hr0 := r2.cell 0
        have hr1 := r2.cell 1
        have hr2 := r2.cell 2
        simp only [List.getElem?_toArray, List.getElem?_cons_succ, List.getElem?_cons_zero] at hr0 hr1 hr2
        have hs2 := r2.lt
        clear r2
        go_wp2_with fail
        have hro := hold3 HR1.out (.string ⟨#[]⟩) (.int .i64 n) (.slice none 0 0)
        have q0 := hro.cell 0
        have q1 := hro.cell 1
        have q2 := hro.cell 2
        simp only [List.getElem?_toArray, List.getElem?_cons_succ, List.getElem?_cons_zero] at q0 q1 q2
        have HTQ : Hid (TQP P te w (.returned (.agg #[.string ⟨#[]⟩, .int .i64 n, .slice none 0 0])) (((w2.setCell ⟨w.heap.size + 1, 0, none⟩ (.string ⟨#[]⟩)).setCell ⟨w.heap.size + 1, 1, none⟩ (.int .i64 n)).setCell ⟨w.heap.size + 1, 2, none⟩ (.slice none 0 0))) := by
          rw [HSUB.out]
          exact tqp_cell (P := P) (t := hole n) (w := w) (W := w2) (pk := none) (ck := 0) (B := w.heap.size + 1) hP (by omega) HB1.out (TyIn.keep (KP.of_below HB1.out hP) (fun b hb => ⟨.inl hb, by have := hP b hb; have := HB1.out.size; omega, by have := hP b hb; omega⟩) _ _ (hole_in P w n ⟨hn1, hn2⟩))
        generalize ((w2.setCell ⟨w.heap.size + 1, 0, none⟩ (.string ⟨#[]⟩)).setCell ⟨w.heap.size + 1, 1, none⟩ (.int .i64 n)).setCell ⟨w.heap.size + 1, 2, none⟩ (.slice none 0 0) = W3 at *
        exact bodyPost_ret (v := .agg #[.string ⟨#[]⟩, .int .i64 n, .slice none 0 0]) (by simp only [results, Tryd.results39]; go_simp) rfl HTQ.out
end Go.Proofs.YteoflpalmckikaaDoor
