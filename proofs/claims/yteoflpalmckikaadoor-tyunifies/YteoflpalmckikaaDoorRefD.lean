/-
  THE WALKS OF dawdlerref08's add, holes AND Holes.
-/
import Derived.Test.YteoflpalmckikaaDoorRefB
import Derived.Test.YteoflpalmckikaaDoorToldP
import Derived.Maps.AppendAt
import Derived.Deep.AppendLies
namespace Go.Proofs.YteoflpalmckikaaDoor
open Go.RowKit
set_option linter.unusedVariables false
set_option linter.unusedSimpArgs false
theorem none27 (w : World) (ty : TypeId) (pa : Option Addr) (n c : Nat) (h : n ≤ c) : (Builtin.append_ #[27, 27] ty #[.slice pa n c, .slice none 0 0]).run Tryd.prog w = .ok (.slice pa n c) w := by
  have h22 := Tryd.underlying27
  have z5 := Tryd.sizeOf3
  cases pa with
  | none => simp [Builtin.append_, run_underlying h22, z5, Builtin.lenOf, Builtin.firstCells, h]
  | some a => simp [Builtin.append_, run_underlying h22, z5, Builtin.lenOf, Builtin.firstCells, h, storeCells]
/-- append(xs, ys...), whatever slice ys is. -/
theorem wpList_spread {w : World} {ops : Array Oper} {rest : List Oper} {o : Oper} {a : Act} {Q : Exit → Act → World → Prop} (hgd : o.guard = none) (s x : Operand) (t e : TypeId) (i : TypeInfo) (z : Value) (size bytes : Nat)
    (ht : Tryd.prog.underlying t = some (.slice e)) (hi : Tryd.prog.info? e = some i) (hz : i.zero = some z) (hsize : i.size = size) (hby : i.bytes = bytes) (hzs : z.cells.size = size) (hsz : 0 < size)
    (hno : ∀ (ty : TypeId) (pa : Option Addr) (n c : Nat), n ≤ c → (Builtin.append_ #[t, t] ty #[.slice pa n c, .slice none 0 0]).run Tryd.prog w = .ok (.slice pa n c) w)
    (ho : o.op = .call { callee := .builtin .append, args := #[s, x], argTypes := #[t, t] })
    (base : Nat) (pa : Option Addr) (n cp : Nat) (xs : List Value) (hs : a.eval s = .slice pa n cp) (hown : w.ownsRow base e size (.slice pa n cp) n xs)
    (p : Option Addr) (m c : Nat) (news : List Value) (hx : a.eval x = .slice p m c) (hl : news.length = m * size)
    (hsrc : (p = none ∧ m = 0 ∧ c = 0) ∨ ∃ ad, p = some ad ∧ ∀ j u, news[j]? = some u → w.cell? (ad.add j) = some u) (h1 : ∀ u ∈ news, u.oneCell' = true)
    (hb : n + m ≤ 10000000) (hbt : bytes ≤ 64) (hbase : base ≤ w.heap.size)
    (h : ∀ pa' cp' w', w'.ownsRow base e size (.slice pa' (n + m) cp') (n + m) (xs ++ news) → w.grownBy w' (Value.slice pa n cp).ownBlock → wpList Tryd.prog ops Q rest (a.put o.dst (.slice pa' (n + m) cp')) w') : wpList Tryd.prog ops Q (o :: rest) a w := by
  have hnc : n ≤ cp := by
    rcases hown.2 with ⟨hv, h0⟩ | ⟨g, cap, cur, hv, _, _, h1, _⟩
    · cases hv; omega
    · cases hv; exact h1
  rcases hsrc with ⟨rfl, rfl, rfl⟩ | ⟨ad, rfl, hc⟩
  · have hn0 : news = [] := List.length_eq_zero_iff.1 (by omega)
    subst hn0
    refine wpList_plain hgd fun K hK => ?_
    unfold Oper.wp execOp
    simp only [ho, resolve, invoke, builtin, Sem.run_bind, Sem.run_pure, Result.andThen_ok, List.map_toArray, List.map_cons, List.map_nil, hs, hx, hno o.type pa n cp hnc]
    have := h pa cp w (by rw [List.append_nil]; exact hown) ⟨rfl, rfl, rfl, Nat.le_refl _, fun _ _ _ => rfl⟩
    exact hK _ _ this
  · have hbb : (n + m) * bytes ≤ 140737488355328 := by
      have : (n + m) * bytes ≤ 10000000 * 64 := Nat.mul_le_mul hb hbt
      omega
    refine wpList_append_own_at _ hgd s x t ho base e i z size bytes ht hi hz hsize hby hzs hsz _ n xs hs hown ad m c news hx hl hc h1 (by unfold maxLen; omega) hbb hbase ?_
    intro v' w' h1 h2 _ _
    obtain ⟨pa', cp', rfl⟩ := slice_of h1
    exact h pa' cp' w' h1 h2
theorem IL.src {base : Nat} {p : Option Addr} {n c : Nat} {l : List Int} {w : World} (h : IL base (.slice p n c) l w) : n = l.length ∧ ((p = none ∧ n = 0 ∧ c = 0) ∨ ∃ ad, p = some ad ∧ ∀ j u, (intV l)[j]? = some u → w.cell? (ad.add j) = some u) := by
  rcases h.2 with ⟨hv, h0⟩ | ⟨g, cap, cur, hv, _, _, h1, _⟩
  · cases hv; exact ⟨h0.symm, .inl ⟨rfl, rfl, rfl⟩⟩
  · cases hv
    exact ⟨rfl, .inr ⟨_, rfl, World.ownsRow.cells h rfl⟩⟩
theorem IL.below {base : Nat} {v : Value} {l : List Int} {w W : World} (h : IL base v l w) (hb : Below w.heap.size w W) : IL base v l W := row_keep h fun g _ hg => hb.block g hg
theorem row_low {w : World} {B base size n : Nat} {e : TypeId} {v : Value} {xs : List Value} (h : w.ownsRow B e size v n xs) (hb : base ≤ B) : w.ownsRow base e size v n xs := by
  rcases h with ⟨h1, h2 | ⟨g, cap, cur, hv, hB, r⟩⟩
  · exact ⟨h1, .inl h2⟩
  · exact ⟨h1, .inr ⟨g, cap, cur, hv, Nat.le_trans hb hB, r⟩⟩
theorem intV_one (l : List Int) : ∀ u ∈ intV l, u.oneCell' = true := fun u hu => by
  obtain ⟨y, _, rfl⟩ := List.mem_map.1 hu
  rfl
set_option maxRecDepth 20000 in
set_option maxHeartbeats 4000000 in
theorem radd_any {l : List Int} {n : Int} {v : Value} {base : Nat} {w : World} (h : IL base v l w) (hbase : base ≤ w.heap.size) (hl : l.length ≤ 1000000) :
    Calls Tryd.prog 52 #[v, .int .i64 n] w fun r w' => ∃ v', r = .returned v' ∧ IL base v' (addI l n) w' ∧ Below w.heap.size w w' := by
  obtain ⟨i0, hi, hz0, hz1, hz2⟩ := info_parts info3
  obtain ⟨p, c, rfl, hg⟩ := h.slice
  obtain ⟨_, hsrc⟩ := h.src
  have hR1 : Below w.heap.size w (w.alloc (.cells #[] 3)) := (Below.refl _ w).alloc (Nat.le_refl _) _
  have hZ : (w.alloc (.cells #[] 3)).heap.size = w.heap.size + 1 := by simp
  have row0 : (w.alloc (.cells #[] 3)).ownsRow w.heap.size 3 1 (.slice (some ⟨w.heap.size, 0, none⟩) 0 0) 0 [] := ⟨rfl, .inr ⟨w.heap.size, 0, #[], rfl, Nat.le_refl _, Hold.new w #[] 3, Nat.le_refl _, Nat.zero_le _, rfl, rfl⟩⟩
  have hsrc1 := (h.below hR1).src.2
  have HXA := hide (fun ops rest o' a Q hgd s x ho hs hx => @wpList_spread (w.alloc (.cells #[] 3)) ops rest o' a Q hgd s x 27 3 i0 _ 1 8 Tryd.underlying27 hi hz0 hz1 hz2 rfl (by omega) (none27 _) ho w.heap.size (some ⟨w.heap.size, 0, none⟩) 0 0 [] hs row0 p l.length c (intV l) hx (by rw [intV_len]; omega) hsrc1 (intV_one l) (by omega) (by omega) (by rw [hZ]; omega))
  have HFA : Hid (∀ W2 : World, (w.alloc (.cells #[] 3)).grownBy W2 (Value.slice (some ⟨w.heap.size, 0, none⟩) 0 0).ownBlock → Below w.heap.size w W2) := by
    intro W2 hg
    refine hR1.trans ⟨hg.os, hg.tape, hg.output, hg.size, fun b hb => hg.block b (by simp; omega) (fun e => ?_)⟩
    have : b = w.heap.size := by simpa [Value.ownBlock] using e
    omega
  have HXB := hide (fun (W2 : World) (pa : Option Addr) (cp : Nat) (hown : W2.ownsRow w.heap.size 3 1 (.slice pa l.length cp) l.length (intV l)) (hB : Below w.heap.size w W2) ops rest o' a Q hgd s x ho hs hx => @wpList_spread (W2.alloc (.cells #[.int .i64 n] 3)) ops rest o' a Q hgd s x 27 3 i0 _ 1 8 Tryd.underlying27 hi hz0 hz1 hz2 rfl (by omega) (none27 _) ho w.heap.size pa l.length cp (intV l) hs (hown.alloc _) (some ⟨W2.heap.size, 0, none⟩) 1 1 [.int .i64 n] hx rfl (.inr ⟨_, rfl, World.news_of_block (cs := #[.int .i64 n]) (t := 3) (fr := (0, 0)) (heap_alloc_new W2 _)⟩) (by simp [Value.oneCell']) (by omega) (by omega) (by have := hB.size; simp; omega))
  have hlm : l.length ≤ 9223372036854775807 := by omega
  have HZ := hide hZ; have HROW := hide row0
  have HLL := hide hl
  clear row0 hZ hsrc1 hR1
  generalize hnk : l.length = nk at *
  generalize hbb : addI l n = al
  have HNK := hide hnk; have HIL := hide h; have HG := hide hg; have HBB := hide hbb; have HSRC := hide hsrc
  clear hnk h hg hbb hsrc
  go_enter Tryd.func52, Tryd.ntmps52
  go_wp2_with fail
  go_loopg [5] nk (fun k s5 wr => ∃ i : Nat, i ≤ nk ∧ k = nk - i ∧ s5 = .int .i64 i ∧ n ∉ l.take i ∧ wr = w)
  case atStart => exact ⟨0, Nat.zero_le _, by omega, rfl, by simp, rfl⟩
  case round =>
    obtain ⟨i, hi1, rfl, rfl, hno, rfl⟩ := hrel
    have HNO := hide hno
    clear hno
    by_cases hlt : i < nk
    · have hil : i < l.length := by rw [HNK.out]; exact hlt
      obtain ⟨g, rfl, hgb, hgl⟩ := HG.out (by omega)
      have hu := List.getElem?_eq_getElem hil
      have htk : l.take (i + 1) = l.take i ++ [l[i]] := List.take_succ_eq_append_getElem hil
      have hmem := List.getElem_mem hil
      generalize l[i] = x at *
      have ca : wr.cell? ⟨g, i, none⟩ = some (.int .i64 x) := row_cell (by have h := HIL.out; unfold IL at h; rw [HNK.out] at h; exact h) (intV_at hu)
      have hii : (i : Int) < nk := by omega
      have HTK := hide htk; have HME := hide hmem
      clear hu htk hmem
      by_cases hx : x = n
      · have hxb : (x == n) = true := by simp [hx]
        have hd : al = l := by
          rw [← HBB.out, ← hx]
          unfold addI
          rw [if_pos HME.out]
        subst hd
        have HX := hide hx
        clear hx HXA HXB HFA
        go_wp2_with fail
        go_ret
        exact ⟨_, rfl, HIL.out, Below.refl _ _⟩
      · have hxb : (x == n) = false := by simp [hx]
        have hn2 : n ∉ l.take (i + 1) := by
          rw [HTK.out]
          intro h
          rcases List.mem_append.1 h with h | h
          · exact HNO.out h
          · exact hx (List.mem_singleton.1 h).symm
        have HN2 := hide hn2
        have HX := hide hx
        clear hx hn2 HXA HXB HFA
        go_wp2_with fail
        go_roundg (nk - (i + 1))
        case measure => omega
        case rel => exact ⟨i + 1, by omega, rfl, by go_num, HN2.out, rfl⟩
    · have hii : ¬ (i : Int) < nk := by omega
      have hd : Hid (al = l ++ [n]) := by
        have h1 : l.take i = l := List.take_of_length_le (by rw [HNK.out]; omega)
        have h2 := HNO.out
        rw [h1] at h2
        rw [← HBB.out]
        unfold addI
        rw [if_neg h2]
        exact hide rfl
      clear HNO
      go_wp2_with (first
        | (at_builtin; have HY := HXA.out; refine HY _ _ _ _ _ rfl _ _ rfl rfl rfl ?_; clear HY HXA; intro pa cp W2 hown hgrow; rw [Nat.zero_add, List.nil_append] at hown; have hB2 := HFA.out W2 hgrow; clear HFA hgrow)
        | (at_builtin; have HY := HXB.out W2 pa cp hown hB2; refine HY _ _ _ _ _ rfl _ _ rfl rfl rfl ?_; clear HY HXB; intro pa3 cp3 W3 hown3 hgrow3))
      go_ret
      refine ⟨_, rfl, ?_, ?_⟩
      · unfold IL
        have e1 : al.length = nk + 1 := by rw [hd.out]; simp; exact HNK.out
        have e2 : intV al = intV l ++ [.int .i64 n] := by rw [hd.out]; simp [intV]
        rw [e1, e2]
        exact row_low hown3 hbase
      · have h4 := below_row (hown.alloc (.cells #[.int .i64 n] 3)) (by have := hB2.size; simp; omega) hgrow3
        exact (hB2.trans (((Below.refl _ W2).alloc (Nat.le_refl _) _).mono hB2.size)).trans h4
theorem hsA_len (l : List Int) (t : Ty) : (hsA l t).length ≤ l.length + tsz t := by
  have h1 := foldl_len (hls t) l
  have h2 := hls_len t
  unfold hsA
  omega
theorem hsAs_len (r : List Ty) : ∀ l : List Int, (r.foldl hsA l).length ≤ l.length + (r.map tsz).sum := by
  induction r with
  | nil => intro l; simp
  | cons a r ih =>
    intro l
    rw [List.foldl_cons, List.map_cons, List.sum_cons]
    have h1 := ih (hsA l a)
    have h2 := hsA_len l a
    omega
set_option maxRecDepth 100000 in
set_option maxHeartbeats 4000000 in
theorem rholes_any (e : Ty) : ∀ {P : Nat → Prop} {w : World} {pk : Option Addr} {ck : Nat} {l : List Int} {v : Value} {base : Nat}, (∀ b, P b → b < w.heap.size) → TyIn P w e [.string (S e.nm), .int .i64 e.n, .slice pk e.ar.length ck] → IL base v l w → base ≤ w.heap.size → l.length + tsz e ≤ 1000000 →
    Calls Tryd.prog 33 #[v, .agg (cs3 e pk ck)] w fun r w' => ∃ v', r = .returned v' ∧ IL base v' (hsA l e) w' ∧ Below w.heap.size w w' := by
  induction e using Ty.ind with
  | _ e ih =>
    intro P w pk ck l v base hP hE hL hbase hsz
    have hkl := hE.len
    have hI := fun W => rhole_any e W pk ck
    have HI := hide hI
    have HIH := hide ih
    have HE := hide hE
    have hB0 : Below w.heap.size w (w.alloc (.cells (cs3 e pk ck) 24)) := (Below.refl _ w).alloc (Nat.le_refl _) _
    have hW : Hold w.heap.size (cs3 e pk ck) 24 (w.alloc (.cells (cs3 e pk ck) 24)) := Hold.new w _ 24
    have HW0 := hide hW
    have HB0 := hide hB0
    have HIL := hide hL
    have HTS := hide (tsz_eq e)
    clear ih hE hB0 hW hI hL
    unfold cs3 at *
    cases hh : e.nm.isEmpty
    · rw [hh] at HI
      have HR := hide (hsA_node l e hh)
      generalize hsA l e = al at *
      generalize hnk : e.ar.length = nk at *
      have HNK := hide hnk
      clear hnk hh
      go_enter Tryd.func33, Tryd.ntmps33
      go_wp2_with fail
      refine (HI.out _).mono ?_
      rintro r w1 ⟨rfl, hb⟩
      have HW1 := hide (HW0.out.below hb HW0.out.lt)
      have HB1 := hide (HB0.out.trans (hb.mono HB0.out.size))
      clear hb
      go_wp2_with fail
      go_loopg [0, 5] nk (fun k s0 s5 wr => ∃ i : Nat, i ≤ nk ∧ k = nk - i ∧ s5 = .int .i64 i ∧ IL base s0 ((e.ar.take i).foldl hsA l) wr ∧ Below w1.heap.size w1 wr)
      case atStart => exact ⟨0, Nat.zero_le _, by omega, rfl, HIL.out.below (HB1.out), Below.refl _ _⟩
      case round =>
        obtain ⟨i, hi1, rfl, rfl, hil, hbr⟩ := hrel
        have hb5 := (HW1.out.below hbr HW1.out.lt)
        have c2 := hb5.cell 2
        simp only [List.getElem?_toArray, List.getElem?_cons_succ, List.getElem?_cons_zero] at c2
        have HBR := hide hbr
        have HILR := hide hil
        have hbw : Below w.heap.size w wr := HB1.out.trans (hbr.mono HB1.out.size)
        by_cases hlt : i < nk
        · have hil2 : i < e.ar.length := by rw [HNK.out]; exact hlt
          have htk : (e.ar.take (i + 1)).foldl hsA l = hsA ((e.ar.take i).foldl hsA l) e.ar[i] := by rw [List.take_succ_eq_append_getElem hil2, List.foldl_append]; rfl
          have hle : ((e.ar.take i).foldl hsA l).length + tsz e.ar[i] ≤ 1000000 := by
            have h1 := hsAs_len (e.ar.take i) l
            have h2 := sum_take tsz hil2
            have h3 := sum_take_le tsz e.ar (i + 1)
            have h4 := HTS.out
            omega
          obtain ⟨b, o, qk, dk, hpk, hPb, hIn, a0, a1, a2⟩ := kid_at (e := e) (ck := ck) (pk := pk) (by rw [HNK.out]; exact HE.out) hil2
          have hcall := HIH.out e.ar[i] (by simp) (w := wr) (fun b hb => Nat.lt_of_lt_of_le (hP b hb) hbw.size) (TyIn.keep (KP.of_below hbw hP) (fun b hb => hb) _ _ hIn) hil (Nat.le_trans hbase hbw.size) hle
          have hcc : ∀ x, wr.cell? ⟨b, x, none⟩ = w.cell? ⟨b, x, none⟩ := fun x => hbw.cell (p := ⟨b, x, none⟩) (hP b hPb)
          rw [← hcc] at a0 a1 a2
          subst hpk
          generalize e.ar[i] = k at *
          have HC := hide hcall
          have HTK := hide htk
          have hii : (i : Int) < nk := by omega
          clear hcall hcc hbr hbw hIn hb5 hil htk hle hsz
          go_wp2_with fail
          refine HC.out.mono ?_
          rintro r w2 ⟨v2, rfl, hv2, hb1⟩
          have HB2 := hide hb1
          have HV2 := hide hv2
          clear hb1 hv2
          go_wp2_with fail
          go_roundg (nk - (i + 1))
          case measure => omega
          case rel =>
            refine ⟨i + 1, by omega, rfl, by go_num, ?_, HBR.out.trans (HB2.out.mono HBR.out.size)⟩
            rw [HTK.out]
            exact HV2.out
        · have h1 : e.ar.take i = e.ar := List.take_of_length_le (by rw [HNK.out]; omega)
          rw [h1] at hil HILR
          have hii : ¬ (i : Int) < nk := by omega
          have HBW := hide hbw
          clear hbr hbw hb5 h1 hil hsz
          go_wp2_with fail
          go_ret
          exact ⟨_, rfl, by rw [HR.out]; exact HILR.out, HBW.out⟩
    · rw [hh] at HI
      have HR := hide (hsA_at l e hh)
      generalize hsA l e = al at *
      have hcall := fun (W : World) (hb : Below w.heap.size w W) => radd_any (n := e.n) (HIL.out.below hb) (Nat.le_trans hbase hb.size) (by omega)
      have HC := hide hcall
      clear hcall hh hsz
      generalize hnk : e.ar.length = nk at *
      clear hnk
      go_enter Tryd.func33, Tryd.ntmps33
      go_wp2_with fail
      refine (HI.out _).mono ?_
      rintro r w1 ⟨rfl, hb⟩
      have HW1 := hide (HW0.out.below hb HW0.out.lt)
      have HB1 := hide (HB0.out.trans (hb.mono HB0.out.size))
      have k1 := HW1.out.cell 1
      simp only [List.getElem?_toArray, List.getElem?_cons_succ, List.getElem?_cons_zero] at k1
      clear hb
      go_wp2_with fail
      refine (HC.out w1 HB1.out).mono ?_
      rintro r w2 ⟨v2, rfl, hv2, hb⟩
      have HB2 := hide (HB1.out.trans (hb.mono HB1.out.size))
      have HV2 := hide hv2
      clear hb hv2
      go_wp2_with fail
      go_ret
      exact ⟨_, rfl, by rw [HR.out]; exact HV2.out, HB2.out⟩
set_option maxRecDepth 100000 in
set_option maxHeartbeats 4000000 in
theorem rHoles_any (e : Ty) {P : Nat → Prop} {w : World} {pk : Option Addr} {ck : Nat} (hP : ∀ b, P b → b < w.heap.size) (hE : TyIn P w e [.string (S e.nm), .int .i64 e.n, .slice pk e.ar.length ck]) :
    Calls Tryd.prog 14 #[.agg (cs3 e pk ck)] w fun r w' => ∃ v, r = .returned v ∧ IL w.heap.size v (if chk e then hs e else []) w' ∧ Below w.heap.size w w' := by
  have hB0 : Below w.heap.size w (w.alloc (.cells (cs3 e pk ck) 24)) := (Below.refl _ w).alloc (Nat.le_refl _) _
  have hW : Hold w.heap.size (cs3 e pk ck) 24 (w.alloc (.cells (cs3 e pk ck) 24)) := Hold.new w _ 24
  have HW0 := hide hW
  have HB0 := hide hB0
  have HCK := hide (fun W (hb : Below w.heap.size w W) => rcheck_any e (P := P) (w := W) (pk := pk) (ck := ck) (fun b h => Nat.lt_of_lt_of_le (hP b h) hb.size) (TyIn.keep (KP.of_below hb hP) (fun b h => h) _ _ hE))
  have HHS := hide (fun (hs : tsz e ≤ 2000) W (hb : Below w.heap.size w W) => rholes_any e (P := P) (w := W) (pk := pk) (ck := ck) (l := []) (v := .slice none 0 0) (base := w.heap.size) (fun b h => Nat.lt_of_lt_of_le (hP b h) hb.size) (TyIn.keep (KP.of_below hb hP) (fun b h => h) _ _ hE) (World.ownsRow_nil _ _ _ _) hb.size (by simp; omega))
  clear hE hB0 hW
  unfold cs3 at *
  cases hc : chk e with
  | true =>
    rw [hc] at HCK
    have hs2 := ((chk_iff e).1 hc).2.2
    go_enter Tryd.func14, Tryd.ntmps14
    go_wp2_with fail
    refine (HCK.out _ HB0.out).mono ?_
    rintro r w1 ⟨rfl, hb⟩
    have HW1 := hide (HW0.out.below hb HW0.out.lt)
    have HB1 := hide (HB0.out.trans (hb.mono HB0.out.size))
    clear hb
    have k0 := HW1.out.cell 0
    have k1 := HW1.out.cell 1
    have k2 := HW1.out.cell 2
    simp only [List.getElem?_toArray, List.getElem?_cons_succ, List.getElem?_cons_zero] at k0 k1 k2
    go_wp2_with fail
    refine (HHS.out hs2 _ HB1.out).mono ?_
    rintro r w2 ⟨v2, rfl, hv2, hb⟩
    have HB2 := hide (HB1.out.trans (hb.mono HB1.out.size))
    have HV2 := hide hv2
    clear hb hv2
    go_wp2_with fail
    go_ret
    exact ⟨_, rfl, HV2.out, HB2.out⟩
  | false =>
    rw [hc] at HCK
    go_enter Tryd.func14, Tryd.ntmps14
    go_wp2_with fail
    refine (HCK.out _ HB0.out).mono ?_
    rintro r w1 ⟨rfl, hb⟩
    have HB1 := hide (HB0.out.trans (hb.mono HB0.out.size))
    clear hb
    go_wp2_with fail
    go_ret
    exact ⟨_, rfl, World.ownsRow_nil _ _ _ _, HB1.out⟩
end Go.Proofs.YteoflpalmckikaaDoor
