/-
  dawdlerref02's token.
-/
import Derived.Test.YtnajffpllhckkaaDoorRef2
namespace Go.Proofs.YtnajffpllhckkaaDoor
open Go.RowKit
set_option linter.unusedVariables false

theorem tw_lt (p : UInt8 → Bool) : ∀ (l : List UInt8) (k : Nat), k < (l.takeWhile p).length → ∃ h : k < l.length, p l[k] = true
  | [], k, h => by simp at h
  | a :: r, k, h => by
    rw [List.takeWhile_cons] at h
    by_cases ha : p a = true
    · rw [if_pos ha] at h
      cases k with
      | zero => exact ⟨by simp, ha⟩
      | succ k =>
        obtain ⟨h1, h2⟩ := tw_lt p r k (by simpa using h)
        exact ⟨by simpa using h1, h2⟩
    · rw [if_neg ha] at h; simp at h
theorem tw_end (p : UInt8 → Bool) : ∀ (l : List UInt8) (h : (l.takeWhile p).length < l.length), p (l[(l.takeWhile p).length]'h) = false
  | [], h => by simp at h
  | a :: r, h => by
    by_cases ha : p a = true
    · have e : ((a :: r).takeWhile p).length = (r.takeWhile p).length + 1 := by rw [List.takeWhile_cons, if_pos ha]; rfl
      have h2 : (r.takeWhile p).length < r.length := by rw [e] at h; simpa using h
      have := tw_end p r h2
      simp only [e, List.getElem_cons_succ]
      exact this
    · have e : ((a :: r).takeWhile p).length = 0 := by rw [List.takeWhile_cons, if_neg ha]; rfl
      simp only [e, List.getElem_cons_zero]
      simpa using ha
theorem S_cut (l : List UInt8) (k : Nat) : (S l).extract 0 k = S (l.take k) := by
  apply ByteArray.ext
  simp [S]
set_option maxRecDepth 20000 in
set_option maxHeartbeats 2000000 in
theorem rtoken_dig (c : UInt8) (r : List UInt8) (w : World) (hl : (c :: r).length ≤ 2147483647) (hd : dg c = true) :
    Calls Tryd.prog 26 #[.string (S (c :: r))] w fun e w' => ((∃ x, tk ((c :: r).take (tl (c :: r))) = some x ∧ e = .returned (.tuple #[tv ((c :: r).take (tl (c :: r))) x, .bool true])) ∨ (tk ((c :: r).take (tl (c :: r))) = none ∧ ∃ u x, e = .returned (.tuple #[tv u x, .bool false]))) ∧ Below w.heap.size w w' := by
  have etl : tl (c :: r) = ((c :: r).takeWhile dg).length := by
    rw [List.takeWhile_cons, if_pos hd]; simp only [tl, hd, if_true, List.length_cons]; omega
  have hN := tw_le (p := dg) (c :: r)
  have hall := tw_all dg (c :: r)
  have hN1 : 1 ≤ ((c :: r).takeWhile dg).length := by rw [List.takeWhile_cons, if_pos hd]; simp
  have HLT := hide (tw_lt dg (c :: r))
  have HEND := hide (tw_end dg (c :: r))
  have htk : tk ((c :: r).take (tl (c :: r))) = if nv ((c :: r).take (tl (c :: r))) ≤ big then some (1, (nv ((c :: r).take (tl (c :: r))) : Int)) else none := by
    have : dg (((c :: r).take (tl (c :: r))).headD 0) = true := by
      rw [etl]
      obtain ⟨n, hn⟩ : ∃ n, ((c :: r).takeWhile dg).length = n + 1 := ⟨_, (Nat.sub_add_cancel hN1).symm⟩
      rw [hn, List.take_succ_cons]; exact hd
    unfold tk; rw [if_pos this]
  rw [etl] at htk ⊢
  have hz := S_size (c :: r)
  have HG0 : ∀ h, (S (c :: r))[0]'h = c := fun h => rfl
  have hG : ∀ k (h : k < (S (c :: r)).size) (h' : k < (c :: r).length), (S (c :: r))[k]'h = (c :: r)[k] := fun k h h' => S_get (c :: r) k h h'
  have HG := hide hG
  clear hG
  have HCUT := hide (S_cut (c :: r) ((c :: r).takeWhile dg).length)
  have htl : ((c :: r).take ((c :: r).takeWhile dg).length).length ≤ 2147483647 := by rw [List.length_take]; omega
  have HNUM := hide (fun w => rnumber_any ((c :: r).take ((c :: r).takeWhile dg).length) w htl hall)
  have HTK := hide htk
  have HG0' := hide HG0
  clear htk hall htl HG0 etl
  generalize ((c :: r).takeWhile dg).length = N at *
  generalize hll : (c :: r) = l at *
  have hz0 : 0 < (S l).size := by rw [hz, ← hll]; simp
  generalize l.take N = tok at *
  generalize S l = s at *
  go_enter Tryd.func26, Tryd.ntmps26
  go_wp2_with fail
  rw [HG0'.out]
  refine (rdigit_any _ _).mono ?_; rintro e w' ⟨rfl, rfl⟩; rw [hd]
  go_wp2_with fail
  have B0 : Below w.heap.size w (w.alloc (.cells #[.int .i64 0, .string ⟨#[]⟩, .int .i64 0, .int .i64 0, .int .i64 0] 33)) := (Below.refl _ w).alloc (Nat.le_refl _) _
  go_loop [4] (fun i => ∃ k : Nat, k ≤ N ∧ i = .int .i64 k) (fun i => N - (intOf i).toNat)
  case atStart => exact ⟨0, Nat.zero_le _, rfl⟩
  case round =>
    obtain ⟨k, hk, rfl⟩ := hrel
    by_cases hlt : k < N
    · obtain ⟨h1, h2⟩ := HLT.out k hlt
      have hks : k < s.size := by omega
      have hgk := HG.out k hks h1
      generalize l[k] = x at *
      go_wp2_with fail
      refine (rdigit_any _ _).mono ?_; rintro e w' ⟨rfl, rfl⟩; rw [h2]
      go_wp2_with fail
      go_round
      case rel => exact ⟨k + 1, by omega, by go_num⟩
      case measure => simp [intOf]; omega
    · obtain rfl : k = N := by omega
      by_cases hend : k < l.length
      · have h2 := HEND.out hend
        have hks : k < s.size := by omega
        have hgk := HG.out k hks hend
        generalize l[k] = x at *
        go_wp2_with fail
        refine (rdigit_any _ _).mono ?_; rintro e w' ⟨rfl, rfl⟩; rw [h2]
        go_wp2_with fail
        have hcut := HCUT.out
        rw [hcut]
        refine (HNUM.out _).mono ?_; rintro e w' ⟨rfl, rfl⟩
        have htk := HTK.out
        clear HLT HEND HG HG0' HNUM HTK HCUT B0
        generalize hst : S tok = st at *
        have HST : Hid (st = S tok) := hst.symm
        clear hst
        by_cases hb : nv tok ≤ big
        · rw [if_pos hb] at htk ⊢
          have HTK := hide htk
          clear htk hb
          generalize (nv tok : Int) = nn at *
          go_wp2_with fail
          refine bodyPost_ret (v := .tuple #[.agg #[.int .i64 1, .string st, .int .i64 nn, .int .i64 0, .int .i64 0], .bool true]) (by simp [results, Tryd.results26, go_sem]) rfl ⟨.inl ⟨_, HTK.out, by unfold tv; rw [HST.out]⟩, ?_⟩
          exact (Below.refl _ w).alloc (Nat.le_refl _) _
        · rw [if_neg hb] at htk ⊢
          have HTK := hide htk
          clear htk hb
          go_wp2_with fail
          refine bodyPost_ret (v := .tuple #[.agg #[.int .i64 1, .string st, .int .i64 0, .int .i64 0, .int .i64 0], .bool false]) (by simp [results, Tryd.results26, go_sem]) rfl ⟨.inr ⟨HTK.out, tok, (1, 0), by unfold tv; rw [HST.out]⟩, ?_⟩
          exact (Below.refl _ w).alloc (Nat.le_refl _) _
      · go_wp2_with fail
        have hcut := HCUT.out
        rw [hcut]
        refine (HNUM.out _).mono ?_; rintro e w' ⟨rfl, rfl⟩
        have htk := HTK.out
        clear HLT HEND HG HG0' HNUM HTK HCUT B0
        generalize hst : S tok = st at *
        have HST : Hid (st = S tok) := hst.symm
        clear hst
        by_cases hb : nv tok ≤ big
        · rw [if_pos hb] at htk ⊢
          have HTK := hide htk
          clear htk hb
          generalize (nv tok : Int) = nn at *
          go_wp2_with fail
          refine bodyPost_ret (v := .tuple #[.agg #[.int .i64 1, .string st, .int .i64 nn, .int .i64 0, .int .i64 0], .bool true]) (by simp [results, Tryd.results26, go_sem]) rfl ⟨.inl ⟨_, HTK.out, by unfold tv; rw [HST.out]⟩, ?_⟩
          exact (Below.refl _ w).alloc (Nat.le_refl _) _
        · rw [if_neg hb] at htk ⊢
          have HTK := hide htk
          clear htk hb
          go_wp2_with fail
          refine bodyPost_ret (v := .tuple #[.agg #[.int .i64 1, .string st, .int .i64 0, .int .i64 0, .int .i64 0], .bool false]) (by simp [results, Tryd.results26, go_sem]) rfl ⟨.inr ⟨HTK.out, tok, (1, 0), by unfold tv; rw [HST.out]⟩, ?_⟩
          exact (Below.refl _ w).alloc (Nat.le_refl _) _
set_option maxRecDepth 20000 in
set_option maxHeartbeats 2000000 in
theorem rtoken_word (c : UInt8) (r : List UInt8) (w : World) (hl : (c :: r).length ≤ 2147483647) (hd : dg c = false) (hp : pt c = true) :
    Calls Tryd.prog 26 #[.string (S (c :: r))] w fun e w' => ((∃ x, tk ((c :: r).take (tl (c :: r))) = some x ∧ e = .returned (.tuple #[tv ((c :: r).take (tl (c :: r))) x, .bool true])) ∨ (tk ((c :: r).take (tl (c :: r))) = none ∧ ∃ u x, e = .returned (.tuple #[tv u x, .bool false]))) ∧ Below w.heap.size w w' := by
  have etl : tl (c :: r) = ((c :: r).takeWhile pt).length := by
    rw [List.takeWhile_cons, if_pos hp]; simp only [tl, hd, hp, if_true, List.length_cons]; simp; omega
  have hN := tw_le (p := pt) (c :: r)
  have hall := tw_all pt (c :: r)
  have hN1 : 1 ≤ ((c :: r).takeWhile pt).length := by rw [List.takeWhile_cons, if_pos hp]; simp
  have HLT := hide (tw_lt pt (c :: r))
  have HEND := hide (tw_end pt (c :: r))
  have htk : tk ((c :: r).take (tl (c :: r))) = if kw ((c :: r).take (tl (c :: r))) then some (4, 0) else if nm ((c :: r).take (tl (c :: r))) then some (2, 0) else if cn ((c :: r).take (tl (c :: r))) then some (3, 0) else none := by
    rw [etl]
    obtain ⟨n, hn⟩ : ∃ n, ((c :: r).takeWhile pt).length = n + 1 := ⟨_, (Nat.sub_add_cancel hN1).symm⟩
    rw [hn, List.take_succ_cons]
    have hlet : (97 ≤ c.toNat ∧ c.toNat ≤ 122) ∨ (65 ≤ c.toNat ∧ c.toNat ≤ 90) := by
      unfold pt at hp
      rw [hd, Bool.or_false] at hp
      rcases Bool.or_eq_true _ _ ▸ hp with h | h
      · exact .inl ((sm_iff c).1 h)
      · exact .inr ((gr_iff c).1 h)
    unfold tk ky
    rw [List.headD_cons, hd, sg_off hlet, Bool.or_false]
    simp
  rw [etl] at htk ⊢
  have hz := S_size (c :: r)
  have HG0 : ∀ h, (S (c :: r))[0]'h = c := fun h => rfl
  have hG : ∀ k (h : k < (S (c :: r)).size) (h' : k < (c :: r).length), (S (c :: r))[k]'h = (c :: r)[k] := fun k h h' => S_get (c :: r) k h h'
  have HG := hide hG
  clear hG
  have HCUT := hide (S_cut (c :: r) ((c :: r).takeWhile pt).length)
  have htl : ((c :: r).take ((c :: r).takeWhile pt).length).length ≤ 2147483647 := by rw [List.length_take]; omega
  have HNUM := hide (fun w => rword_any ((c :: r).take ((c :: r).takeWhile pt).length) w htl)
  have HTK := hide htk
  have HG0' := hide HG0
  clear htk hall htl HG0 etl
  generalize ((c :: r).takeWhile pt).length = N at *
  generalize hll : (c :: r) = l at *
  have hz0 : 0 < (S l).size := by rw [hz, ← hll]; simp
  generalize l.take N = tok at *
  generalize S l = s at *
  go_enter Tryd.func26, Tryd.ntmps26
  go_wp2_with fail
  rw [HG0'.out]
  refine (rdigit_any _ _).mono ?_; rintro e w' ⟨rfl, rfl⟩; rw [hd]
  go_wp2_with fail
  rw [HG0'.out]
  refine (rpart_any _ _).mono ?_; rintro e w' ⟨rfl, rfl⟩; rw [hp]
  go_wp2_with fail
  have B0 : Below w.heap.size w (w.alloc (.cells #[.int .i64 0, .string ⟨#[]⟩, .int .i64 0, .int .i64 0, .int .i64 0] 33)) := (Below.refl _ w).alloc (Nat.le_refl _) _
  go_loop [4] (fun i => ∃ k : Nat, k ≤ N ∧ i = .int .i64 k) (fun i => N - (intOf i).toNat)
  case atStart => exact ⟨0, Nat.zero_le _, rfl⟩
  case round =>
    obtain ⟨k, hk, rfl⟩ := hrel
    by_cases hlt : k < N
    · obtain ⟨h1, h2⟩ := HLT.out k hlt
      have hks : k < s.size := by omega
      have hgk := HG.out k hks h1
      generalize l[k] = x at *
      go_wp2_with fail
      refine (rpart_any _ _).mono ?_; rintro e w' ⟨rfl, rfl⟩; rw [h2]
      go_wp2_with fail
      go_round
      case rel => exact ⟨k + 1, by omega, by go_num⟩
      case measure => simp [intOf]; omega
    · obtain rfl : k = N := by omega
      by_cases hend : k < l.length
      · have h2 := HEND.out hend
        have hks : k < s.size := by omega
        have hgk := HG.out k hks hend
        generalize l[k] = x at *
        go_wp2_with fail
        refine (rpart_any _ _).mono ?_; rintro e w' ⟨rfl, rfl⟩; rw [h2]
        go_wp2_with fail
        have hcut := HCUT.out
        rw [hcut]
        refine (HNUM.out _).mono ?_; rintro e w2 ⟨rfl, b1⟩
        have htk := HTK.out
        simp only [World.size_alloc] at b1
        obtain ⟨hc, hf⟩ := bcell b1
        have hz2 : w.heap.size < w2.heap.size := by have := b1.size; simp at this; omega
        have HB : Hid (Below w.heap.size w w2) := ((Below.refl _ w).alloc (Nat.le_refl _) _).trans (b1.mono (by omega))
        clear HLT HEND HG HG0' HNUM HTK HCUT B0 b1
        have HE : Hid ((kw tok || nm tok || cn tok) = true ∧ tk tok = some (if kw tok then 4 else if nm tok then 2 else 3, 0) ∨ (kw tok || nm tok || cn tok) = false ∧ tk tok = none) := by
          show _ ∨ _
          rw [htk]
          cases kw tok <;> cases nm tok <;> cases cn tok <;> simp
        clear htk
        unfold tv
        generalize (if kw tok then (4 : Int) else if nm tok then 2 else 3) = K at *
        generalize (kw tok || nm tok || cn tok) = O at *
        generalize hst : S tok = st at *
        go_wp2_with fail
        refine bodyPost_ret (v := .tuple #[.agg #[.int .i64 K, .string st, .int .i64 0, .int .i64 0, .int .i64 0], .bool O]) (by
          have k0 : w2.cell? ⟨w.heap.size, 0, none⟩ = some (.int .i64 0) := by rw [hc _ _ (by omega)]; simp
          have k1 : w2.cell? ⟨w.heap.size, 1, none⟩ = some (.string ⟨#[]⟩) := by rw [hc _ _ (by omega)]; simp
          have k2 : w2.cell? ⟨w.heap.size, 2, none⟩ = some (.int .i64 0) := by rw [hc _ _ (by omega)]; simp
          have k3 : w2.cell? ⟨w.heap.size, 3, none⟩ = some (.int .i64 0) := by rw [hc _ _ (by omega)]; simp
          have k4 : w2.cell? ⟨w.heap.size, 4, none⟩ = some (.int .i64 0) := by rw [hc _ _ (by omega)]; simp
          clear hc hf
          simp only [results, Tryd.results26]; go_simp) rfl ⟨?_, ((((HB.out.setCell (by simp) _).setCell (by simp) _).setCell (by simp) _).setCell (by simp) _).setCell (by simp) _⟩
        rcases HE.out with ⟨h1, h2⟩ | ⟨h1, h2⟩
        · exact .inl ⟨(K, 0), h2, by rw [h1]; unfold tv; rw [hst]⟩
        · exact .inr ⟨h2, tok, (K, 0), by rw [h1]; unfold tv; rw [hst]⟩
      · go_wp2_with fail
        have hcut := HCUT.out
        rw [hcut]
        refine (HNUM.out _).mono ?_; rintro e w2 ⟨rfl, b1⟩
        have htk := HTK.out
        simp only [World.size_alloc] at b1
        obtain ⟨hc, hf⟩ := bcell b1
        have hz2 : w.heap.size < w2.heap.size := by have := b1.size; simp at this; omega
        have HB : Hid (Below w.heap.size w w2) := ((Below.refl _ w).alloc (Nat.le_refl _) _).trans (b1.mono (by omega))
        clear HLT HEND HG HG0' HNUM HTK HCUT B0 b1
        have HE : Hid ((kw tok || nm tok || cn tok) = true ∧ tk tok = some (if kw tok then 4 else if nm tok then 2 else 3, 0) ∨ (kw tok || nm tok || cn tok) = false ∧ tk tok = none) := by
          show _ ∨ _
          rw [htk]
          cases kw tok <;> cases nm tok <;> cases cn tok <;> simp
        clear htk
        unfold tv
        generalize (if kw tok then (4 : Int) else if nm tok then 2 else 3) = K at *
        generalize (kw tok || nm tok || cn tok) = O at *
        generalize hst : S tok = st at *
        go_wp2_with fail
        refine bodyPost_ret (v := .tuple #[.agg #[.int .i64 K, .string st, .int .i64 0, .int .i64 0, .int .i64 0], .bool O]) (by
          have k0 : w2.cell? ⟨w.heap.size, 0, none⟩ = some (.int .i64 0) := by rw [hc _ _ (by omega)]; simp
          have k1 : w2.cell? ⟨w.heap.size, 1, none⟩ = some (.string ⟨#[]⟩) := by rw [hc _ _ (by omega)]; simp
          have k2 : w2.cell? ⟨w.heap.size, 2, none⟩ = some (.int .i64 0) := by rw [hc _ _ (by omega)]; simp
          have k3 : w2.cell? ⟨w.heap.size, 3, none⟩ = some (.int .i64 0) := by rw [hc _ _ (by omega)]; simp
          have k4 : w2.cell? ⟨w.heap.size, 4, none⟩ = some (.int .i64 0) := by rw [hc _ _ (by omega)]; simp
          clear hc hf
          simp only [results, Tryd.results26]; go_simp) rfl ⟨?_, ((((HB.out.setCell (by simp) _).setCell (by simp) _).setCell (by simp) _).setCell (by simp) _).setCell (by simp) _⟩
        rcases HE.out with ⟨h1, h2⟩ | ⟨h1, h2⟩
        · exact .inl ⟨(K, 0), h2, by rw [h1]; unfold tv; rw [hst]⟩
        · exact .inr ⟨h2, tok, (K, 0), by rw [h1]; unfold tv; rw [hst]⟩
end Go.Proofs.YtnajffpllhckkaaDoor
