/-
  THE WALK OF expr, THE OTHER KINDS: numbers, names, constructors, case, do, dos.
-/
import Derived.Test.YtebcdjlhmoffjaaDoorExpr
import Derived.Lib.ItoaLen
namespace Go.Proofs.YtebcdjlhmoffjaaDoor
open Go.RowKit
set_option linter.unusedVariables false
set_option linter.unusedSimpArgs false
theorem below_grow (w : World) (k : Nat) (os : Array Obj) : Below w.heap.size w (Sort.grow (w.drewN k) os) := by
  refine ⟨rfl, rfl, rfl, by simp [Sort.grow, World.drewN], fun b hb => ?_⟩
  show (w.heap ++ os)[b]? = _
  rw [Array.getElem?_append_left hb]
theorem sum31 (ks : List Tr) : (ks.map fun k => tw k + 1).sum ≤ (ks.map fun k => tw k + 3).sum := by
  induction ks with
  | nil => simp
  | cons a r ih => simp only [List.map_cons, List.sum_cons]; omega
theorem itoa_any (n : Int) (h0 : -9223372036854775808 ≤ n) (h1 : n ≤ 9223372036854775807) {P : Nat → Prop} {w : World} (hg : GP P w) : Calls Tryd.prog 76 #[.int .i64 n] w fun e w' => e = .returned (.string (S (Lib.itoa n))) ∧ Below w.heap.size w w' := by
  refine (Tryd.strconv_Itoa n h0 h1 w hg.1).mono ?_
  rintro e w' ⟨rfl, k, os, rfl⟩
  exact ⟨rfl, below_grow w k os⟩
theorem itoa_len (n : Int) (h0 : -9223372036854775808 ≤ n) (h1 : n ≤ 9223372036854775807) : (Lib.itoa n).length ≤ 281474976710656 := by
  have := Lib.itoa_length_le n h0 h1; omega
theorem hnw11 : ([100, 111] : List UInt8).length ≤ 281474976710656 := by decide
theorem hnw12 : ([100, 111, 115] : List UInt8).length ≤ 281474976710656 := by decide
theorem row_ok (lv : Nat) (a b c : List UInt8) (ks : List Tr) (e : Tr) : ([pStr a, pStr b, pRow c (ks.map fun k => .inr (.inr (.inr (.inr (.inr (.inl k)))))), pStr [125]]).all (ptOK lv) = ptOK lv (pExpr e) := by
  simp [ptOK, pStr, pRow, pExpr, p0OK]
/-- Trees that were laid as a row's parts are put, with words around. -/
theorem row_put {n : Nat} (IH : PutOK n) {P : Nat → Prop} {t : Nat} {st : St} {lv : Nat} {w w1 : World} {ks : List Tr} {p' : Option Addr} {c' : Nat} {vs : List Value} (a z : List UInt8) (ha : a.length ≤ 281474976710656) (hn : ks.length ≤ 1000000) (hks : ∀ k ∈ ks, shp k = true) (hw : 4 + (ks.map fun k => tw k + 1).sum ≤ n) (hlv : lv ≤ 30)
    (hG : GP P w) (hT : TX P t st lv w) (hB : Below w.heap.size w w1) (ho : w1.ownsRow w.heap.size 20 1 (.slice p' ks.length c') ks.length vs) (hv : ∀ (i : Nat) k, ks[i]? = some k → ∃ ds : List Value, vs[i]? = some (Value.iface 25 (.agg ds.toArray)) ∧ TrIn P w1 k ds) :
    Calls Tryd.prog 35 #[.pointer (some ⟨t, 0, none⟩), .slice (some ⟨w1.heap.size, 0, none⟩) 4 4] (w1.alloc (.cells #[.iface 9 (.string (S a)), .iface 9 (.string (S [123])), .iface 92 (.agg #[.string (S [59]), .slice p' ks.length c']), .iface 9 (.string (S [125]))] 20)) fun e w' => e = .returned (.tuple #[]) ∧ TX P t (ptsA lv [pStr a, pStr [123], pRow [59] (ks.map fun k => .inr (.inr (.inr (.inr (.inr (.inl k)))))), pStr [125]] st) lv w' ∧ KP P w w' := by
  have k1 : KP P w w1 := KP.of_below hB hT.lt
  obtain ⟨hs, hA, hQ⟩ := own_AM (P := P) (R := P0V (fun b => P b ∨ p'.map Addr.block = some b) w1) (l := ks.map fun k => (.inr (.inr (.inr (.inr (.inr (.inl k))))) : P0)) ho (by simp) (by
    intro i x hx
    rw [List.getElem?_map, Option.map_eq_some_iff] at hx
    obtain ⟨k, hk, rfl⟩ := hx
    obtain ⟨ds, h1, h2⟩ := hv i k hk
    exact ⟨_, h1, ds, rfl, TrIn.keep (KP.refl P w1) (fun b hb => Or.inl hb) k ds h2, hks k (List.mem_of_getElem? hk)⟩)
  have hT2 := hT.more (Q := fun b => p'.map Addr.block = some b) hB hQ
  refine (put_new IH (P := fun b => P b ∨ p'.map Addr.block = some b) [pStr a, pStr [123], pRow [59] (ks.map fun k => .inr (.inr (.inr (.inr (.inr (.inl k)))))), pStr [125]] [.iface 9 (.string (S a)), .iface 9 (.string (S [123])), .iface 92 (.agg #[.string (S [59]), .slice p' ks.length c']), .iface 9 (.string (S [125]))] rfl
    (vs_cons ⟨rfl, ha⟩ (vs_cons ⟨rfl, by simp⟩ (vs_cons ⟨p', c', by simp, by simp, by simpa using (by omega : ks.length ≤ 2000000), by simpa using hs, hA⟩ (vs_cons ⟨rfl, by simp⟩ vs_nil)))) (by simp [ptsw, ptw, pStr, pRow, p0w, Function.comp_def]; omega) hlv (hG.keep k1 fun b hb => .inl hb) hT2 (Below.refl _ w1) w1.heap.size 4 rfl rfl (by omega)).mono ?_
  rintro e w' ⟨rfl, h1, h2⟩
  exact ⟨rfl, h1.weak fun b hb => .inl hb, k1.trans (h2.mono fun b hb => .inl hb)⟩
set_option maxRecDepth 100000 in
set_option maxHeartbeats 2000000 in
theorem expr2 {n : Nat} (IH : PutOK n) {P : Nat → Prop} {t : Nat} {st : St} {lv : Nat} {w : World} {nm : List UInt8} {nu : Int} {ns : List (List UInt8)} {ks : List Tr} {cs : List Value} (hw : tw ⟨2, nm, nu, ns, ks⟩ ≤ n + 1) (hlv : lv ≤ 30) (hG : GP P w) (hT : TX P t st lv w) (hE : TrIn P w ⟨2, nm, nu, ns, ks⟩ cs) (hs : shp ⟨2, nm, nu, ns, ks⟩ = true) :
    Calls Tryd.prog 57 #[.pointer (some ⟨t, 0, none⟩), .agg cs.toArray] w fun e' w' => e' = .returned (.tuple #[]) ∧ TX P t (ptA lv (pExpr ⟨2, nm, nu, ns, ks⟩) st) lv w' ∧ KP P w w' := by
  obtain ⟨pn, cn, pk, ck, rfl, hnm, hnu, hsn, hsk, hSM, hEM⟩ := (TrIn_iff _ _ _ _).1 hE
  rw [shp_eq] at hs
  simp at hs
  rw [tw_eq] at hw
  simp only at *
  obtain ⟨W, hW⟩ : ∃ W, W = w.alloc (.cells #[.int .i64 2, .string (S nm), .int .i64 nu, .slice pn ns.length cn, .slice pk ks.length ck] 25) := ⟨_, rfl⟩
  have hB : Below w.heap.size w W := by rw [hW]; exact (Below.refl _ w).alloc (Nat.le_refl _) _
  have hK : KP P w W := KP.of_below hB hT.lt
  have hT1 : TX P t st lv W := hT.below hB
  have hG1 : GP P W := hG.keep hK fun b hb => hb
  have hWs : W.heap.size = w.heap.size + 1 := by rw [hW]; simp
  have H1 := hide (put_new IH [pStr nm] [.iface 9 (.string (S nm))] rfl (vs_cons ⟨rfl, hnm⟩ vs_nil) (by simp [ptsw, ptw, pStr, p0w]; omega) hlv hG1 hT1 (Below.refl _ W) (w.heap.size + 1) 1 hWs rfl (by omega))
  have A1 : Hid (ptsA lv [pStr nm] st = ptA lv (pExpr ⟨2, nm, nu, ns, ks⟩) st) := ptsA_is rfl (by simp [ptW, pExpr, pStr, p0W, ws_eq ⟨2, nm, nu, ns, ks⟩, wsF]) st
  have HK := hide hK
  have HW := hide hW
  clear hE hEM hSM hT hG IH hB hsn hsk hT1 hG1 hK hnm hnu hw hW hs
  go_enter Tryd.func57, Tryd.ntmps57
  go_wp2_with fail
  rw [← HW.out]
  refine H1.out.mono ?_
  rintro e' w' ⟨rfl, hT', hK'⟩
  have HT' := hide hT'
  have HK' := hide hK'
  clear hT' hK'
  go_wp2_with fail
  go_end0
  exact ⟨rfl, by rw [← A1.out]; exact HT'.out, HK.out.trans HK'.out⟩
set_option maxRecDepth 100000 in
set_option maxHeartbeats 2000000 in
theorem expr3 {n : Nat} (IH : PutOK n) {P : Nat → Prop} {t : Nat} {st : St} {lv : Nat} {w : World} {nm : List UInt8} {nu : Int} {ns : List (List UInt8)} {ks : List Tr} {cs : List Value} (hw : tw ⟨3, nm, nu, ns, ks⟩ ≤ n + 1) (hlv : lv ≤ 30) (hG : GP P w) (hT : TX P t st lv w) (hE : TrIn P w ⟨3, nm, nu, ns, ks⟩ cs) (hs : shp ⟨3, nm, nu, ns, ks⟩ = true) :
    Calls Tryd.prog 57 #[.pointer (some ⟨t, 0, none⟩), .agg cs.toArray] w fun e' w' => e' = .returned (.tuple #[]) ∧ TX P t (ptA lv (pExpr ⟨3, nm, nu, ns, ks⟩) st) lv w' ∧ KP P w w' := by
  obtain ⟨pn, cn, pk, ck, rfl, hnm, hnu, hsn, hsk, hSM, hEM⟩ := (TrIn_iff _ _ _ _).1 hE
  rw [shp_eq] at hs
  simp at hs
  rw [tw_eq] at hw
  simp only at *
  obtain ⟨W, hW⟩ : ∃ W, W = w.alloc (.cells #[.int .i64 3, .string (S nm), .int .i64 nu, .slice pn ns.length cn, .slice pk ks.length ck] 25) := ⟨_, rfl⟩
  have hB : Below w.heap.size w W := by rw [hW]; exact (Below.refl _ w).alloc (Nat.le_refl _) _
  have hK : KP P w W := KP.of_below hB hT.lt
  have hT1 : TX P t st lv W := hT.below hB
  have hG1 : GP P W := hG.keep hK fun b hb => hb
  have hWs : W.heap.size = w.heap.size + 1 := by rw [hW]; simp
  have H1 := hide (put_new IH [pStr nm] [.iface 9 (.string (S nm))] rfl (vs_cons ⟨rfl, hnm⟩ vs_nil) (by simp [ptsw, ptw, pStr, p0w]; omega) hlv hG1 hT1 (Below.refl _ W) (w.heap.size + 1) 1 hWs rfl (by omega))
  have A1 : Hid (ptsA lv [pStr nm] st = ptA lv (pExpr ⟨3, nm, nu, ns, ks⟩) st) := ptsA_is rfl (by simp [ptW, pExpr, pStr, p0W, ws_eq ⟨3, nm, nu, ns, ks⟩, wsF]) st
  have HK := hide hK
  have HW := hide hW
  clear hE hEM hSM hT hG IH hB hsn hsk hT1 hG1 hK hnm hnu hw hW hs
  go_enter Tryd.func57, Tryd.ntmps57
  go_wp2_with fail
  rw [← HW.out]
  refine H1.out.mono ?_
  rintro e' w' ⟨rfl, hT', hK'⟩
  have HT' := hide hT'
  have HK' := hide hK'
  clear hT' hK'
  go_wp2_with fail
  go_end0
  exact ⟨rfl, by rw [← A1.out]; exact HT'.out, HK.out.trans HK'.out⟩
set_option maxRecDepth 100000 in
set_option maxHeartbeats 2000000 in
theorem expr1 {n : Nat} (IH : PutOK n) {P : Nat → Prop} {t : Nat} {st : St} {lv : Nat} {w : World} {nm : List UInt8} {nu : Int} {ns : List (List UInt8)} {ks : List Tr} {cs : List Value} (hw : tw ⟨1, nm, nu, ns, ks⟩ ≤ n + 1) (hlv : lv ≤ 30) (hG : GP P w) (hT : TX P t st lv w) (hE : TrIn P w ⟨1, nm, nu, ns, ks⟩ cs) (hs : shp ⟨1, nm, nu, ns, ks⟩ = true) :
    Calls Tryd.prog 57 #[.pointer (some ⟨t, 0, none⟩), .agg cs.toArray] w fun e' w' => e' = .returned (.tuple #[]) ∧ TX P t (ptA lv (pExpr ⟨1, nm, nu, ns, ks⟩) st) lv w' ∧ KP P w w' := by
  obtain ⟨pn, cn, pk, ck, rfl, hnm, hnu, hsn, hsk, hSM, hEM⟩ := (TrIn_iff _ _ _ _).1 hE
  rw [shp_eq] at hs
  simp at hs
  rw [tw_eq] at hw
  simp only at *
  obtain ⟨W, hW⟩ : ∃ W, W = w.alloc (.cells #[.int .i64 1, .string (S nm), .int .i64 nu, .slice pn ns.length cn, .slice pk ks.length ck] 25) := ⟨_, rfl⟩
  have hB : Below w.heap.size w W := by rw [hW]; exact (Below.refl _ w).alloc (Nat.le_refl _) _
  have hK : KP P w W := KP.of_below hB hT.lt
  have hT1 : TX P t st lv W := hT.below hB
  have hG1 : GP P W := hG.keep hK fun b hb => hb
  have hWs : W.heap.size = w.heap.size + 1 := by rw [hW]; simp
  have HI := hide (itoa_any nu hnu.1 hnu.2 hG1)
  have H1 := hide (fun (w1 : World) (hB1 : Below W.heap.size W w1) => put_new IH [pStr (Lib.itoa nu)] [.iface 9 (.string (S (Lib.itoa nu)))] rfl (vs_cons ⟨rfl, itoa_len nu hnu.1 hnu.2⟩ vs_nil) (by simp [ptsw, ptw, pStr, p0w]; omega) hlv hG1 hT1 hB1 w1.heap.size 1 rfl rfl (by omega))
  have A1 : Hid (ptsA lv [pStr (Lib.itoa nu)] st = ptA lv (pExpr ⟨1, nm, nu, ns, ks⟩) st) := ptsA_is rfl (by simp [ptW, pExpr, pStr, p0W, ws_eq ⟨1, nm, nu, ns, ks⟩, wsF]) st
  have HK := hide hK
  have HW := hide hW
  clear hE hEM hSM hT hG IH hB hsn hsk hT1 hG1 hK hnm hnu hw hW hs
  go_enter Tryd.func57, Tryd.ntmps57
  go_wp2_with fail
  rw [← HW.out]
  refine HI.out.mono ?_
  rintro e1 w1 ⟨rfl, hB1⟩
  have H2 := hide (H1.out w1 hB1)
  clear hB1 H1
  go_wp2_with fail
  refine H2.out.mono ?_
  rintro e' w' ⟨rfl, hT', hK'⟩
  have HT' := hide hT'
  have HK' := hide hK'
  clear hT' hK'
  go_wp2_with fail
  go_end0
  exact ⟨rfl, by rw [← A1.out]; exact HT'.out, HK.out.trans HK'.out⟩
set_option maxRecDepth 100000 in
set_option maxHeartbeats 2000000 in
theorem expr11 {n : Nat} (IH : PutOK n) {P : Nat → Prop} {t : Nat} {st : St} {lv : Nat} {w : World} {nm : List UInt8} {nu : Int} {ns : List (List UInt8)} {ks : List Tr} {cs : List Value} (hw : tw ⟨11, nm, nu, ns, ks⟩ ≤ n + 1) (hlv : lv ≤ 30) (hG : GP P w) (hT : TX P t st lv w) (hE : TrIn P w ⟨11, nm, nu, ns, ks⟩ cs) (hs : shp ⟨11, nm, nu, ns, ks⟩ = true) :
    Calls Tryd.prog 57 #[.pointer (some ⟨t, 0, none⟩), .agg cs.toArray] w fun e' w' => e' = .returned (.tuple #[]) ∧ TX P t (ptA lv (pExpr ⟨11, nm, nu, ns, ks⟩) st) lv w' ∧ KP P w w' := by
  obtain ⟨pn, cn, pk, ck, rfl, hnm, hnu, hsn, hsk, hSM, hEM⟩ := (TrIn_iff _ _ _ _).1 hE
  rw [shp_eq] at hs
  simp at hs
  rw [tw_eq] at hw
  simp only at *
  obtain ⟨W, hW⟩ : ∃ W, W = w.alloc (.cells #[.int .i64 11, .string (S nm), .int .i64 nu, .slice pn ns.length cn, .slice pk ks.length ck] 25) := ⟨_, rfl⟩
  have hB : Below w.heap.size w W := by rw [hW]; exact (Below.refl _ w).alloc (Nat.le_refl _) _
  have hK : KP P w W := KP.of_below hB hT.lt
  have hT1 : TX P t st lv W := hT.below hB
  have hG1 : GP P W := hG.keep hK fun b hb => hb
  have hWs : W.heap.size = w.heap.size + 1 := by rw [hW]; simp
  obtain ⟨⟨hb1, hb2⟩, hks⟩ := hs
  have HBL := hide (block_any (c := ck) hb2 hT1.lt (EM.keep hK (fun b hb => hb) hEM))
  have H1 := hide (fun (w1 : World) (hB1 : Below W.heap.size W w1) p' c' vs (ho : w1.ownsRow W.heap.size 20 1 (.slice p' ks.length c') ks.length vs) (hv : ∀ (i : Nat) k, ks[i]? = some k → ∃ ds : List Value, (vs : List Value)[i]? = some (Value.iface 25 (.agg ds.toArray)) ∧ TrIn P w1 k ds) => row_put IH [100, 111] [125] hnw11 hb2 (hks) (by have := sum31 ks; omega) hlv hG1 hT1 hB1 ho hv)
  have A1 : Hid (ptsA lv [pStr [100, 111], pStr [123], pRow [59] (ks.map fun k => .inr (.inr (.inr (.inr (.inr (.inl k)))))), pStr [125]] st = ptA lv (pExpr ⟨11, nm, nu, ns, ks⟩) st) := ptsA_is (row_ok _ _ _ _ _ _) (by simp [ptW, pExpr, pStr, pRow, p0W, ws_eq ⟨11, nm, nu, ns, ks⟩, wsF, Function.comp_def, List.map_map]) st
  have HK := hide hK
  have HW := hide hW
  clear hE hEM hSM hT hG IH hB hsn hsk hT1 hG1 hK hnm hnu hw hW hks
  go_enter Tryd.func57, Tryd.ntmps57
  go_wp2_with fail
  rw [← HW.out]
  refine HBL.out.mono ?_
  rintro e1 w1 ⟨p', c', vs, rfl, ho, hB1, hv⟩
  have H2 := hide (H1.out w1 hB1 p' c' vs ho hv)
  clear hB1 H1 ho hv
  go_wp2_with fail
  refine H2.out.mono ?_
  rintro e' w' ⟨rfl, hT', hK'⟩
  have HT' := hide hT'
  have HK' := hide hK'
  clear hT' hK'
  go_wp2_with fail
  go_end0
  exact ⟨rfl, by rw [← A1.out]; exact HT'.out, HK.out.trans HK'.out⟩
set_option maxRecDepth 100000 in
set_option maxHeartbeats 2000000 in
theorem expr12 {n : Nat} (IH : PutOK n) {P : Nat → Prop} {t : Nat} {st : St} {lv : Nat} {w : World} {nm : List UInt8} {nu : Int} {ns : List (List UInt8)} {ks : List Tr} {cs : List Value} (hw : tw ⟨12, nm, nu, ns, ks⟩ ≤ n + 1) (hlv : lv ≤ 30) (hG : GP P w) (hT : TX P t st lv w) (hE : TrIn P w ⟨12, nm, nu, ns, ks⟩ cs) (hs : shp ⟨12, nm, nu, ns, ks⟩ = true) :
    Calls Tryd.prog 57 #[.pointer (some ⟨t, 0, none⟩), .agg cs.toArray] w fun e' w' => e' = .returned (.tuple #[]) ∧ TX P t (ptA lv (pExpr ⟨12, nm, nu, ns, ks⟩) st) lv w' ∧ KP P w w' := by
  obtain ⟨pn, cn, pk, ck, rfl, hnm, hnu, hsn, hsk, hSM, hEM⟩ := (TrIn_iff _ _ _ _).1 hE
  rw [shp_eq] at hs
  simp at hs
  rw [tw_eq] at hw
  simp only at *
  obtain ⟨W, hW⟩ : ∃ W, W = w.alloc (.cells #[.int .i64 12, .string (S nm), .int .i64 nu, .slice pn ns.length cn, .slice pk ks.length ck] 25) := ⟨_, rfl⟩
  have hB : Below w.heap.size w W := by rw [hW]; exact (Below.refl _ w).alloc (Nat.le_refl _) _
  have hK : KP P w W := KP.of_below hB hT.lt
  have hT1 : TX P t st lv W := hT.below hB
  have hG1 : GP P W := hG.keep hK fun b hb => hb
  have hWs : W.heap.size = w.heap.size + 1 := by rw [hW]; simp
  obtain ⟨⟨hb1, hb2⟩, hks⟩ := hs
  have HBL := hide (block_any (c := ck) hb2 hT1.lt (EM.keep hK (fun b hb => hb) hEM))
  have H1 := hide (fun (w1 : World) (hB1 : Below W.heap.size W w1) p' c' vs (ho : w1.ownsRow W.heap.size 20 1 (.slice p' ks.length c') ks.length vs) (hv : ∀ (i : Nat) k, ks[i]? = some k → ∃ ds : List Value, (vs : List Value)[i]? = some (Value.iface 25 (.agg ds.toArray)) ∧ TrIn P w1 k ds) => row_put IH [100, 111, 115] [125] hnw12 hb2 (hks) (by have := sum31 ks; omega) hlv hG1 hT1 hB1 ho hv)
  have A1 : Hid (ptsA lv [pStr [100, 111, 115], pStr [123], pRow [59] (ks.map fun k => .inr (.inr (.inr (.inr (.inr (.inl k)))))), pStr [125]] st = ptA lv (pExpr ⟨12, nm, nu, ns, ks⟩) st) := ptsA_is (row_ok _ _ _ _ _ _) (by simp [ptW, pExpr, pStr, pRow, p0W, ws_eq ⟨12, nm, nu, ns, ks⟩, wsF, Function.comp_def, List.map_map]) st
  have HK := hide hK
  have HW := hide hW
  clear hE hEM hSM hT hG IH hB hsn hsk hT1 hG1 hK hnm hnu hw hW hks
  go_enter Tryd.func57, Tryd.ntmps57
  go_wp2_with fail
  rw [← HW.out]
  refine HBL.out.mono ?_
  rintro e1 w1 ⟨p', c', vs, rfl, ho, hB1, hv⟩
  have H2 := hide (H1.out w1 hB1 p' c' vs ho hv)
  clear hB1 H1 ho hv
  go_wp2_with fail
  refine H2.out.mono ?_
  rintro e' w' ⟨rfl, hT', hK'⟩
  have HT' := hide hT'
  have HK' := hide hK'
  clear hT' hK'
  go_wp2_with fail
  go_end0
  exact ⟨rfl, by rw [← A1.out]; exact HT'.out, HK.out.trans HK'.out⟩
end Go.Proofs.YtebcdjlhmoffjaaDoor
