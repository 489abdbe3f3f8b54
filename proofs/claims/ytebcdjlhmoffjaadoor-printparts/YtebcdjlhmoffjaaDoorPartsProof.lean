/-
  PrintParts, for every tree and every text: the law returns true, and its arguments read as they did. The condition: the listed variables of Go's library hold what its text lays (tied by the card).
-/
import Derived.Test.YtebcdjlhmoffjaaDoorLongProof
import Derived.Test.YtebcdjlhmoffjaaDoorPartsM
import Derived.ShutString
namespace Go.Proofs.YtebcdjlhmoffjaaDoor
open Go.RowKit
set_option linter.unusedVariables false
set_option linter.unusedSimpArgs false
abbrev two (n : List UInt8) (e : Tr) : Pg := ⟨[], [⟨n, e⟩, ⟨dMain, e⟩]⟩
def twoT (n : List UInt8) (e : Tr) : List UInt8 := [123, 32] ++ n ++ [32, 61, 32] ++ txW (ws e) true ++ [32, 59, 32, 109, 97, 105, 110, 32, 61, 32] ++ txW (ws e) true ++ [32, 125]
theorem two_V {n : List UInt8} {e : Tr} (hc : checkM e = true) : progV (two n e) = .tuple #[.string ⟨#[]⟩, .int .i64 40] ∨ progV (two n e) = .tuple #[.string (S (twoT n e)), .int .i64 0] := by
  unfold progV
  cases progM (two n e)
  · left; rfl
  · rcases hp : ptA 0 (pProg (two n e)) (some ([], true)) with _ | ⟨o, t⟩
    · left; rfl
    · right
      obtain ⟨h1, h2⟩ := two_text (n := n) (fun x hx => (check_mem hc x hx).2.2)
      have h4 : runA (pgW (two n e)) (some ([], true)) = some (o, t) := hp
      obtain ⟨rfl, _⟩ := runA_tx _ h1 h4
      rw [List.nil_append, h2]
      rfl
theorem two_call {w : World} {e : Tr} {n : List UInt8} {pn pk : Option Addr} {cn ck : Nat} (hG : GP (fun b => b < w.heap.size) w) (hE : TrIn (fun b => b < w.heap.size) w e [.int .i64 e.kd, .string (S e.nm), .int .i64 e.nu, .slice pn e.ns.length cn, .slice pk e.ks.length ck]) (hf : fewM e = true) (hn : n.length ≤ 1000) :
    Calls Tryd.prog 9 #[.agg #[.slice none 0 0, .slice (some ⟨w.heap.size, 0, none⟩) 2 2]] (w.alloc (.cells #[.string (S n), .int .i64 e.kd, .string (S e.nm), .int .i64 e.nu, .slice pn e.ns.length cn, .slice pk e.ks.length ck, .string ⟨#[109, 97, 105, 110]⟩, .int .i64 e.kd, .string (S e.nm), .int .i64 e.nu, .slice pn e.ns.length cn, .slice pk e.ks.length ck] 33))
      fun r w' => r = .returned (progV (two n e)) ∧ Below w.heap.size w w' := by
  obtain ⟨h1, s1⟩ := alloc_step (W := w) rfl #[.string (S n), .int .i64 e.kd, .string (S e.nm), .int .i64 e.nu, .slice pn e.ns.length cn, .slice pk e.ks.length ck, .string ⟨#[109, 97, 105, 110]⟩, .int .i64 e.kd, .string (S e.nm), .int .i64 e.nu, .slice pn e.ns.length cn, .slice pk e.ks.length ck] 33
  have hB := (Below.refl w.heap.size w).alloc (Nat.le_refl _) (.cells #[.string (S n), .int .i64 e.kd, .string (S e.nm), .int .i64 e.nu, .slice pn e.ns.length cn, .slice pk e.ks.length ck, .string ⟨#[109, 97, 105, 110]⟩, .int .i64 e.kd, .string (S e.nm), .int .i64 e.nu, .slice pn e.ns.length cn, .slice pk e.ks.length ck] 33)
  generalize (w.alloc (.cells #[.string (S n), .int .i64 e.kd, .string (S e.nm), .int .i64 e.nu, .slice pn e.ns.length cn, .slice pk e.ks.length ck, .string ⟨#[109, 97, 105, 110]⟩, .int .i64 e.kd, .string (S e.nm), .int .i64 e.nu, .slice pn e.ns.length cn, .slice pk e.ks.length ck] 33)) = W at *
  have hT := TrIn.keep (KP.of_below hB fun b hb => hb) (Q := fun b => b < w.heap.size + 1) (fun b hb => by omega) _ _ hE
  refine (prog_any2 (Q := fun _ => False) (P := fun b => b < w.heap.size + 1) (p := two n e) (gp_below hG hB) (fun b hb => hb.elim) (fun b hb => by omega) ⟨none, 0, some ⟨w.heap.size, 0, none⟩, 2, rfl, slok (fun _ => rfl) (by simp), slok (fun h => by cases h) (by simp), .inl rfl,
    rm_hold (n := 6) [.string (S n) :: [.int .i64 e.kd, .string (S e.nm), .int .i64 e.nu, .slice pn e.ns.length cn, .slice pk e.ks.length ck], .string ⟨#[109, 97, 105, 110]⟩ :: [.int .i64 e.kd, .string (S e.nm), .int .i64 e.nu, .slice pn e.ns.length cn, .slice pk e.ks.length ck]] (by omega) h1 rfl (by simp) rfl (all2 ⟨_, rfl, by show n.length ≤ _; omega, hT⟩ ⟨_, rfl, by simp [dMain], hT⟩)⟩ ?_ ?_ (by simp)).mono ?_
  · intro d hd
    have : d.bd = e := by simp at hd; rcases hd with rfl | rfl <;> rfl
    rw [this]
    exact few_D hf
  · intro d hd
    have : d.bd = e := by simp at hd; rcases hd with rfl | rfl <;> rfl
    rw [this]
    exact few_N hf
  · rintro r w' ⟨rfl, hb⟩
    exact ⟨rfl, hB.trans (hb.mono hB.size)⟩
theorem occ_step {o k : List UInt8} {r : List (List UInt8)} {p : Nat} (h : Occ (k :: r) (o.drop p)) (hp : p ≤ o.length) : ∃ n, p + n + k.length ≤ o.length ∧ (o.drop (p + n)).take k.length = k ∧ ∀ q, q ≤ p + n → Occ r (o.drop (q + k.length)) := by
  obtain ⟨a, b, hs, h2⟩ := h
  have hl : o.length - p = a.length + (k.length + b.length) := by rw [← List.length_drop, hs]; simp
  have hd : o.drop (p + a.length) = k ++ b := by rw [← List.drop_drop, hs]; simp
  refine ⟨a.length, by omega, by rw [hd]; simp, fun q hq => ?_⟩
  have hb : o.drop (p + a.length + k.length) = b := by rw [← List.drop_drop, hd]; simp
  have hx : o.drop (q + k.length) = (o.drop (q + k.length)).take (p + a.length - q) ++ b := by
    have := (List.take_append_drop (p + a.length - q) (o.drop (q + k.length))).symm
    rw [List.drop_drop, show q + k.length + (p + a.length - q) = p + a.length + k.length by omega, hb] at this
    exact this
  rw [hx]
  exact h2.more _
theorem few_kid {e k : Tr} (hf : fewM e = true) (hk : k ∈ e.ks) : fewM k = true := by
  have hp : (2, k) ∈ po e 1 := po_kid hk (po_self k 2)
  obtain ⟨h1, h2, h3⟩ := po_le e 1 _ hp
  unfold fewM at hf ⊢
  simp only [Bool.and_eq_true, decide_eq_true_eq] at hf ⊢
  simp only at h1 h2 h3
  exact ⟨⟨by omega, by omega⟩, h3 hf.2⟩
theorem ext_list {s : ByteArray} {o : List UInt8} (h : s.data.toList = o) (q k : Nat) : (s.extract q (q + k)).toList = (o.drop q).take k := by
  rw [ByteArray.toList_eq, ← h]
  simp [ByteArray.data_extract, List.take_drop, Nat.add_comm]
theorem S_add (a b : List UInt8) : S (a ++ b) = S a ++ S b := by
  apply ByteArray.ext
  simp [S]
set_option maxHeartbeats 8000000 in
set_option maxRecDepth 100000 in
theorem parts_walk (e : Tr) (n : List UInt8) {w : World} {pn pk : Option Addr} {cn ck : Nat} (hnl : n.length ≤ 281474976710656) (hG : GP (fun b => b < w.heap.size) w) (hE : TrIn (fun b => b < w.heap.size) w e [.int .i64 e.kd, .string (S e.nm), .int .i64 e.nu, .slice pn e.ns.length cn, .slice pk e.ks.length ck]) :
    Calls Tryd.prog 3 #[.agg (cs5 e pn cn pk ck), .string (S n)] w fun r w' => r = .returned (.bool true) ∧ Below w.heap.size w w' := by
  have hkl : e.ks.length ≤ 9223372036854775807 := (em_of hE).2.1
  have HE := hide (em_of hE).1
  have HA := hide fun W (hb : Below w.heap.size w W) => awake_any W (gp_below hG hb)
  have HF := hide fun W (hb : Below w.heap.size w W) => few_any e (P := fun b => b < w.heap.size) (w := W) (fun b hb' => Nat.lt_of_lt_of_le hb' hb.size) (TrIn.keep (KP.of_below hb fun b hb => hb) (fun b hb => hb) _ _ hE)
  have HX := hide fun (hf : fewM e = true) W (hb : Below w.heap.size w W) => expr_any (e := e) (gp_below hG hb) (TrIn.keep (KP.of_below hb fun b hb => hb) (fun b hb' => Nat.lt_of_lt_of_le hb' hb.size) _ _ hE) (few_D hf) (few_N hf)
  have HPP := hide fun (hf : fewM e = true) (hn : n.length ≤ 1000) W (hb : Below w.heap.size w W) => two_call (w := W) (n := n) (gp_below hG hb) (TrIn.keep (KP.of_below hb fun b hb => hb) (fun b hb' => Nat.lt_of_lt_of_le hb' hb.size) _ _ hE) hf hn
  have HKK : Hid (fewM e = true → ∀ k ∈ e.ks, ∀ W, Below w.heap.size w W → ∀ {qn qk : Option Addr} {dn dk : Nat}, TrIn (fun b => b < w.heap.size) w k [.int .i64 k.kd, .string (S k.nm), .int .i64 k.nu, .slice qn k.ns.length dn, .slice qk k.ks.length dk] → Calls Tryd.prog 8 #[.agg (cs5 k qn dn qk dk)] W fun r w' => r = .returned (exprV k) ∧ Below W.heap.size W w') :=
    fun hf k hk W hb qn qk dn dk hT => expr_any (e := k) (gp_below hG hb) (TrIn.keep (KP.of_below hb fun b hb => hb) (fun b hb' => Nat.lt_of_lt_of_le hb' hb.size) _ _ hT) (few_D (few_kid hf hk)) (few_N (few_kid hf hk))
  have hB0 : Below w.heap.size w (w.alloc (.cells (cs5 e pn cn pk ck) 25)) := (Below.refl _ w).alloc (Nat.le_refl _) _
  have hW : Hold w.heap.size (cs5 e pn cn pk ck) 25 (w.alloc (.cells (cs5 e pn cn pk ck) 25)) := Hold.new w _ 25
  have HCS := hide (exprV_cases e)
  have hS : (w.alloc (.cells (cs5 e pn cn pk ck) 25)).heap.size = w.heap.size + 1 := by simp
  have HWS := hide hS
  have HB0 := hide hB0
  have HW := hide hW
  have HTV := hide fun (hc : checkM e = true) => two_V (n := n) hc
  have hsn' : (S n).size = n.length := S_size n
  clear hE hG hB0 hW hS
  unfold cs5 at *
  generalize S e.nm = snm at *
  generalize e.ns.length = nn at *
  generalize hnk : e.ks.length = nk at *
  have HNK := hide hnk
  generalize hsn : S n = sn at *
  have HSN : Hid (S n = sn) := hsn
  generalize hnL : n.length = nL at *
  clear hnk hsn
  cases hf : fewM e
  · rw [hf] at HF
    clear hf HX HPP HKK HCS HTV
    go_enter Tryd.func3, Tryd.ntmps3
    go_wp2_with fail
    refine (HA.out _ HB0.out).mono ?_
    rintro r w1 ⟨rfl, hb1⟩
    have hWx := (HW.out.below hb1 (by have := HWS.out; omega))
    have HLT := hide (Nat.lt_of_lt_of_le (by have := HWS.out; omega : w.heap.size < _) hb1.size)
    have c0 := hWx.cell 0
    have c1 := hWx.cell 1
    have c2 := hWx.cell 2
    have c3 := hWx.cell 3
    have c4 := hWx.cell 4
    simp only [List.getElem?_toArray, List.getElem?_cons_succ, List.getElem?_cons_zero, Nat.zero_add] at c0 c1 c2 c3 c4
    have HB1 := hide (HB0.out.trans (hb1.mono HB0.out.size))
    have HW1 := hide hWx
    clear hb1 hWx
    go_wp2_with fail
    refine (HF.out _ HB1.out).mono ?_
    rintro r w2 ⟨rfl, hb2⟩
    have HB2 := hide (HB1.out.trans (hb2.mono HB1.out.size))
    clear hb2
    go_wp2_with fail
    go_ret
    exact ⟨by rfl, HB2.out⟩
  · have HX' := hide (HX.out hf)
    have HKX := hide (HKK.out hf)
    have HPX := hide (HPP.out hf)
    have hck := fun (hc : checkM e = true) => ws_seg (check_mem hc (1, e) (po_self e 1)).2.2
    have HSEG := hide hck
    rw [hf] at HF
    clear hf HX HKK HPP hck
    by_cases hn : ¬ nL ≤ 100
    · have hni : (100 : Int) < nL := by omega
      clear HX' HKX HPX HCS HTV HSEG
      go_enter Tryd.func3, Tryd.ntmps3
      go_wp2_with fail
      refine (HA.out _ HB0.out).mono ?_
      rintro r w1 ⟨rfl, hb1⟩
      have hWx := (HW.out.below hb1 (by have := HWS.out; omega))
      have HLT := hide (Nat.lt_of_lt_of_le (by have := HWS.out; omega : w.heap.size < _) hb1.size)
      have c0 := hWx.cell 0
      have c1 := hWx.cell 1
      have c2 := hWx.cell 2
      have c3 := hWx.cell 3
      have c4 := hWx.cell 4
      simp only [List.getElem?_toArray, List.getElem?_cons_succ, List.getElem?_cons_zero, Nat.zero_add] at c0 c1 c2 c3 c4
      have HB1 := hide (HB0.out.trans (hb1.mono HB0.out.size))
      have HW1 := hide hWx
      clear hb1 hWx
      go_wp2_with fail
      refine (HF.out _ HB1.out).mono ?_
      rintro r w2 ⟨rfl, hb2⟩
      have HB2 := hide (HB1.out.trans (hb2.mono HB1.out.size))
      clear hb2
      go_wp2_with fail
      go_ret
      exact ⟨by rfl, HB2.out⟩
    · have hni : ¬ (100 : Int) < nL := by omega
      have HP := hide (HPX.out (by omega))
      clear HPX
      rcases HCS.out with hv | ⟨o, hv, hc, ho, -, hlen, hmax⟩
      · rw [hv] at HX'
        clear hv HCS HTV HKX HP HSEG
        go_enter Tryd.func3, Tryd.ntmps3
        go_wp2_with fail
        refine (HA.out _ HB0.out).mono ?_
        rintro r w1 ⟨rfl, hb1⟩
        have hWx := (HW.out.below hb1 (by have := HWS.out; omega))
        have HLT := hide (Nat.lt_of_lt_of_le (by have := HWS.out; omega : w.heap.size < _) hb1.size)
        have c0 := hWx.cell 0
        have c1 := hWx.cell 1
        have c2 := hWx.cell 2
        have c3 := hWx.cell 3
        have c4 := hWx.cell 4
        simp only [List.getElem?_toArray, List.getElem?_cons_succ, List.getElem?_cons_zero, Nat.zero_add] at c0 c1 c2 c3 c4
        have HB1 := hide (HB0.out.trans (hb1.mono HB0.out.size))
        have HW1 := hide hWx
        clear hb1 hWx
        go_wp2_with fail
        refine (HF.out _ HB1.out).mono ?_
        rintro r w2 ⟨rfl, hb2⟩
        have HB2 := hide (HB1.out.trans (hb2.mono HB1.out.size))
        have hWx := (HW1.out.below hb2 HLT.out)
        have HLT2 := hide (Nat.lt_of_lt_of_le HLT.out hb2.size)
        have HW2 := hide hWx
        clear c0 c1 c2 c3 c4
        have c0 := hWx.cell 0
        have c1 := hWx.cell 1
        have c2 := hWx.cell 2
        have c3 := hWx.cell 3
        have c4 := hWx.cell 4
        simp only [List.getElem?_toArray, List.getElem?_cons_succ, List.getElem?_cons_zero, Nat.zero_add] at c0 c1 c2 c3 c4
        clear hb2 hWx
        go_wp2_with fail
        refine (HX'.out _ HB2.out).mono ?_
        rintro r w3 ⟨rfl, hb3⟩
        have HB3 := hide (HB2.out.trans (hb3.mono HB2.out.size))
        clear hb3
        go_wp2_with fail
        go_ret
        exact ⟨by rfl, HB3.out⟩
      · rw [hv] at HX'
        have hpos : 1 ≤ o.length := Nat.le_trans (tsz_pos e) hlen
        have hsl : (S o).size = o.length := S_size o
        have HD : Hid ((S o).data.toList = o) := rfl
        have hoc : Occ ((e.ks.drop 0).map fun k => txW (ws k) true) (o.drop 0) := by rw [List.drop_zero, List.drop_zero, ho]; exact (HSEG.out hc).occ true
        have HOCC := hide hoc
        have HTX : Hid (twoT n e = [123, 32] ++ n ++ [32, 61, 32] ++ o ++ [32, 59, 32, 109, 97, 105, 110, 32, 61, 32] ++ o ++ [32, 125]) := by rw [ho]; rfl
        generalize hol : o.length = ol at *
        have HOL := hide hol
        have htv := HTV.out hc
        clear hv HCS HTV HSEG hc ho hoc hol hlen
        generalize hso : S o = s at *
        have HSO := hide hso
        clear hso
        rcases htv with hv | hv
        · rw [hv] at HP
          clear hv HTX
          go_enter Tryd.func3, Tryd.ntmps3
          go_wp2_with fail
          refine (HA.out _ HB0.out).mono ?_
          rintro r w1 ⟨rfl, hb1⟩
          have hWx := (HW.out.below hb1 (by have := HWS.out; omega))
          have HLT := hide (Nat.lt_of_lt_of_le (by have := HWS.out; omega : w.heap.size < _) hb1.size)
          have c0 := hWx.cell 0
          have c1 := hWx.cell 1
          have c2 := hWx.cell 2
          have c3 := hWx.cell 3
          have c4 := hWx.cell 4
          simp only [List.getElem?_toArray, List.getElem?_cons_succ, List.getElem?_cons_zero, Nat.zero_add] at c0 c1 c2 c3 c4
          have HB1 := hide (HB0.out.trans (hb1.mono HB0.out.size))
          have HW1 := hide hWx
          clear hb1 hWx
          go_wp2_with fail
          refine (HF.out _ HB1.out).mono ?_
          rintro r w2 ⟨rfl, hb2⟩
          have HB2 := hide (HB1.out.trans (hb2.mono HB1.out.size))
          have hWx := (HW1.out.below hb2 HLT.out)
          have HLT2 := hide (Nat.lt_of_lt_of_le HLT.out hb2.size)
          have HW2 := hide hWx
          clear c0 c1 c2 c3 c4
          have c0 := hWx.cell 0
          have c1 := hWx.cell 1
          have c2 := hWx.cell 2
          have c3 := hWx.cell 3
          have c4 := hWx.cell 4
          simp only [List.getElem?_toArray, List.getElem?_cons_succ, List.getElem?_cons_zero, Nat.zero_add] at c0 c1 c2 c3 c4
          clear hb2 hWx
          go_wp2_with fail
          refine (HX'.out _ HB2.out).mono ?_
          rintro r w3 ⟨rfl, hb3⟩
          have HB3 := hide (HB2.out.trans (hb3.mono HB2.out.size))
          have hWx := (HW2.out.below hb3 HLT2.out)
          have HLT3 := hide (Nat.lt_of_lt_of_le HLT2.out hb3.size)
          have HW3 := hide hWx
          clear c0 c1 c2 c3 c4
          have c0 := hWx.cell 0
          have c1 := hWx.cell 1
          have c2 := hWx.cell 2
          have c3 := hWx.cell 3
          have c4 := hWx.cell 4
          simp only [List.getElem?_toArray, List.getElem?_cons_succ, List.getElem?_cons_zero, Nat.zero_add] at c0 c1 c2 c3 c4
          clear hb3 hWx
          have HPC := hide (HP.out _ HB3.out)
          go_wp2_with fail
          refine HPC.out.mono ?_
          rintro r w4 ⟨rfl, hb4⟩
          have hWx := (HW3.out.below hb4 HLT3.out)
          have HW4 := hide hWx
          have HB4 := hide (HB3.out.trans (hb4.mono HB3.out.size))
          clear c0 c1 c2 c3 c4
          clear hb4 hWx HPC HP
          go_wp2_with fail
          go_loopg [10, 11] nk (fun k s10 s11 wr => ∃ i at' : Nat, i ≤ nk ∧ k = nk - i ∧ s10 = .int .i64 at' ∧ s11 = .int .i64 i ∧ at' ≤ ol ∧ Below w.heap.size w wr ∧ Hold w.heap.size #[.int .i64 e.kd, .string snm, .int .i64 e.nu, .slice pn nn cn, .slice pk nk ck] 25 wr ∧ Occ ((e.ks.drop i).map fun k => txW (ws k) true) (o.drop at'))
          case atStart => exact ⟨0, 0, Nat.zero_le _, by omega, rfl, rfl, Nat.zero_le _, HB4.out, HW4.out, HOCC.out⟩
          case round =>
            obtain ⟨i, at', hi1, rfl, rfl, rfl, hat, hbw, hWx, hocc⟩ := hrel
            have c4 := hWx.cell 4
            simp only [List.getElem?_toArray, List.getElem?_cons_succ, List.getElem?_cons_zero, Nat.zero_add] at c4
            have HBR := hide hbw
            have HWR := hide hWx
            have HSR := hide (Nat.lt_of_lt_of_le HWR.out.lt (Nat.le_refl _))
            by_cases hlt : i < nk
            · have hil : i < e.ks.length := by rw [HNK.out]; exact hlt
              obtain ⟨b, oo, qn, dn, qk, dk, hpk, hPb, hIn, a0, a1, a2, a3, a4⟩ := em_at HE.out hil
              have hcc : ∀ x, wr.cell? ⟨b, x, none⟩ = w.cell? ⟨b, x, none⟩ := fun x => hbw.cell (p := ⟨b, x, none⟩) hPb
              rw [← hcc] at a0 a1 a2 a3 a4
              have hcall := HKX.out e.ks[i] (by simp) wr hbw hIn
              have hdr : e.ks.drop i = e.ks[i] :: e.ks.drop (i + 1) := List.drop_eq_getElem_cons hil
              rw [hdr, List.map_cons] at hocc
              have hcs := exprV_cases e.ks[i]
              subst hpk
              generalize e.ks[i] = kd at *
              have HOC := hide hocc
              have hii : (i : Int) < nk := by omega
              rcases hcs with hv | ⟨kt, hv, -, hkt, -, -, hkm⟩
              · rw [hv] at hcall
                have HC := hide hcall
                clear hcall hcc hbw hIn hdr hocc hWx hv
                go_wp2_with fail
                refine HC.out.mono ?_
                rintro r w5 ⟨rfl, hb5⟩
                have HB5 := hide (HBR.out.trans (hb5.mono HBR.out.size))
                have HW5 := hide (HWR.out.below hb5 HSR.out)
                clear hb5
                go_wp2_with fail
                go_roundg (nk - (i + 1))
                case measure => omega
                case rel => exact ⟨i + 1, at', by omega, rfl, rfl, by go_num, hat, HB5.out, HW5.out, HOC.out.skip⟩
              · rw [hv] at hcall
                rw [← hkt] at HOC
                obtain ⟨n, hn1, hn2, hn3⟩ := occ_step HOC.out (by rw [HOL.out]; exact hat)
                rw [HOL.out] at hn1
                have HN2 := hide hn2
                have HN3 := hide hn3
                have HC := hide hcall
                have hks : (S kt).size = kt.length := S_size kt
                have HKD : Hid ((S kt).data.toList = kt) := rfl
                generalize hkl : kt.length = kl at *
                generalize hsk : S kt = sk at *
                have HKL := hide hkl
                clear hcall hcc hbw hIn hdr hocc hWx hv hkt hn2 hn3 hsk hkl
                go_wp2_with fail
                refine HC.out.mono ?_
                rintro r w5 ⟨rfl, hb5⟩
                have HB5 := hide (HBR.out.trans (hb5.mono HBR.out.size))
                have HW5 := hide (HWR.out.below hb5 HSR.out)
                clear hb5
                go_wp2_with fail
                go_loopg [10] n (fun k s10 wx => ∃ q : Nat, at' ≤ q ∧ q ≤ at' + n ∧ k = at' + n - q ∧ s10 = .int .i64 q ∧ w5 = wx)
                case atStart => exact ⟨at', Nat.le_refl _, by omega, by omega, rfl, rfl⟩
                case round =>
                  obtain ⟨q, hq1, hq2, rfl, rfl, rfl⟩ := hrel
                  have hle : (q : Int) + kl ≤ ol := by omega
                  have hle2 : ¬ (ol : Int) < (q : Int) + kl := by omega
                  have hb1 : q + kl ≤ 2147483647 := by omega
                  by_cases heq : (o.drop q).take kl = kt
                  · have hB : ((s.extract q (q + kl)).toList == sk.toList) = true := by rw [ext_list HD.out, ByteArray.toList_eq, HKD.out, heq]; simp
                    clear heq
                    go_wp2_with fail
                    go_roundg (nk - (i + 1))
                    case measure => omega
                    case rel => exact ⟨i + 1, q + kl, by omega, rfl, by go_num, by go_num, by omega, HB5.out, HW5.out, HN3.out q hq2⟩
                  · have hqn : q < at' + n := by
                      apply Nat.lt_of_le_of_ne hq2
                      rintro rfl
                      exact heq HN2.out
                    have hB : ((s.extract q (q + kl)).toList == sk.toList) = false := by rw [ext_list HD.out, ByteArray.toList_eq, HKD.out]; simpa using heq
                    clear heq
                    go_wp2_with fail
                    go_roundg (at' + n - (q + 1))
                    case measure => omega
                    case rel => exact ⟨q + 1, by omega, by omega, rfl, by go_num, rfl⟩
            · have hii : ¬ (i : Int) < nk := by omega
              have hpi : (0 : Int) < ol := by omega
              clear hbw hocc hWx
              have hpn : 0 < ol := by omega
              go_wp2_with fail
              go_ret
              exact ⟨by rfl, HBR.out⟩
        · rw [hv] at HP
          have hcmp : ((S (twoT n e)).toList == (({ data := #[123, 32] } : ByteArray) ++ sn ++ { data := #[32, 61, 32] } ++ s ++ { data := #[32, 59, 32, 109, 97, 105, 110, 32, 61, 32] } ++ s ++ { data := #[32, 125] }).toList) = true := by
            rw [HTX.out, ← HSN.out, ← HSO.out]
            have h : S ([123, 32] ++ n ++ [32, 61, 32] ++ o ++ [32, 59, 32, 109, 97, 105, 110, 32, 61, 32] ++ o ++ [32, 125]) = (({ data := #[123, 32] } : ByteArray) ++ S n ++ { data := #[32, 61, 32] } ++ S o ++ { data := #[32, 59, 32, 109, 97, 105, 110, 32, 61, 32] } ++ S o ++ { data := #[32, 125] }) := by
              simp only [S_add]
              rfl
            rw [h]
            simp
          generalize S (twoT n e) = st at *
          clear hv HTX
          go_enter Tryd.func3, Tryd.ntmps3
          go_wp2_with fail
          refine (HA.out _ HB0.out).mono ?_
          rintro r w1 ⟨rfl, hb1⟩
          have hWx := (HW.out.below hb1 (by have := HWS.out; omega))
          have HLT := hide (Nat.lt_of_lt_of_le (by have := HWS.out; omega : w.heap.size < _) hb1.size)
          have c0 := hWx.cell 0
          have c1 := hWx.cell 1
          have c2 := hWx.cell 2
          have c3 := hWx.cell 3
          have c4 := hWx.cell 4
          simp only [List.getElem?_toArray, List.getElem?_cons_succ, List.getElem?_cons_zero, Nat.zero_add] at c0 c1 c2 c3 c4
          have HB1 := hide (HB0.out.trans (hb1.mono HB0.out.size))
          have HW1 := hide hWx
          clear hb1 hWx
          go_wp2_with fail
          refine (HF.out _ HB1.out).mono ?_
          rintro r w2 ⟨rfl, hb2⟩
          have HB2 := hide (HB1.out.trans (hb2.mono HB1.out.size))
          have hWx := (HW1.out.below hb2 HLT.out)
          have HLT2 := hide (Nat.lt_of_lt_of_le HLT.out hb2.size)
          have HW2 := hide hWx
          clear c0 c1 c2 c3 c4
          have c0 := hWx.cell 0
          have c1 := hWx.cell 1
          have c2 := hWx.cell 2
          have c3 := hWx.cell 3
          have c4 := hWx.cell 4
          simp only [List.getElem?_toArray, List.getElem?_cons_succ, List.getElem?_cons_zero, Nat.zero_add] at c0 c1 c2 c3 c4
          clear hb2 hWx
          go_wp2_with fail
          refine (HX'.out _ HB2.out).mono ?_
          rintro r w3 ⟨rfl, hb3⟩
          have HB3 := hide (HB2.out.trans (hb3.mono HB2.out.size))
          have hWx := (HW2.out.below hb3 HLT2.out)
          have HLT3 := hide (Nat.lt_of_lt_of_le HLT2.out hb3.size)
          have HW3 := hide hWx
          clear c0 c1 c2 c3 c4
          have c0 := hWx.cell 0
          have c1 := hWx.cell 1
          have c2 := hWx.cell 2
          have c3 := hWx.cell 3
          have c4 := hWx.cell 4
          simp only [List.getElem?_toArray, List.getElem?_cons_succ, List.getElem?_cons_zero, Nat.zero_add] at c0 c1 c2 c3 c4
          clear hb3 hWx
          have HPC := hide (HP.out _ HB3.out)
          go_wp2_with fail
          refine HPC.out.mono ?_
          rintro r w4 ⟨rfl, hb4⟩
          have hWx := (HW3.out.below hb4 HLT3.out)
          have HW4 := hide hWx
          have HB4 := hide (HB3.out.trans (hb4.mono HB3.out.size))
          clear c0 c1 c2 c3 c4
          clear hb4 hWx HPC HP
          go_wp2_with fail
          go_loopg [10, 11] nk (fun k s10 s11 wr => ∃ i at' : Nat, i ≤ nk ∧ k = nk - i ∧ s10 = .int .i64 at' ∧ s11 = .int .i64 i ∧ at' ≤ ol ∧ Below w.heap.size w wr ∧ Hold w.heap.size #[.int .i64 e.kd, .string snm, .int .i64 e.nu, .slice pn nn cn, .slice pk nk ck] 25 wr ∧ Occ ((e.ks.drop i).map fun k => txW (ws k) true) (o.drop at'))
          case atStart => exact ⟨0, 0, Nat.zero_le _, by omega, rfl, rfl, Nat.zero_le _, HB4.out, HW4.out, HOCC.out⟩
          case round =>
            obtain ⟨i, at', hi1, rfl, rfl, rfl, hat, hbw, hWx, hocc⟩ := hrel
            have c4 := hWx.cell 4
            simp only [List.getElem?_toArray, List.getElem?_cons_succ, List.getElem?_cons_zero, Nat.zero_add] at c4
            have HBR := hide hbw
            have HWR := hide hWx
            have HSR := hide (Nat.lt_of_lt_of_le HWR.out.lt (Nat.le_refl _))
            by_cases hlt : i < nk
            · have hil : i < e.ks.length := by rw [HNK.out]; exact hlt
              obtain ⟨b, oo, qn, dn, qk, dk, hpk, hPb, hIn, a0, a1, a2, a3, a4⟩ := em_at HE.out hil
              have hcc : ∀ x, wr.cell? ⟨b, x, none⟩ = w.cell? ⟨b, x, none⟩ := fun x => hbw.cell (p := ⟨b, x, none⟩) hPb
              rw [← hcc] at a0 a1 a2 a3 a4
              have hcall := HKX.out e.ks[i] (by simp) wr hbw hIn
              have hdr : e.ks.drop i = e.ks[i] :: e.ks.drop (i + 1) := List.drop_eq_getElem_cons hil
              rw [hdr, List.map_cons] at hocc
              have hcs := exprV_cases e.ks[i]
              subst hpk
              generalize e.ks[i] = kd at *
              have HOC := hide hocc
              have hii : (i : Int) < nk := by omega
              rcases hcs with hv | ⟨kt, hv, -, hkt, -, -, hkm⟩
              · rw [hv] at hcall
                have HC := hide hcall
                clear hcall hcc hbw hIn hdr hocc hWx hv
                go_wp2_with fail
                refine HC.out.mono ?_
                rintro r w5 ⟨rfl, hb5⟩
                have HB5 := hide (HBR.out.trans (hb5.mono HBR.out.size))
                have HW5 := hide (HWR.out.below hb5 HSR.out)
                clear hb5
                go_wp2_with fail
                go_roundg (nk - (i + 1))
                case measure => omega
                case rel => exact ⟨i + 1, at', by omega, rfl, rfl, by go_num, hat, HB5.out, HW5.out, HOC.out.skip⟩
              · rw [hv] at hcall
                rw [← hkt] at HOC
                obtain ⟨n, hn1, hn2, hn3⟩ := occ_step HOC.out (by rw [HOL.out]; exact hat)
                rw [HOL.out] at hn1
                have HN2 := hide hn2
                have HN3 := hide hn3
                have HC := hide hcall
                have hks : (S kt).size = kt.length := S_size kt
                have HKD : Hid ((S kt).data.toList = kt) := rfl
                generalize hkl : kt.length = kl at *
                generalize hsk : S kt = sk at *
                have HKL := hide hkl
                clear hcall hcc hbw hIn hdr hocc hWx hv hkt hn2 hn3 hsk hkl
                go_wp2_with fail
                refine HC.out.mono ?_
                rintro r w5 ⟨rfl, hb5⟩
                have HB5 := hide (HBR.out.trans (hb5.mono HBR.out.size))
                have HW5 := hide (HWR.out.below hb5 HSR.out)
                clear hb5
                go_wp2_with fail
                go_loopg [10] n (fun k s10 wx => ∃ q : Nat, at' ≤ q ∧ q ≤ at' + n ∧ k = at' + n - q ∧ s10 = .int .i64 q ∧ w5 = wx)
                case atStart => exact ⟨at', Nat.le_refl _, by omega, by omega, rfl, rfl⟩
                case round =>
                  obtain ⟨q, hq1, hq2, rfl, rfl, rfl⟩ := hrel
                  have hle : (q : Int) + kl ≤ ol := by omega
                  have hle2 : ¬ (ol : Int) < (q : Int) + kl := by omega
                  have hb1 : q + kl ≤ 2147483647 := by omega
                  by_cases heq : (o.drop q).take kl = kt
                  · have hB : ((s.extract q (q + kl)).toList == sk.toList) = true := by rw [ext_list HD.out, ByteArray.toList_eq, HKD.out, heq]; simp
                    clear heq
                    go_wp2_with fail
                    go_roundg (nk - (i + 1))
                    case measure => omega
                    case rel => exact ⟨i + 1, q + kl, by omega, rfl, by go_num, by go_num, by omega, HB5.out, HW5.out, HN3.out q hq2⟩
                  · have hqn : q < at' + n := by
                      apply Nat.lt_of_le_of_ne hq2
                      rintro rfl
                      exact heq HN2.out
                    have hB : ((s.extract q (q + kl)).toList == sk.toList) = false := by rw [ext_list HD.out, ByteArray.toList_eq, HKD.out]; simpa using heq
                    clear heq
                    go_wp2_with fail
                    go_roundg (at' + n - (q + 1))
                    case measure => omega
                    case rel => exact ⟨q + 1, by omega, by omega, rfl, by go_num, rfl⟩
            · have hii : ¬ (i : Int) < nk := by omega
              have hpi : (0 : Int) < ol := by omega
              clear hbw hocc hWx
              have hpn : 0 < ol := by omega
              go_wp2_with fail
              go_ret
              exact ⟨by rfl, HBR.out⟩
end Go.Proofs.YtebcdjlhmoffjaaDoor
namespace Go.Proofs.YtebcdjlhmoffjaaDoor.printParts
open Go.ChangeShapes Go.WideShapes Go.ChangeAt Go.RowKit
open Go.ChangeMaps (open_string shut_string)
set_option linter.unusedVariables false

set_option maxHeartbeats 800000 in
set_option maxRecDepth 100000 in
theorem lifted (os : Os) (started : os.Started) (H : Type) (enc : TypeId × Value → H) :
    ReturnsInHanded {} Tryd.checked os 3 .any (fun w args => (Rows.printPartsSpec.pre enc Tryd.prog Tryd.f3 Rows.printPartsRow.domain false w args ∧ laidMetH Tryd.prog Rows.printPartsRow.laid w) ∧ sizedMet enc Tryd.prog Tryd.f3 (OpenSpec.ofChange Rows.printPartsSpec) false w args)
      (Rows.printPartsSpec.post enc Tryd.prog Tryd.f3 false true false false) := by
  refine returnsInHanded_of_change_and (C := Tryd.checked) (X := fun w _ => laidMetH Tryd.prog Rows.printPartsRow.laid w) (fun _ _ _ hh h => h.of_heap hh) own started (by kernel_rfl) Tryd.func3
    (ChangeSpec.witness_shaped (enc := enc) (C := Tryd.checked) (os := os) (X := fun w _ => laidMetH Tryd.prog Rows.printPartsRow.laid w) false (World.doorLaid Tryd.prog 400 os) #[.agg #[.int .i64 0, .string ⟨#[]⟩, .int .i64 0, .slice none 0 0, .slice none 0 0], .string ByteArray.empty] 8 rfl (World.shaped_of_RefB (by kernel_rfl) (by kernel_rfl)) (by kernel_rfl) (by kernel_rfl) (by kernel_rfl) (door_met os _)) ?_
  intro W base args ds gs before hval0 hW _ hz hL _
  have hval : ∀ (j : Nat) t v, Tryd.f3.params[j]? = some t → args[j]? = some v → Value.okWide Tryd.prog W .any base t v := hval0
  have hW' := hW
  obtain ⟨p, q, hA0, hV, rfl, _, _⟩ := hW
  have hA : DataW.TrodAll enc Tryd.prog W 0 (fun _ => true) true Tryd.f3.params.toList args.toList ds p := hA0
  have hz' : (DataW.weightsEach Tryd.prog (Tryd.f3.params.toList ++ Rows.printPartsSpec.plain.varTypes Tryd.prog) (ds ++ gs)).all (· ≤ reachBytes) = true := hz
  rw [Tryd.params3] at hA hval hz'
  obtain ⟨v0, v1, d0, d1, p0, p1, rfl, rfl, rfl, h0, h1⟩ := trodAll_two hA
  obtain ⟨rfl, rfl⟩ := trodVars_none hV
  have hw : light 25 d0 ∧ light 9 d1 := by
    unfold light
    simp only [List.cons_append, List.nil_append, DataW.weightsEach, List.all_append, Bool.and_eq_true] at hz'
    exact ⟨hz'.1, hz'.2.1⟩
  obtain ⟨t, pn, pk, cn, ck, rfl, hT⟩ := expr_of (hval 0 25 v0 rfl rfl) h0 hw.1
  obtain ⟨a1, rfl, rfl, rfl, w1⟩ := open_string Tryd.underlying9 (hval 1 9 v1 rfl rfl) h1
  have hnl : a1.data.toList.length ≤ 281474976710656 := by
    have := hw.2
    unfold light at this
    simp only [DataW.weights, List.all_cons, List.all_nil, Bool.and_true, decide_eq_true_eq] at this
    exact Nat.le_trans this maxB
  clear hA0 hval0 hz
  simp only [List.append_nil] at hW'
  have hlt : ∀ y ∈ p0, y.block < W.heap.size := fun y hy => by simpa using hW'.lt y (by simp [hy])
  have hwk := parts_walk t a1.data.toList hnl (glob_of hL) hT
  rw [S_of] at hwk
  refine hwk.mono fun e W' ⟨he, hnx⟩ => ?_
  subst he
  have harg0 : DataW.Trod enc Tryd.prog W' 0 (fun b => decide (b < W.heap.size)) true 25 (.agg (cs5 t pn cn pk ck)) d0 p0 :=
    Below.trod laidOut (by kernel_rfl) (of_decide_eq_true (by kernel_rfl)) h0 hnx hlt
  refine ⟨_, rfl, _, _, _, [], _, [], hW', ?_, trodAll_mk2 harg0 (shut_string Tryd.underlying9 w1), rfl, hnx.frame _, fun h => by cases h⟩
  exact trodAll_mk1 (shut_bool Tryd.underlying4 _)

theorem over : Rows.PrintPartsSaid :=
  OpenClaim.holds_of_wide 3 Tryd.f3 rfl rfl rfl rfl rfl rfl rfl ⟨rfl, rfl, rfl, rfl, rfl⟩ rfl rfl rfl rfl rfl (by kernel_rfl) Tryd.func3 (by kernel_rfl)
    (of_decide_eq_true (by kernel_rfl)) (by unfold Func.isWrapper; first | (rw [if_pos (by decide +kernel)]; kernel_rfl) | (rw [if_neg (by decide +kernel)]; exact ⟨rfl, rfl⟩))
    (fun os started H enc _ => lifted os started H enc)

theorem proved : Rows.PrintPartsCardSaid :=
  Claim7.holds_tied_plain_at .later [] [.data, .data, .data] true Rows.printPartsCard.stood.harness true
    over (fun _ h => by cases h) (by kernel_rfl) (fun _ h => by cases h) printParts_row_tie rfl ⟨rfl, rfl⟩ (by kernel_rfl) rfl
    (fun f fn hf hfn => by
      obtain rfl : f = 3 := Option.some.inj ((show Tryd.prog.funcNamed Rows.printPartsRow.func = some 3 by kernel_rfl).symm.trans hf) |>.symm
      obtain rfl : fn = Tryd.f3 := (Option.some.inj (Tryd.func3.symm.trans hfn)).symm
      exact ⟨by kernel_rfl, fun j t ht => by
        rw [Tryd.params3] at ht
        have hm : t ∈ [25, 9] := by simpa using Array.mem_of_getElem? ht
        have hall : ([25, 9].all fun u => !Tryd.prog.wantsStandIn u) = true := by kernel_rfl
        exact (show Tryd.prog.wantsStandIn t = false by simpa using List.all_eq_true.1 hall t hm)⟩)
    (by kernel_rfl)
#print axioms proved
end Go.Proofs.YtebcdjlhmoffjaaDoor.printParts
