/-
  THE WALK OF tree.Size: how many parts a tree has.
-/
import Derived.Test.YtebcdjlhmoffjaaDoorMay
namespace Go.Proofs.YtebcdjlhmoffjaaDoor
open Go.RowKit Go.Shelf
set_option linter.unusedVariables false
set_option linter.unusedSimpArgs false
attribute [local go_sem] Oper.semAt_some
theorem kidsN_app (a b : List (Nat × Tr)) : kidsN (a ++ b) = kidsN a + kidsN b := by simp [kidsN]
def sizeV (e : Tr) : Int := if 1 + kidsN (po e 1) ≤ 100000 then ((1 + kidsN (po e 1) : Nat) : Int) else 100001
set_option maxRecDepth 100000 in
set_option maxHeartbeats 4000000 in
theorem size_in {n : Nat} (hn : 8 ≤ n) {P : Nat → Prop} {w : World} {e : Tr} {pn : Option Addr} {cn : Nat} {pk : Option Addr} {ck : Nat} (hP : ∀ b, P b → b < w.heap.size) (hE : TrIn P w e [.int .i64 e.kd, .string (S e.nm), .int .i64 e.nu, .slice pn e.ns.length cn, .slice pk e.ks.length ck]) (hD : ∀ x ∈ po e 1, x.1 ≤ 1000000 ∧ x.2.ks.length ≤ 1000000) :
    CallsIn Fence.wide n Tryd.prog 13 #[.agg (cs5 e pn cn pk ck)] w fun r w' => r = .returned (.int .i64 (sizeV e)) ∧ Below w.heap.size w w' := by
  have h1 : 1 ≤ n := by omega
  refine callsIn_of_wp_marks Tryd.func13 rfl trivial ?_ rfl
  simp only [Tryd.ntmps13, List.size_toArray, List.length_cons, List.length_nil, Nat.reduceAdd, Nat.reduceSub, Array.replicate_succ, Array.replicate_zero, List.push_toArray, List.append_toArray, List.nil_append, List.cons_append]
  unfold cs5
  gi_wp2_with fail
  refine ⟨trivial, (parts_call (n - 1) e pn cn pk ck _).mono ?_⟩
  rintro r w' ⟨rfl, rfl⟩
  unfold cs5
  gi_wp2_with fail
  have A2 := ((Hold.new (w.alloc (.cells #[.int .i64 e.kd, .string (S e.nm), .int .i64 e.nu, .slice pn e.ns.length cn, .slice pk e.ks.length ck] 25)) #[.int .i64 0] 3).alloc (.cells #[.int .i64 1] 3)).alloc (.cells #[.int .i64 e.kd, .string (S e.nm), .int .i64 e.nu, .slice pn e.ns.length cn, .slice pk e.ks.length ck] 25)
  have A3 := (Hold.new ((w.alloc (.cells #[.int .i64 e.kd, .string (S e.nm), .int .i64 e.nu, .slice pn e.ns.length cn, .slice pk e.ks.length ck] 25)).alloc (.cells #[.int .i64 0] 3)) #[.int .i64 1] 3).alloc (.cells #[.int .i64 e.kd, .string (S e.nm), .int .i64 e.nu, .slice pn e.ns.length cn, .slice pk e.ks.length ck] 25)
  have A4 := Hold.new (((w.alloc (.cells #[.int .i64 e.kd, .string (S e.nm), .int .i64 e.nu, .slice pn e.ns.length cn, .slice pk e.ks.length ck] 25)).alloc (.cells #[.int .i64 0] 3)).alloc (.cells #[.int .i64 1] 3)) #[.int .i64 e.kd, .string (S e.nm), .int .i64 e.nu, .slice pn e.ns.length cn, .slice pk e.ks.length ck] 25
  have AB : Below w.heap.size w ((((w.alloc (.cells #[.int .i64 e.kd, .string (S e.nm), .int .i64 e.nu, .slice pn e.ns.length cn, .slice pk e.ks.length ck] 25)).alloc (.cells #[.int .i64 0] 3)).alloc (.cells #[.int .i64 1] 3)).alloc (.cells #[.int .i64 e.kd, .string (S e.nm), .int .i64 e.nu, .slice pn e.ns.length cn, .slice pk e.ks.length ck] 25)) := ((((Below.refl _ w).alloc (Nat.le_refl _) _).alloc (by simp) _).alloc (by simp; omega) _).alloc (by simp; omega) _
  have AZ : (((((w.alloc (.cells #[.int .i64 e.kd, .string (S e.nm), .int .i64 e.nu, .slice pn e.ns.length cn, .slice pk e.ks.length ck] 25)).alloc (.cells #[.int .i64 0] 3)).alloc (.cells #[.int .i64 1] 3)).alloc (.cells #[.int .i64 e.kd, .string (S e.nm), .int .i64 e.nu, .slice pn e.ns.length cn, .slice pk e.ks.length ck] 25))).heap.size = w.heap.size + 1 + 1 + 1 + 1 := by simp
  simp only [World.size_alloc] at A2 A3 A4
  generalize ((((w.alloc (.cells #[.int .i64 e.kd, .string (S e.nm), .int .i64 e.nu, .slice pn e.ns.length cn, .slice pk e.ks.length ck] 25)).alloc (.cells #[.int .i64 0] 3)).alloc (.cells #[.int .i64 1] 3)).alloc (.cells #[.int .i64 e.kd, .string (S e.nm), .int .i64 e.nu, .slice pn e.ns.length cn, .slice pk e.ks.length ck] 25)) = W0 at *
  obtain ⟨bR, hbR⟩ : ∃ b, b = w.heap.size + 1 := ⟨_, rfl⟩
  obtain ⟨bS, hbS⟩ : ∃ b, b = w.heap.size + 1 + 1 := ⟨_, rfl⟩
  obtain ⟨bP, hbP⟩ : ∃ b, b = w.heap.size + 1 + 1 + 1 := ⟨_, rfl⟩
  rw [← hbR] at A2
  rw [← hbS] at A3
  rw [← hbP] at A4
  rw [← hbP, ← hbS, ← hbR]
  have o1 : w.heap.size < bR := by omega
  have o3 : bR < bS := by omega
  have o4 : bS < bP := by omega
  have o5 : bP < W0.heap.size := by omega
  clear hbR hbS hbP AZ
  have HWE := hide AB
  refine range_cells h1 (gf := 34) (lb := #[.pointer (some ⟨bP, 0, none⟩)]) rfl (enters_of Tryd.func34 (by kernel_rfl) rfl)
    (parts_it (n := n - 1) (by omega) hP hE hD A4.lt A4 AB) KpB.trans (KpB.put AB.size A4.lt) (fun _ => rfl)
    (fun pre W => 1 + kidsN (pre.map bareP) ≤ 100000 ∧ Hold bS #[.int .i64 ((1 + kidsN (pre.map bareP) : Nat) : Int)] 3 W ∧ Hold bR #[.int .i64 0] 3 W ∧ Below w.heap.size w W ∧ W0.heap.size ≤ W.heap.size)
    (fun pre W => 100000 < 1 + kidsN (pre.map bareP) ∧ Hold bR #[.int .i64 100001] 3 W ∧ Below w.heap.size w W ∧ W0.heap.size ≤ W.heap.size)
    (fun s A B row hs hg hr => ⟨hs.1, own_hold hs.2.1 hg hr (by omega), own_hold hs.2.2.1 hg hr (by omega), own_below hs.2.2.2.1 hg hr (by omega) (by omega), Nat.le_trans hs.2.2.2.2 hg.size⟩)
    (fun s A B row hs hg hr => ⟨hs.1, own_hold hs.2.1 hg hr (by omega), own_below hs.2.2.1 hg hr (by omega) (by omega), Nat.le_trans hs.2.2.2 hg.size⟩)
    ⟨by show 1 + kidsN [] ≤ 100000; simp [kidsN], A3, A2, AB, Nat.le_refl _⟩
    (fun x W => { tmps := #[.agg #[.int .i64 e.kd, .string (S e.nm), .int .i64 e.nu, .slice pn e.ns.length cn, .slice pk e.ks.length ck], .pointer (some ⟨w.heap.size, 0, none⟩), .pointer (some ⟨bR, 0, none⟩), .pointer (some ⟨bS, 0, none⟩), undef, .pointer (some ⟨W.heap.size, 0, none⟩), .agg #[.int .i64 e.kd, .string (S e.nm), .int .i64 e.nu, .slice pn e.ns.length cn, .slice pk e.ks.length ck], .func (.func 34) #[] #[.pointer (some ⟨bP, 0, none⟩)], .int .i64 x.1.lv, .agg #[.int .i64 x.1.t.kd, .string (S x.1.t.nm), .int .i64 x.1.t.nu, .slice x.1.pn x.1.t.ns.length x.1.cn, .slice x.1.pk x.1.t.ks.length x.1.ck], undef, undef, undef, undef, undef, undef, undef, undef], defers := [] })
    (fun x W => W.alloc (.cells #[.int .i64 x.1.t.kd, .string (S x.1.t.nm), .int .i64 x.1.t.nu, .slice x.1.pn x.1.t.ns.length x.1.cn, .slice x.1.pk x.1.t.ks.length x.1.ck] 25))
    (fun x W hWs => ⟨World.grownBy_alloc W _ none, ?_⟩) ?_ ?_ ?_ ?_
  · exact ⟨(Below.refl _ W).alloc (by omega) _, Below.heap_alloc W _ bP (by omega), fun k C t f hb hk => (Below.heap_alloc W _ k (Array.getElem?_eq_some_iff.1 hk).1).trans hk⟩
  · intro ld x W K hK
    unfold encP cs5
    gi_wp2
    exact hK
  · rintro ld pre ⟨⟨lv, t, qn, dn, qk, dk⟩, hx⟩ W X hWs hXs hXb ⟨hgo, hS, hR, hB, hsz⟩ hlen
    obtain ⟨hIn, hlv9, hbn⟩ := hx
    dsimp only at hIn hlv9 hbn hXs hXb ⊢
    have hpt : Hold W.heap.size #[.int .i64 t.kd, .string (S t.nm), .int .i64 t.nu, .slice qn t.ns.length dn, .slice qk t.ks.length dk] 25 X := (hXb W.heap.size (by omega)).trans (Hold.new W _ 25)
    have c4 := hpt.cell 4
    simp only [List.getElem?_toArray, List.getElem?_cons_succ, List.getElem?_cons_zero] at c4
    have sS := hS.cell 0
    have fS := hS.frozen 0
    have sR := hR.cell 0
    have fR := hR.frozen 0
    simp only [List.getElem?_toArray, List.getElem?_cons_succ, List.getElem?_cons_zero] at sS sR
    obtain ⟨Y, hY⟩ : ∃ Y, Y = X.setCell ⟨bS, 0, none⟩ (.int .i64 (1 + (kidsN (pre.map bareP) : Int) + (t.ks.length : Int))) := ⟨_, rfl⟩
    have kY : KP (fun k => k < X.heap.size ∧ ¬ (k = bS ∨ k = bR)) X Y := by rw [hY]; exact KP.setCell _ _ _ _ (fun h => h.2 (.inl rfl))
    have bY : Below w.heap.size w Y := by rw [hY]; exact hB.setCell (p := ⟨bS, 0, none⟩) (by show w.heap.size ≤ bS; omega) _
    have hSY : Hold bS #[.int .i64 (1 + (kidsN (pre.map bareP) : Int) + (t.ks.length : Int))] 3 Y := by rw [hY]; have := hS.set 0 (.int .i64 (1 + (kidsN (pre.map bareP) : Int) + (t.ks.length : Int))); simpa using this
    have hRY : Hold bR #[.int .i64 0] 3 Y := by rw [hY]; exact hR.other (by omega) _ _
    have gR : (X.setCell ⟨bS, 0, none⟩ (.int .i64 (1 + (kidsN (pre.map bareP) : Int) + (t.ks.length : Int)))).frozen? ⟨bR, 0, none⟩ = false := by rw [← hY]; exact hRY.frozen 0
    have gS : (X.setCell ⟨bS, 0, none⟩ (.int .i64 (1 + (kidsN (pre.map bareP) : Int) + (t.ks.length : Int)))).cell? ⟨bR, 0, none⟩ = some (.int .i64 0) := by rw [← hY]; exact hRY.cell 0
    have HI0 : Hid (∀ y : PN P w, bareP y = (lv, t) → kidsN ((pre ++ [y]).map bareP) = kidsN (pre.map bareP) + t.ks.length) := by
      intro y hy
      rw [List.map_append, kidsN_app, List.map_cons, List.map_nil, hy]; simp [kidsN]
    have HII := hide (HI0.out ⟨⟨lv, t, qn, dn, qk, dk⟩, hIn, hlv9, hbn⟩ rfl)
    clear HI0
    have HXS : Hid (W0.heap.size ≤ X.heap.size) := hsz
    have HKY := hide kY
    have HBY := hide bY
    have HSY := hide hSY
    have HRY := hide hRY
    have hgo' := hgo
    clear kY bY hSY hRY hS hR hpt hXb
    by_cases hc : 1 + kidsN (pre.map bareP) + t.ks.length ≤ 100000
    · have hci : ¬ (100000 : Int) < 1 + (kidsN (pre.map bareP) : Int) + t.ks.length := by omega
      gi_wp2_with fail
      rw [← hY]
      have kW := HKY.out
      refine ⟨kf_of kW (fun k h => by omega), kp_of kW (fun k h => by omega) (by have := HXS.out; have := HWE.out.size; omega) (by have := HXS.out; omega), ?_, ?_, HRY.out, HBY.out, ?_⟩
      · rw [HII.out]; omega
      · have h2 := HSY.out
        rw [HII.out]
        have h3 : ((1 + (kidsN (pre.map bareP) + t.ks.length) : Nat) : Int) = 1 + (kidsN (pre.map bareP) : Int) + t.ks.length := by omega
        first | (rw [h3]; exact h2) | (rw [Int.natCast_add, ← Int.add_assoc]; exact h2)
      · have := kW.size; have := HXS.out; omega
    · have hci : (100000 : Int) < 1 + (kidsN (pre.map bareP) : Int) + t.ks.length := by omega
      gi_wp2_with fail
      rw [← hY]
      have kZ := HKY.out.trans (KP.setCell (P := fun k => k < X.heap.size ∧ ¬ (k = bS ∨ k = bR)) Y bR 0 (.int .i64 100001) (fun h => h.2 (.inr rfl)))
      refine ⟨kf_of kZ (fun k h => by omega), ?_, ?_, ?_, ?_⟩
      · rw [HII.out]; omega
      · have := HRY.out.set 0 (.int .i64 100001); simpa using this
      · exact HBY.out.setCell (p := ⟨bR, 0, none⟩) (by show w.heap.size ≤ bR; omega) _
      · have := kZ.size; have := HXS.out; omega
  · rintro ys W hS ⟨hgo, hSz, hR, hB, hsz⟩ hK
    rw [hS] at hgo hSz
    have hcast : ((1 + kidsN (po e 1) : Nat) : Int) = 1 + (kidsN (po e 1) : Int) := by omega
    have HV : Hid (sizeV e = 1 + (kidsN (po e 1) : Int)) := by show sizeV e = _; unfold sizeV; rw [if_pos hgo]; omega
    rw [hcast] at hSz
    have c2 := hR.cell 0
    have f2 := hR.frozen 0
    have c3 := hSz.cell 0
    simp only [List.getElem?_toArray, List.getElem?_cons_succ, List.getElem?_cons_zero] at c2 c3
    clear hS hcast
    gi_wp2
    have hK' := (KeepsOthers.setCell W ⟨bR, 0, none⟩ (.int .i64 (1 + (kidsN (po e 1) : Int)))).same W0.heap.size _ hK rfl
    have H2 := hold_put (hR.set 0 (.int .i64 (1 + (kidsN (po e 1) : Int)))) (.deferred none) hK' rfl
    have B2 := (hB.setCell (p := ⟨bR, 0, none⟩) (by show w.heap.size ≤ bR; omega) (.int .i64 (1 + (kidsN (po e 1) : Int)))).trans (belowK_b (w := w) (Nat.le_refl _) _ W0.heap.size _ (.deferred none) (by omega) hK' rfl rfl)
    have e1 := H2.cell 0
    simp at e1
    refine ⟨by simp, .inl ⟨_, _, rfl, run_takeDeferred hK', ?_⟩⟩
    refine ⟨.int .i64 (1 + (kidsN (po e 1) : Int)), ?_, ?_⟩
    · simp [results, Tryd.f13, go_sem, e1]
    · exact ⟨by rw [HV.out], B2⟩
  · rintro pre W ⟨r, hr⟩ ⟨hgo, hR, hB, hsz⟩ hK
    gi_wp2
    have e1 := (hold_put hR (.deferred none) hK rfl).cell 0
    simp at e1
    have B2 := hB.trans (belowK_b (w := w) (Nat.le_refl _) _ W0.heap.size _ (.deferred none) (by omega) hK rfl rfl)
    refine ⟨by simp, .inl ⟨_, _, rfl, run_takeDeferred hK, ?_⟩⟩
    refine ⟨.int .i64 100001, ?_, ?_⟩
    · simp [results, Tryd.f13, go_sem, e1]
    · exact ⟨by unfold sizeV; rw [← hr, kidsN_app, if_neg (by omega)], B2⟩
/-- tree.Size. -/
theorem size_tree {P : Nat → Prop} {w : World} {e : Tr} {pn : Option Addr} {cn : Nat} {pk : Option Addr} {ck : Nat} (hP : ∀ b, P b → b < w.heap.size) (hE : TrIn P w e [.int .i64 e.kd, .string (S e.nm), .int .i64 e.nu, .slice pn e.ns.length cn, .slice pk e.ks.length ck]) (hD : ∀ x ∈ po e 1, x.1 ≤ 1000000 ∧ x.2.ks.length ≤ 1000000) :
    Calls Tryd.prog 13 #[.agg (cs5 e pn cn pk ck)] w fun r w' => r = .returned (.int .i64 (sizeV e)) ∧ Below w.heap.size w w' := callsIn_wide.1 (size_in (n := 8) (Nat.le_refl _) hP hE hD)
end Go.Proofs.YtebcdjlhmoffjaaDoor
