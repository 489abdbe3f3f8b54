/-
  THE WALK OF dawdlerref03.put.
-/
import Derived.Test.YtnifnbndkbmdcaaDoorRefJ
namespace Go.Proofs.YtnifnbndkbmdcaaDoor
open Go.RowKit
set_option linter.unusedVariables false
/-- append(xs, ys...), at the operation. -/
theorem wp_spread {w : World} {o : Oper} {a : Act} {K : Act → World → Prop} {Q : Exit → Act → World → Prop} (s x : Operand) (t e : TypeId) (i : TypeInfo) (z : Value) (size bytes : Nat)
    (ht : Tryd.prog.underlying t = some (.slice e)) (hi : Tryd.prog.info? e = some i) (hz : i.zero = some z) (hsize : i.size = size) (hby : i.bytes = bytes) (hzs : z.cells.size = size) (hsz : 0 < size)
    (hno : ∀ (ty : TypeId) (pa : Option Addr) (n c : Nat), n ≤ c → (Builtin.append_ #[t, t] ty #[.slice pa n c, .slice none 0 0]).run Tryd.prog w = .ok (.slice pa n c) w)
    (ho : o.op = .call { callee := .builtin .append, args := #[s, x], argTypes := #[t, t] })
    (base : Nat) (pa : Option Addr) (n cp : Nat) (xs : List Value) (hs : a.eval s = .slice pa n cp) (hown : w.ownsRow base e size (.slice pa n cp) n xs)
    (p : Option Addr) (m c : Nat) (news : List Value) (hx : a.eval x = .slice p m c) (hl : news.length = m * size)
    (hsrc : (p = none ∧ m = 0 ∧ c = 0) ∨ ∃ ad, p = some ad ∧ ∀ j u, news[j]? = some u → w.cell? (ad.add j) = some u) (h1 : ∀ u ∈ news, u.oneCell' = true)
    (hb : n + m ≤ 10000000) (hbt : bytes ≤ 64) (hbase : base ≤ w.heap.size)
    (h : ∀ pa' cp' w', w'.ownsRow base e size (.slice pa' (n + m) cp') (n + m) (xs ++ news) → w.grownBy w' (Value.slice pa n cp).ownBlock → K (a.put o.dst (.slice pa' (n + m) cp')) w') :
    Oper.wp Tryd.prog o a w K Q := by
  have hnc : n ≤ cp := by
    rcases hown.2 with ⟨hv, h0⟩ | ⟨g, cap, cur, hv, _, _, h1, _⟩
    · cases hv; omega
    · cases hv; exact h1
  rcases hsrc with ⟨rfl, rfl, rfl⟩ | ⟨ad, rfl, hc⟩
  · have hn0 : news = [] := List.length_eq_zero_iff.1 (by omega)
    subst hn0
    unfold Oper.wp execOp
    simp only [ho, resolve, invoke, builtin, Sem.run_bind, Sem.run_pure, Result.andThen_ok, List.map_toArray, List.map_cons, List.map_nil, hs, hx, hno o.type pa n cp hnc]
    exact h pa cp w (by rw [List.append_nil]; exact hown) ⟨rfl, rfl, rfl, Nat.le_refl _, fun _ _ _ => rfl⟩
  · have hbb : (n + m) * bytes ≤ 140737488355328 := by
      have : (n + m) * bytes ≤ 10000000 * 64 := Nat.mul_le_mul hb hbt
      omega
    obtain ⟨v', w', hr, h2, h3, _, _⟩ := run_append_own_at (P := Tryd.prog) w base t o.type e i z size bytes ht hi hz hsize hby hzs hsz _ n xs hown ad m c news hl hc h1 (by unfold maxLen; omega) hbb hbase
    obtain ⟨pa', cp', rfl⟩ := slice_of h2
    unfold Oper.wp execOp
    simp only [ho, resolve, invoke, builtin, Sem.run_bind, Sem.run_pure, Result.andThen_ok, List.map_toArray, List.map_cons, List.map_nil, hs, hx, hr]
    exact h pa' cp' w' h2 h3
theorem tcs_one (o : List Tok) : ∀ u ∈ tcs o, u.oneCell' = true := by
  intro u hu
  obtain ⟨y, _, hy⟩ := List.mem_flatMap.1 hu
  simp only [tc, List.mem_cons, List.not_mem_nil, or_false] at hy
  rcases hy with rfl | rfl | rfl | rfl | rfl <;> rfl
set_option maxRecDepth 100000 in
set_option maxHeartbeats 16000000 in
theorem put_ref (c : List UInt8) (t : Tok) (o : List Tok) (st : List Blk) (po : Option Addr) (co : Nat) (pi : Option Addr) (ci : Nat) (w : World) (hR : RS w po co pi ci o st) (hl : o.length ≤ 1000000) :
    Calls Tryd.prog 24 #[.agg #[.slice po o.length co, .slice pi st.length ci], .string (S c), tv t] w fun e w' => ∃ po' co', e = .returned (.agg #[.slice po' (o.length + 1) co', .slice pi st.length ci]) ∧ RS w' po' co' pi ci (o ++ [⟨4, c, 0, t.ln, t.co⟩]) st ∧ Below w.heap.size w w' ∧ Fr w po' := by
  have HRR := hide hR
  obtain ⟨i0, hi, hz0, hz1, hz2⟩ := info_parts info32
  have h0a := Hold.new w #[.slice po o.length co, .slice pi st.length ci] 50
  have h1a := TB.new (w.alloc (.cells #[.slice po o.length co, .slice pi st.length ci] 50)) t
  have h2a := Hold.new ((w.alloc (.cells #[.slice po o.length co, .slice pi st.length ci] 50)).alloc (.cells #[.int .i64 t.kd, .string (S t.tx), .int .i64 t.nu, .int .i64 t.ln, .int .i64 t.co] 32)) #[.slice none 0 0, .slice none 0 0] 50
  have H0 := (h0a.alloc (.cells #[.int .i64 t.kd, .string (S t.tx), .int .i64 t.nu, .int .i64 t.ln, .int .i64 t.co] 32)).alloc (.cells #[.slice none 0 0, .slice none 0 0] 50)
  have H1 := Hold.alloc h1a (.cells #[.slice none 0 0, .slice none 0 0] 50)
  have B1 : Below w.heap.size w (((w.alloc (.cells #[.slice po o.length co, .slice pi st.length ci] 50)).alloc (.cells #[.int .i64 t.kd, .string (S t.tx), .int .i64 t.nu, .int .i64 t.ln, .int .i64 t.co] 32)).alloc (.cells #[.slice none 0 0, .slice none 0 0] 50)) := (((Below.refl _ w).alloc (Nat.le_refl _) _).alloc (by simp) _).alloc (by simp; omega) _
  have hZ : (((w.alloc (.cells #[.slice po o.length co, .slice pi st.length ci] 50)).alloc (.cells #[.int .i64 t.kd, .string (S t.tx), .int .i64 t.nu, .int .i64 t.ln, .int .i64 t.co] 32)).alloc (.cells #[.slice none 0 0, .slice none 0 0] 50)).heap.size = w.heap.size + 1 + 1 + 1 := by simp
  simp only [World.size_alloc] at H1 h2a
  clear hR h0a h1a
  unfold tv
  go_enter Tryd.func24, Tryd.ntmps24
  go_wp2_with fail
  generalize (((w.alloc (.cells #[.slice po o.length co, .slice pi st.length ci] 50)).alloc (.cells #[.int .i64 t.kd, .string (S t.tx), .int .i64 t.nu, .int .i64 t.ln, .int .i64 t.co] 32)).alloc (.cells #[.slice none 0 0, .slice none 0 0] 50)) = V at *
  have HZ := hide hZ
  have HB1 := hide B1
  have HR1 := hide (HRR.out.below B1)
  clear hZ B1
  have HH0 := hide H0
  have HH1 := hide H1
  have HH2 := hide h2a
  have c0 : V.cell? ⟨w.heap.size, 0, none⟩ = some (.slice po o.length co) := H0.cell 0
  have c3 : V.cell? ⟨w.heap.size + 1, 3, none⟩ = some (.int .i64 t.ln) := H1.cell 3
  have c4 : V.cell? ⟨w.heap.size + 1, 4, none⟩ = some (.int .i64 t.co) := H1.cell 4
  have n0 := World.new_ne V _ c0
  have n3 := World.new_ne V _ c3
  have n4 := World.new_ne V _ c4
  have hbn : Hid (Below V.heap.size V V) := Below.refl _ _
  have HDR : Hid (∀ (n : Nat) (W : World), Below n W W.drew) := fun n W => ⟨rfl, rfl, rfl, Nat.le_refl _, fun _ _ => rfl⟩
  obtain ⟨T, hT⟩ : ∃ T : Obj, T = .cells #[.int .i64 4, .string (S c), .int .i64 0, .int .i64 t.ln, .int .i64 t.co] 32 := ⟨_, rfl⟩
  have HSRC : Hid (∀ W : World, Below V.heap.size V W → (po = none ∧ o.length = 0 ∧ co = 0) ∨ ∃ ad, po = some ad ∧ ∀ j u, (tcs o)[j]? = some u → W.cell? (ad.add j) = some u) := fun W hW => tmem_src (HR1.out.out.below (Nat.le_refl _) hW) rfl HR1.out.no
  have HA : Hid (Below V.heap.size V ((V.alloc (.cells #[] 32)).drew) ∧ ((V.alloc (.cells #[] 32)).drew).ownsRow V.heap.size 32 5 (.slice (some ⟨V.heap.size, 0, none⟩) 0 0) 0 []) := by
    have b : Below V.heap.size V (V.alloc (.cells #[] 32)) := (Below.refl _ V).alloc (Nat.le_refl _) _
    refine ⟨b.trans (HDR.out _ _), rfl, .inr ⟨V.heap.size, 0, #[], rfl, Nat.le_refl _, Hold.new V #[] 32, Nat.le_refl _, Nat.zero_le _, rfl, rfl⟩⟩
  have HBB : Hid (Below V.heap.size V (((V.alloc (.cells #[] 32)).alloc T).drew) ∧ (((V.alloc (.cells #[] 32)).alloc T).drew).ownsRow V.heap.size 32 5 (.slice (some ⟨V.heap.size, 0, none⟩) 0 0) 0 [] ∧ Hold (V.heap.size + 1) #[.int .i64 4, .string (S c), .int .i64 0, .int .i64 t.ln, .int .i64 t.co] 32 (((V.alloc (.cells #[] 32)).alloc T).drew)) := by
    have b : Below V.heap.size V ((V.alloc (.cells #[] 32)).alloc T) := ((Below.refl _ V).alloc (Nat.le_refl _) _).alloc (by simp) _
    have k := Hold.new (V.alloc (.cells #[] 32)) #[.int .i64 4, .string (S c), .int .i64 0, .int .i64 t.ln, .int .i64 t.co] 32
    rw [World.size_alloc, ← hT] at k
    exact ⟨b.trans (HDR.out _ _), ⟨rfl, .inr ⟨V.heap.size, 0, #[], rfl, Nat.le_refl _, (Hold.new V #[] 32).alloc T, Nat.le_refl _, Nat.zero_le _, rfl, rfl⟩⟩, k⟩
  have HCC : Hid (Below V.heap.size V (((V.alloc T).alloc (.cells #[] 32)).drew) ∧ (((V.alloc T).alloc (.cells #[] 32)).drew).ownsRow V.heap.size 32 5 (.slice (some ⟨V.heap.size + 1, 0, none⟩) 0 0) 0 [] ∧ Hold V.heap.size #[.int .i64 4, .string (S c), .int .i64 0, .int .i64 t.ln, .int .i64 t.co] 32 (((V.alloc T).alloc (.cells #[] 32)).drew)) := by
    have b : Below V.heap.size V ((V.alloc T).alloc (.cells #[] 32)) := ((Below.refl _ V).alloc (Nat.le_refl _) _).alloc (by simp) _
    have k := Hold.new (V.alloc T) #[] 32
    rw [World.size_alloc] at k
    have k2 := Hold.new V #[.int .i64 4, .string (S c), .int .i64 0, .int .i64 t.ln, .int .i64 t.co] 32
    rw [← hT] at k2
    exact ⟨b.trans (HDR.out _ _), ⟨rfl, .inr ⟨V.heap.size + 1, 0, #[], rfl, by omega, k, Nat.le_refl _, Nat.zero_le _, rfl, rfl⟩⟩, k2.alloc _⟩
  have HTT : Hid (Below V.heap.size V ((V.alloc T).drew)) := ((Below.refl _ V).alloc (Nat.le_refl _) _).trans (HDR.out _ _)
  have HX1 := hide (fun (W : World) (k : Nat) (hrow : W.ownsRow V.heap.size 32 5 (.slice (some ⟨k, 0, none⟩) 0 0) 0 []) (hW : Below V.heap.size V W) o' a K Q s x ho hs hx => @wp_spread W o' a K Q s x 22 32 i0 _ 5 48 Tryd.underlying22 hi hz0 hz1 hz2 rfl (by omega) (none22 _) ho V.heap.size (some ⟨k, 0, none⟩) 0 0 [] hs hrow po o.length co (tcs o) hx (tcs_len o) (HSRC.out W hW) (tcs_one o) (by omega) (by omega) hW.size)
  have HX2 := hide (fun (W : World) (k : Nat) (pa : Option Addr) (cp : Nat) (hrow : W.ownsRow V.heap.size 32 5 (.slice pa o.length cp) o.length (tcs o)) (hW : Below V.heap.size V W) (hk : Hold k #[.int .i64 4, .string (S c), .int .i64 0, .int .i64 t.ln, .int .i64 t.co] 32 W) o' a K Q s x ho hs hx => @wp_spread W o' a K Q s x 22 32 i0 _ 5 48 Tryd.underlying22 hi hz0 hz1 hz2 rfl (by omega) (none22 _) ho V.heap.size pa o.length cp (tcs o) hs hrow (some ⟨k, 0, none⟩) 1 1 [.int .i64 4, .string (S c), .int .i64 0, .int .i64 t.ln, .int .i64 t.co] hx rfl (.inr ⟨_, rfl, World.news_of_block hk⟩) (by simp [Value.oneCell']) (by omega) (by omega) hW.size)
  have HF : Hid (∀ W : World, Below V.heap.size V W → W.cell? ⟨w.heap.size, 0, none⟩ = some (.slice po o.length co) ∧ W.cell? ⟨w.heap.size + 1, 3, none⟩ = some (.int .i64 t.ln) ∧ W.cell? ⟨w.heap.size + 1, 4, none⟩ = some (.int .i64 t.co)) := fun W hW => ⟨(HH0.out.below hW HH0.out.lt).cell 0, (HH1.out.below hW HH1.out.lt).cell 3, (HH1.out.below hW HH1.out.lt).cell 4⟩
  have HG : Hid (∀ W : World, Below V.heap.size V W → W.cell? ⟨w.heap.size, 0, none⟩ = some (.slice po o.length co) ∧ W.cell? ⟨w.heap.size, 1, none⟩ = some (.slice pi st.length ci) ∧ W.frozen? ⟨w.heap.size, 0, none⟩ = false ∧ W.cell? ⟨w.heap.size + 1 + 1, 0, none⟩ = some (.slice none 0 0) ∧ W.cell? ⟨w.heap.size + 1 + 1, 1, none⟩ = some (.slice none 0 0) ∧ W.frozen? ⟨w.heap.size + 1 + 1, 0, none⟩ = false ∧ W.frozen? ⟨w.heap.size + 1 + 1, 1, none⟩ = false) := fun W hW => ⟨(HH0.out.below hW HH0.out.lt).cell 0, (HH0.out.below hW HH0.out.lt).cell 1, (HH0.out.below hW HH0.out.lt).frozen 0, (HH2.out.below hW HH2.out.lt).cell 0, (HH2.out.below hW HH2.out.lt).cell 1, (HH2.out.below hW HH2.out.lt).frozen 0, (HH2.out.below hW HH2.out.lt).frozen 1⟩
  have HFIN : Hid (∀ (w3 : World) (pa3 : Option Addr) (cp3 : Nat), w3.ownsRow V.heap.size 32 5 (.slice pa3 (o.length + 1) cp3) (o.length + 1) (tcs o ++ [.int .i64 4, .string (S c), .int .i64 0, .int .i64 t.ln, .int .i64 t.co]) → Below V.heap.size V w3 →
      RS (((w3.setCell ⟨w.heap.size, 0, none⟩ (.slice pa3 (o.length + 1) cp3)).setCell ⟨w.heap.size + 1 + 1, 0, none⟩ (.slice pa3 (o.length + 1) cp3)).setCell ⟨w.heap.size + 1 + 1, 1, none⟩ (.slice pi st.length ci)) pa3 cp3 pi ci (o ++ [⟨4, c, 0, t.ln, t.co⟩]) st ∧ Below w.heap.size w (((w3.setCell ⟨w.heap.size, 0, none⟩ (.slice pa3 (o.length + 1) cp3)).setCell ⟨w.heap.size + 1 + 1, 0, none⟩ (.slice pa3 (o.length + 1) cp3)).setCell ⟨w.heap.size + 1 + 1, 1, none⟩ (.slice pi st.length ci)) ∧ Fr w pa3) := by
    intro w3 pa3 cp3 hown3 b3
    have hB3 : Below w.heap.size w w3 := HB1.out.trans (b3.mono (by rw [HZ.out]; omega))
    have hBf := ((hB3.setCell (p := ⟨w.heap.size, 0, none⟩) (Nat.le_refl _) (.slice pa3 (o.length + 1) cp3)).setCell (p := ⟨w.heap.size + 1 + 1, 0, none⟩) (by simp; omega) (.slice pa3 (o.length + 1) cp3)).setCell (p := ⟨w.heap.size + 1 + 1, 1, none⟩) (by simp; omega) (.slice pi st.length ci)
    have k0 := HH0.out.below b3 HH0.out.lt
    have k2 := HH2.out.below b3 HH2.out.lt
    have r1 := row_other hown3 k0 (by decide) 0 (.slice pa3 (o.length + 1) cp3)
    have k3 := k2.other (b' := w.heap.size) (by omega) 0 (.slice pa3 (o.length + 1) cp3)
    have r2 := row_other r1 k3 (by decide) 0 (.slice pa3 (o.length + 1) cp3)
    have r3 := row_other r2 (k3.set 0 (.slice pa3 (o.length + 1) cp3)) (by decide) 1 (.slice pi st.length ci)
    rw [show tcs o ++ [.int .i64 4, .string (S c), .int .i64 0, .int .i64 t.ln, .int .i64 t.co] = tcs (o ++ [⟨4, c, 0, t.ln, t.co⟩]) from (tcs_snoc o ⟨4, c, 0, t.ln, t.co⟩).symm] at r3
    have hR2 := HRR.out.below hBf
    have hfr : Fr w pa3 := by
      rcases hown3.2 with ⟨hv, h0⟩ | ⟨g', cap, cur, hv, hb, _, h1, _⟩
      · cases hv
      · cases hv; exact ⟨g', rfl, by have := HZ.out; omega⟩
    exact ⟨⟨(row_tmem r3).1, hR2.opn, hR2.cap, fun h => absurd h hfr.ne, hR2.ni⟩, hBf, hfr⟩
  clear hbn H0 H1 h2a n0 n3 n4
  subst hT
  refine wp_region_noPanic ?_
  refine region_J 14 (N := 12) (S := (fun W => W.cell? ⟨w.heap.size, 0, none⟩ = some (.slice po o.length co) ∧ W.cell? ⟨w.heap.size + 1, 3, none⟩ = some (.int .i64 t.ln) ∧ W.cell? ⟨w.heap.size + 1, 4, none⟩ = some (.int .i64 t.co))) (by kernel_rfl) (by kernel_rfl) ?_
  have hS0 : (fun W => W.cell? ⟨w.heap.size, 0, none⟩ = some (.slice po o.length co) ∧ W.cell? ⟨w.heap.size + 1, 3, none⟩ = some (.int .i64 t.ln) ∧ W.cell? ⟨w.heap.size + 1, 4, none⟩ = some (.int .i64 t.co)) V.drew := ⟨c0, c3, c4⟩
  refine take_J (i := 1) (.pointer (some ⟨w.heap.size, 0, none⟩)) rfl (by kernel_rfl) (by kernel_rfl) (by kernel_rfl) (by kernel_rfl) (fun _ _ _ h => h) (Or.inl ⟨by rfl, fun W hW => by obtain ⟨s0, s3, s4⟩ := hW; go_simp⟩) hS0 ?_
  refine take_J (i := 2) (.slice po o.length co) rfl (by kernel_rfl) (by kernel_rfl) (by kernel_rfl) (by kernel_rfl) (fun _ _ _ h => h) (Or.inl ⟨by rfl, fun W hW => by obtain ⟨s0, s3, s4⟩ := hW; go_simp⟩) hS0 ?_
  refine take_J (i := 4) (.string (S c)) rfl (by kernel_rfl) (by kernel_rfl) (by kernel_rfl) (by kernel_rfl) (fun _ _ _ h => h) (Or.inl ⟨by rfl, fun W hW => by obtain ⟨s0, s3, s4⟩ := hW; go_simp⟩) hS0 ?_
  refine take_J (i := 5) (.pointer (some ⟨w.heap.size + 1, 3, none⟩)) rfl (by kernel_rfl) (by kernel_rfl) (by kernel_rfl) (by kernel_rfl) (fun _ _ _ h => h) (Or.inl ⟨by rfl, fun W hW => by obtain ⟨s0, s3, s4⟩ := hW; go_simp⟩) hS0 ?_
  refine take_J (i := 6) (.int .i64 t.ln) rfl (by kernel_rfl) (by kernel_rfl) (by kernel_rfl) (by kernel_rfl) (fun _ _ _ h => h) (Or.inl ⟨by rfl, fun W hW => by obtain ⟨s0, s3, s4⟩ := hW; go_simp⟩) hS0 ?_
  refine take_J (i := 7) (.pointer (some ⟨w.heap.size + 1, 4, none⟩)) rfl (by kernel_rfl) (by kernel_rfl) (by kernel_rfl) (by kernel_rfl) (fun _ _ _ h => h) (Or.inl ⟨by rfl, fun W hW => by obtain ⟨s0, s3, s4⟩ := hW; go_simp⟩) hS0 ?_
  refine take_J (i := 8) (.int .i64 t.co) rfl (by kernel_rfl) (by kernel_rfl) (by kernel_rfl) (by kernel_rfl) (fun _ _ _ h => h) (Or.inl ⟨by rfl, fun W hW => by obtain ⟨s0, s3, s4⟩ := hW; go_simp⟩) hS0 ?_
  refine take_J (i := 9) (.agg #[.int .i64 4, .string (S c), .int .i64 0, .int .i64 t.ln, .int .i64 t.co]) rfl (by kernel_rfl) (by kernel_rfl) (by kernel_rfl) (by kernel_rfl) (fun _ _ _ h => h) (Or.inl ⟨by rfl, fun W hW => by obtain ⟨s0, s3, s4⟩ := hW; go_simp⟩) hS0 ?_
  refine ready_J (rs := [0, 10]) (by kernel_rfl) (by simp) ?_
  intro i him
  rcases List.mem_cons.1 him with rfl | him
  · refine op_J rfl rfl fun K hK => ?_
    go_simp
    refine hK _ _ ⟨fun _ => HF.out _ HA.out.1, ?_⟩
    clear hK K
    refine ready_J (rs := [3, 10]) (by kernel_rfl) (by simp) ?_
    intro i him
    rcases List.mem_cons.1 him with rfl | him
    · refine op_J (o := { dst := some 10, op := .call { callee := .builtin .append, args := #[.tmp 7, .tmp 9], argTypes := #[22, 22] }, type := 22, pos := "ref.go:17", after := #[{ on := 0, ground := .data }, { on := 2, ground := .data }], guard := none }) rfl rfl fun K hK => ?_
      refine HX1.out _ _ HA.out.2 HA.out.1 _ _ _ _ _ _ (by rfl) (by rfl) (by rfl) ?_
      intro pa cp w2 hown hgrow
      rw [Nat.zero_add, List.nil_append] at hown
      have b2 := Below.trans HA.out.1 (below_row HA.out.2 (Below.size HA.out.1) hgrow)
      refine hK _ _ ⟨fun _ => HF.out _ b2, ?_⟩
      clear hK K hgrow
      simp only [Nat.zero_add, Act.put, List.setIfInBounds_toArray, List.set_cons_zero, List.set_cons_succ]
      refine ready_J (rs := [10]) (by kernel_rfl) (by simp) ?_
      intro i him
      obtain rfl := List.mem_singleton.1 him
      refine op_J rfl rfl fun K hK => ?_
      go_simp
      refine hK _ _ ⟨fun _ => HF.out _ (b2.alloc b2.size _), ?_⟩
      clear hK K
      refine ready_J (rs := [11]) (by kernel_rfl) (by simp) ?_
      intro i him
      obtain rfl := List.mem_singleton.1 him
      refine op_J rfl rfl fun K hK => ?_
      refine HX2.out _ _ _ _ (hown.alloc _) (b2.alloc b2.size _) (Hold.new w2 #[.int .i64 4, .string (S c), .int .i64 0, .int .i64 t.ln, .int .i64 t.co] 32) _ _ _ _ _ _ (by rfl) (by rfl) (by rfl) ?_
      intro pa3 cp3 w3 hown3 hgrow3
      have b3 := (b2.alloc b2.size _).trans (below_row (hown.alloc _) (b2.alloc b2.size _).size hgrow3)
      refine hK _ _ ⟨fun _ => HF.out _ b3, ?_⟩
      clear hK K hgrow3
      simp only [Act.put, List.setIfInBounds_toArray]
      obtain ⟨d0, d1, f0, e0, e1, g0, g1⟩ := HG.out _ b3
      refine ready_J (rs := [12]) (by kernel_rfl) (by simp) ?_
      intro i him
      obtain rfl := List.mem_singleton.1 him
      refine op_J rfl rfl fun K hK => ?_
      go_simp
      refine hK _ _ ⟨fun h => absurd h (by decide), ?_⟩
      clear hK K
      refine ready_J (rs := [13]) (by kernel_rfl) (by simp) ?_
      intro i him
      obtain rfl := List.mem_singleton.1 him
      refine op_J rfl rfl fun K hK => ?_
      go_simp
      refine hK _ _ ⟨fun h => absurd h (by decide), ?_⟩
      clear hK K
      refine done_J (by kernel_rfl) ?_ _
      refine NoPanic.normal ?_
      go_wp2_with fail
      have hfin := HFIN.out w3 pa3 cp3 hown3 b3
      exact bodyPost_ret (v := .agg #[.slice pa3 (o.length + 1) cp3, .slice pi st.length ci]) (by simp only [results, Tryd.results24]; go_simp) rfl ⟨pa3, cp3, rfl, hfin⟩
    · obtain rfl := List.mem_singleton.1 him
      refine op_J rfl rfl fun K hK => ?_
      go_simp
      refine hK _ _ ⟨fun _ => HF.out _ HBB.out.1, ?_⟩
      clear hK K
      refine ready_J (rs := [3]) (by kernel_rfl) (by simp) ?_
      intro i him
      obtain rfl := List.mem_singleton.1 him
      refine op_J (o := { dst := some 10, op := .call { callee := .builtin .append, args := #[.tmp 7, .tmp 9], argTypes := #[22, 22] }, type := 22, pos := "ref.go:17", after := #[{ on := 0, ground := .data }, { on := 2, ground := .data }], guard := none }) rfl rfl fun K hK => ?_
      refine HX1.out _ _ HBB.out.2.1 HBB.out.1 _ _ _ _ _ _ (by rfl) (by rfl) (by rfl) ?_
      intro pa cp w2 hown hgrow
      rw [Nat.zero_add, List.nil_append] at hown
      have b2 := Below.trans HBB.out.1 (below_row HBB.out.2.1 (Below.size HBB.out.1) hgrow)
      have k2 := (hgrow.block _ (Hold.lt HBB.out.2.2) (by simp [Value.ownBlock])).trans HBB.out.2.2
      refine hK _ _ ⟨fun _ => HF.out _ b2, ?_⟩
      clear hK K hgrow
      simp only [Nat.zero_add, Act.put, List.setIfInBounds_toArray, List.set_cons_zero, List.set_cons_succ]
      refine ready_J (rs := [11]) (by kernel_rfl) (by simp) ?_
      intro i him
      obtain rfl := List.mem_singleton.1 him
      refine op_J rfl rfl fun K hK => ?_
      refine HX2.out _ _ _ _ hown b2 k2 _ _ _ _ _ _ (by rfl) (by rfl) (by rfl) ?_
      intro pa3 cp3 w3 hown3 hgrow3
      have b3 := b2.trans (below_row hown b2.size hgrow3)
      refine hK _ _ ⟨fun _ => HF.out _ b3, ?_⟩
      clear hK K hgrow3
      simp only [Act.put, List.setIfInBounds_toArray]
      obtain ⟨d0, d1, f0, e0, e1, g0, g1⟩ := HG.out _ b3
      refine ready_J (rs := [12]) (by kernel_rfl) (by simp) ?_
      intro i him
      obtain rfl := List.mem_singleton.1 him
      refine op_J rfl rfl fun K hK => ?_
      go_simp
      refine hK _ _ ⟨fun h => absurd h (by decide), ?_⟩
      clear hK K
      refine ready_J (rs := [13]) (by kernel_rfl) (by simp) ?_
      intro i him
      obtain rfl := List.mem_singleton.1 him
      refine op_J rfl rfl fun K hK => ?_
      go_simp
      refine hK _ _ ⟨fun h => absurd h (by decide), ?_⟩
      clear hK K
      refine done_J (by kernel_rfl) ?_ _
      refine NoPanic.normal ?_
      go_wp2_with fail
      have hfin := HFIN.out w3 pa3 cp3 hown3 b3
      exact bodyPost_ret (v := .agg #[.slice pa3 (o.length + 1) cp3, .slice pi st.length ci]) (by simp only [results, Tryd.results24]; go_simp) rfl ⟨pa3, cp3, rfl, hfin⟩
  · obtain rfl := List.mem_singleton.1 him
    refine op_J rfl rfl fun K hK => ?_
    go_simp
    refine hK _ _ ⟨fun _ => HF.out _ HTT.out, ?_⟩
    clear hK K
    refine ready_J (rs := [0]) (by kernel_rfl) (by simp) ?_
    intro i him
    obtain rfl := List.mem_singleton.1 him
    refine op_J rfl rfl fun K hK => ?_
    go_simp
    refine hK _ _ ⟨fun _ => HF.out _ HCC.out.1, ?_⟩
    clear hK K
    refine ready_J (rs := [3]) (by kernel_rfl) (by simp) ?_
    intro i him
    obtain rfl := List.mem_singleton.1 him
    refine op_J (o := { dst := some 10, op := .call { callee := .builtin .append, args := #[.tmp 7, .tmp 9], argTypes := #[22, 22] }, type := 22, pos := "ref.go:17", after := #[{ on := 0, ground := .data }, { on := 2, ground := .data }], guard := none }) rfl rfl fun K hK => ?_
    refine HX1.out _ _ HCC.out.2.1 HCC.out.1 _ _ _ _ _ _ (by rfl) (by rfl) (by rfl) ?_
    intro pa cp w2 hown hgrow
    rw [Nat.zero_add, List.nil_append] at hown
    have b2 := Below.trans HCC.out.1 (below_row HCC.out.2.1 (Below.size HCC.out.1) hgrow)
    have k2 := (hgrow.block _ (Hold.lt HCC.out.2.2) (by simp [Value.ownBlock])).trans HCC.out.2.2
    refine hK _ _ ⟨fun _ => HF.out _ b2, ?_⟩
    clear hK K hgrow
    simp only [Nat.zero_add, Act.put, List.setIfInBounds_toArray, List.set_cons_zero, List.set_cons_succ]
    refine ready_J (rs := [11]) (by kernel_rfl) (by simp) ?_
    intro i him
    obtain rfl := List.mem_singleton.1 him
    refine op_J rfl rfl fun K hK => ?_
    refine HX2.out _ _ _ _ hown b2 k2 _ _ _ _ _ _ (by rfl) (by rfl) (by rfl) ?_
    intro pa3 cp3 w3 hown3 hgrow3
    have b3 := b2.trans (below_row hown b2.size hgrow3)
    refine hK _ _ ⟨fun _ => HF.out _ b3, ?_⟩
    clear hK K hgrow3
    simp only [Act.put, List.setIfInBounds_toArray]
    obtain ⟨d0, d1, f0, e0, e1, g0, g1⟩ := HG.out _ b3
    refine ready_J (rs := [12]) (by kernel_rfl) (by simp) ?_
    intro i him
    obtain rfl := List.mem_singleton.1 him
    refine op_J rfl rfl fun K hK => ?_
    go_simp
    refine hK _ _ ⟨fun h => absurd h (by decide), ?_⟩
    clear hK K
    refine ready_J (rs := [13]) (by kernel_rfl) (by simp) ?_
    intro i him
    obtain rfl := List.mem_singleton.1 him
    refine op_J rfl rfl fun K hK => ?_
    go_simp
    refine hK _ _ ⟨fun h => absurd h (by decide), ?_⟩
    clear hK K
    refine done_J (by kernel_rfl) ?_ _
    refine NoPanic.normal ?_
    go_wp2_with fail
    have hfin := HFIN.out w3 pa3 cp3 hown3 b3
    exact bodyPost_ret (v := .agg #[.slice pa3 (o.length + 1) cp3, .slice pi st.length ci]) (by simp only [results, Tryd.results24]; go_simp) rfl ⟨pa3, cp3, rfl, hfin⟩
end Go.Proofs.YtnifnbndkbmdcaaDoor
