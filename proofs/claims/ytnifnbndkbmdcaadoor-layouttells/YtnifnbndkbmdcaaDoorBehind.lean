/-
  THE WALKS OF (*blocks).behind AND layout.wrong.
-/
import Derived.Test.YtnifnbndkbmdcaaDoorIndent
namespace Go.Proofs.YtnifnbndkbmdcaaDoor
open Go.RowKit
set_option linter.unusedVariables false
theorem LS.below {P : Nat → Prop} {B : Nat} {o : List Tok} {st : List Blk} {f : Bool} {pa : Option Addr} {ca : Nat} {po : Option Addr} {co : Nat} {w w' : World} (h : LS P B o st f pa ca po co w) (hb : Below w.heap.size w w') : LS P B o st f pa ca po co w' := by
  obtain ⟨hH, hT, hO, hA⟩ := h
  refine ⟨hH.below hb hH.lt, row_keep hT fun g _ hg => hb.block g hg, row_keep hO fun g _ hg => hb.block g hg, fun b hP => ?_⟩
  obtain ⟨h1, h2, h3, h4⟩ := hA b hP
  exact ⟨Nat.lt_of_lt_of_le h1 hb.size, h2, h3, h4⟩
theorem LS.drew {P : Nat → Prop} {B : Nat} {o : List Tok} {st : List Blk} {f : Bool} {pa : Option Addr} {ca : Nat} {po : Option Addr} {co : Nat} {w : World} (h : LS P B o st f pa ca po co w) : LS P B o st f pa ca po co w.drew := ⟨h.hold, h.told, h.opn, h.apart⟩
/-- What a token asks behind it. -/
def behM (t : Tok) (rest : List Tok) (st : List Blk) (o : List Tok) (f : Bool) : List Blk × List Tok × Bool :=
  if opensK t then (⟨t.tx, (top st).cl⟩ :: st, o, f) else if beginsK t then indM t rest st o f else (st, o, f)
set_option maxRecDepth 100000 in
set_option maxHeartbeats 6400000 in
theorem behind_open (P : Nat → Prop) (B : Nat) (t : Tok) (R : Value) (o : List Tok) (st : List Blk) (f : Bool) (w : World) (hL : L P B o st f w) (hn : o.length + st.length ≤ 900000) (ht : opensK t = true) :
    Calls Tryd.prog 20 #[.pointer (some ⟨B, 0, none⟩), tv t, R] w fun e w' => e = .returned (.tuple #[]) ∧ L P B o (⟨t.tx, (top st).cl⟩ :: st) f w' ∧ KP P w w' := by
  have hA := hL.lt
  have T0 := TB.new w t
  have K0 := KP.alloc (P := P) w (.cells #[.int .i64 t.kd, .string (S t.tx), .int .i64 t.nu, .int .i64 t.ln, .int .i64 t.co] 32) hA
  have L0 := hL.new (.cells #[.int .i64 t.kd, .string (S t.tx), .int .i64 t.nu, .int .i64 t.ln, .int .i64 t.co] 32)
  have O := hide (fun w => opens_any t w)
  rw [ht] at O
  have HG := hide (fun w' (h : L (fun b => P b ∨ b = w.heap.size) B o st f w') => last_any _ B o st f w' h (by omega))
  have hfd := fun c w => fld1 (S (top st).sg) c w
  unfold bv at HG
  unfold tv at O ⊢
  generalize S (top st).sg = s at *
  generalize (top st).cl = cc at *
  obtain ⟨i0, hi, hz0, hz1, hz2⟩ := info_parts info78
  clear hL
  go_enter Tryd.func20, Tryd.ntmps20
  go_wp2_with fail
  refine (O.out _).mono ?_
  rintro e w1 ⟨rfl, b1⟩
  have L1 := L0.below b1
  have K1 := K0.trans (KP.of_below b1 fun b hb => L0.lt b (.inl hb))
  have T1 : TB w.heap.size t w1 := TB.below T0 b1 (by simp)
  clear T0 K0 L0 b1 O
  generalize w.heap.size = q at *
  obtain ⟨pa, ca, po, co, hS⟩ := L1
  have c1 : w1.cell? ⟨B, 1, none⟩ = some (.slice po st.length co) := hS.hold.cell 1
  have x1 : w1.cell? ⟨q, 1, none⟩ = some (.string (S t.tx)) := Hold.cell T1 1
  have nB : (Value.slice po st.length co).ownBlock ≠ some B := Ne.symm (row_ne hS.hold hS.opn (by decide))
  have nq : (Value.slice po st.length co).ownBlock ≠ some q := Ne.symm (hS.apart q (.inr rfl)).2.2.2
  have nqB : q ≠ B := (hS.apart q (.inr rfl)).2.1
  have HS := hide hS
  have HT := hide T1
  clear hS T1
  go_wp2_with fail
  have c1b : w1.drew.cell? ⟨B, 1, none⟩ = some (.slice po st.length co) := c1
  go_region_law (first
    | (refine step_append_lies _ (by rfl) _ _ _ (by rfl) 0 78 i0 _ 2 24 Tryd.underlying39 hi hz0 hz1 hz2 rfl (by omega) (.slice po st.length co) st.length (bcs st.reverse) (by rfl) (S2.out.opn.alloc _)
        ⟨w2.heap.size, 0, none⟩ 1 1 [.string (S t.tx), .int .i64 cc] (by rfl) (by rfl) (World.news_of_block (cs := #[.string (S t.tx), .int .i64 cc]) (t := 78) (fr := (0, 0)) (heap_alloc_new w2 _)) (by simp [Value.oneCell'])
        (by omega) (by unfold maxLen; omega) (by omega) (by simp) (w2.heap.size + 1) (by simp) ?_; intro gg cap w3 hown1 hgrow hat hlt2; have HB2 : Hold B #[.slice pa o.length ca, .slice po st.length co, .bool f] 41 w3 := (hgrow.block B (Hold.lt (S2.out.hold.alloc _)) (Ne.symm nB)).trans (S2.out.hold.alloc _); have d0 : w3.cell? ⟨B, 1, none⟩ = some (.slice po st.length co) := HB2.cell 1; have d1 := HB2.frozen 1; clear HB2)
    | (go_simp; go_wp2_with (go_at_call 40; refine (HG.out _ ⟨pa, ca, po, co, HS.out.drew⟩).mono ?_; rintro e w2 ⟨rfl, b2⟩; have S2 := hide (HS.out.drew.below b2); have c2 : w2.cell? ⟨B, 1, none⟩ = some (.slice po st.length co) := S2.out.hold.cell 1; have c3 : ∀ x : Obj, (w2.alloc x).cell? ⟨B, 1, none⟩ = some (.slice po st.length co) := fun x => (S2.out.hold.alloc x).cell 1; have x2 : w2.cell? ⟨q, 1, none⟩ = some (.string (S t.tx)) := Hold.cell ((b2.block _ (Hold.lt HT.out)).trans HT.out) 1; have x5 : ∀ x : Obj, (w2.alloc x).cell? ⟨q, 1, none⟩ = some (.string (S t.tx)) := fun x => Hold.cell (Hold.alloc ((b2.block _ (Hold.lt HT.out)).trans HT.out) x) 1)))
  all_goals go_wp2_with fail
  all_goals
    go_end0
    have k := S2.out.push ((Below.refl _ w2).alloc (Nat.le_refl _) _) ⟨t.tx, cc⟩ hown1 hgrow hat (by omega)
    have K2 := (K1.drew).trans (KP.of_below b2 fun b hb => (HS.out.apart b (.inl hb)).1)
    exact ⟨rfl, k.1.weak fun b hb => .inl hb, K2.trans (k.2.mono fun b hb => .inl hb)⟩
set_option maxRecDepth 100000 in
set_option maxHeartbeats 6400000 in
theorem behind_any (P : Nat → Prop) (B : Nat) (t : Tok) (rest : List Tok) (p : Option Addr) (m c : Nat) (o : List Tok) (st : List Blk) (f : Bool) (w : World) (hL : L P B o st f w) (hn : o.length + st.length ≤ 900000) (hm : rest.length = m) (hmn : m ≤ 1000000) (hM : TMem w p rest) (hp : ∀ b o, p = some ⟨b, o, none⟩ → P b) :
    Calls Tryd.prog 20 #[.pointer (some ⟨B, 0, none⟩), tv t, .slice p m c] w fun e w' => e = .returned (.tuple #[]) ∧ L P B (behM t rest st o f).2.1 (behM t rest st o f).1 (behM t rest st o f).2.2 w' ∧ KP P w w' := by
  unfold behM
  cases ht : opensK t
  · rw [if_neg (by decide)]
    have hA := hL.lt
    have T0 := TB.new w t
    have K0 := KP.alloc (P := P) w (.cells #[.int .i64 t.kd, .string (S t.tx), .int .i64 t.nu, .int .i64 t.ln, .int .i64 t.co] 32) hA
    have L0 := hL.new (.cells #[.int .i64 t.kd, .string (S t.tx), .int .i64 t.nu, .int .i64 t.ln, .int .i64 t.co] 32)
    have M0 := hM.kp K0 hp
    have O := hide (fun w => opens_any t w)
    have E := hide (fun w => begins_any t w)
    have I := hide (fun w' h hM => indent_any (fun b => P b ∨ b = w.heap.size) B t rest p m c o st f w' h hn hm hmn hM (fun b o h => .inl (hp b o h)))
    rw [ht] at O
    unfold tv at O E I ⊢
    clear hL
    cases hb : beginsK t
    · rw [hb] at E
      rw [if_neg (by decide)]
      go_enter Tryd.func20, Tryd.ntmps20
      go_wp2_with fail
      refine (O.out _).mono ?_
      rintro e w1 ⟨rfl, b1⟩
      have L1 := L0.below b1
      have K1 := K0.trans (KP.of_below b1 fun b hb => L0.lt b (.inl hb))
      obtain ⟨c0, c1, c2, c3, c4⟩ := (TB.below T0 b1 (by simp)).cells
      go_wp2_with fail
      refine (E.out _).mono ?_
      rintro e w2 ⟨rfl, b2⟩
      go_wp2_with fail
      go_end0
      exact ⟨rfl, (L1.below b2).weak fun b hb => .inl hb, K1.trans (KP.of_below b2 fun b hb => L1.lt b (.inl hb))⟩
    · rw [hb] at E
      rw [if_pos rfl]
      go_enter Tryd.func20, Tryd.ntmps20
      go_wp2_with fail
      refine (O.out _).mono ?_
      rintro e w1 ⟨rfl, b1⟩
      have L1 := L0.below b1
      have K1 := K0.trans (KP.of_below b1 fun b hb => L0.lt b (.inl hb))
      have T1 := TB.below T0 b1 (by simp)
      have M1 := M0.below (Nat.le_refl _) b1
      obtain ⟨c0, c1, c2, c3, c4⟩ := T1.cells
      go_wp2_with fail
      refine (E.out _).mono ?_
      rintro e w2 ⟨rfl, b2⟩
      have L2 := L1.below b2
      have K2 := K1.trans (KP.of_below b2 fun b hb => L1.lt b (.inl hb))
      have M2 := M1.below (Nat.le_refl _) b2
      obtain ⟨d0, d1, d2, d3, d4⟩ := (TB.below T1 b2 (Hold.lt T1)).cells
      clear c0 c1 c2 c3 c4
      go_wp2_with fail
      refine (I.out _ L2 M2).mono ?_
      rintro e w3 ⟨rfl, L3, K3⟩
      go_wp2_with fail
      go_end0
      exact ⟨rfl, L3.weak fun b hb => .inl hb, K2.trans (K3.mono fun b hb => .inl hb)⟩
  · rw [if_pos rfl]
    exact behind_open P B t _ o st f w hL hn ht
set_option maxRecDepth 20000 in
theorem wrong_any (t : Tok) (w : World) : Calls Tryd.prog 19 #[tv t] w fun e w' => e = .returned (.tuple #[.slice none 0 0, .agg #[.int .i64 t.ln, .int .i64 t.co], .int .i64 30]) ∧ Below w.heap.size w w' := by
  have T0 := TB.new w t
  have T1 : TB w.heap.size t ((w.alloc (.cells #[.int .i64 t.kd, .string (S t.tx), .int .i64 t.nu, .int .i64 t.ln, .int .i64 t.co] 32)).alloc (.cells #[.int .i64 0, .int .i64 0] 25)) := Hold.alloc T0 _
  have P1 := Hold.new (w.alloc (.cells #[.int .i64 t.kd, .string (S t.tx), .int .i64 t.nu, .int .i64 t.ln, .int .i64 t.co] 32)) #[.int .i64 0, .int .i64 0] 25
  have B1 : Below w.heap.size w ((w.alloc (.cells #[.int .i64 t.kd, .string (S t.tx), .int .i64 t.nu, .int .i64 t.ln, .int .i64 t.co] 32)).alloc (.cells #[.int .i64 0, .int .i64 0] 25)) := ((Below.refl _ w).alloc (Nat.le_refl _) _).alloc (by simp) _
  rw [World.size_alloc] at P1
  obtain ⟨c0, c1, c2, c3, c4⟩ := T1.cells
  have p0 : ((w.alloc (.cells #[.int .i64 t.kd, .string (S t.tx), .int .i64 t.nu, .int .i64 t.ln, .int .i64 t.co] 32)).alloc (.cells #[.int .i64 0, .int .i64 0] 25)).cell? ⟨w.heap.size + 1, 0, none⟩ = some (.int .i64 0) := P1.cell 0
  have p1 : ((w.alloc (.cells #[.int .i64 t.kd, .string (S t.tx), .int .i64 t.nu, .int .i64 t.ln, .int .i64 t.co] 32)).alloc (.cells #[.int .i64 0, .int .i64 0] 25)).cell? ⟨w.heap.size + 1, 1, none⟩ = some (.int .i64 0) := P1.cell 1
  have f0 := P1.frozen 0
  have f1 := P1.frozen 1
  unfold tv
  go_enter Tryd.func19, Tryd.ntmps19
  go_wp2_with fail
  clear T0 T1 P1
  generalize ((w.alloc (.cells #[.int .i64 t.kd, .string (S t.tx), .int .i64 t.nu, .int .i64 t.ln, .int .i64 t.co] 32)).alloc (.cells #[.int .i64 0, .int .i64 0] 25)) = W at *
  go_region
  all_goals go_wp2_with fail
  all_goals exact bodyPost_ret (v := .tuple #[.slice none 0 0, .agg #[.int .i64 t.ln, .int .i64 t.co], .int .i64 30]) (by simp only [results, Tryd.results19]; go_simp) rfl ⟨rfl, ((B1.setCell (by simp) _).setCell (by simp) _).trans ⟨rfl, rfl, rfl, Nat.le_refl _, fun _ _ => rfl⟩⟩
end Go.Proofs.YtnifnbndkbmdcaaDoor
