/-
  THE WALK OF (*blocks).indent.
-/
import Derived.Test.YtnifnbndkbmdcaaDoorFit
namespace Go.Proofs.YtnifnbndkbmdcaaDoor
open Go.RowKit
set_option linter.unusedVariables false
theorem TMem.kp {P : Nat → Prop} {w w' : World} {p : Option Addr} {ts : List Tok} (h : TMem w p ts) (k : KP P w w') (hp : ∀ b o, p = some ⟨b, o, none⟩ → P b) : TMem w' p ts := by
  rcases h with rfl | ⟨b, o, rfl, hbk, hm⟩
  · exact .inl rfl
  · have hk : ∀ x, w'.cell? ⟨b, x, none⟩ = w.cell? ⟨b, x, none⟩ := fun x => World.cell?_of_block (k.block b (hp b o rfl))
    exact .inr ⟨b, o, rfl, Nat.lt_of_lt_of_le hbk k.size, fun i t ht => by rw [hk, hk, hk, hk, hk]; exact hm i t ht⟩
/-- What of, do and dos ask behind them. -/
def indM (t : Tok) (rest : List Tok) (st : List Blk) (o : List Tok) (f : Bool) : List Blk × List Tok × Bool :=
  match rest with
  | [] => (st, (o ++ [pt1 123 t]) ++ [pt1 125 t], f)
  | n :: _ => if isK n [123] then (st, o, f) else if (top st).cl < n.co then (⟨[], n.co⟩ :: st, o ++ [pt1 123 n], true) else (st, (o ++ [pt1 123 t]) ++ [pt1 125 t], f)
/-- A token's cells at a place. -/
def Hold2 (g og : Nat) (n : Tok) (w : World) : Prop := w.cell? ⟨g, og, none⟩ = some (.int .i64 n.kd) ∧ w.cell? ⟨g, og + 1, none⟩ = some (.string (S n.tx)) ∧ w.cell? ⟨g, og + 2, none⟩ = some (.int .i64 n.nu) ∧ w.cell? ⟨g, og + 3, none⟩ = some (.int .i64 n.ln) ∧ w.cell? ⟨g, og + 4, none⟩ = some (.int .i64 n.co)
theorem Hold2.below {g og m : Nat} {n : Tok} {w w' : World} (h : Hold2 g og n w) (hb : Below m w w') (hg : g < m) : Hold2 g og n w' := by
  have hk : ∀ x, w'.cell? ⟨g, x, none⟩ = w.cell? ⟨g, x, none⟩ := fun x => hb.cell (p := ⟨g, x, none⟩) hg
  unfold Hold2; rw [hk, hk, hk, hk, hk]; exact h
theorem Hold2.kp {P : Nat → Prop} {g og : Nat} {n : Tok} {w w' : World} (h : Hold2 g og n w) (hb : KP P w w') (hg : P g) : Hold2 g og n w' := by
  have hk : ∀ x, w'.cell? ⟨g, x, none⟩ = w.cell? ⟨g, x, none⟩ := fun x => World.cell?_of_block (hb.block g hg)
  unfold Hold2; rw [hk, hk, hk, hk, hk]; exact h
set_option maxRecDepth 100000 in
set_option maxHeartbeats 3200000 in
theorem indent_any (P : Nat → Prop) (B : Nat) (t : Tok) (rest : List Tok) (p : Option Addr) (m c : Nat) (o : List Tok) (st : List Blk) (f : Bool) (w : World) (hL : L P B o st f w) (hn : o.length + st.length ≤ 900000) (hm : rest.length = m) (hmn : m ≤ 1000000) (hM : TMem w p rest) (hp : ∀ b o, p = some ⟨b, o, none⟩ → P b) :
    Calls Tryd.prog 44 #[.pointer (some ⟨B, 0, none⟩), tv t, .slice p m c] w fun e w' => e = .returned (.tuple #[]) ∧ L P B (indM t rest st o f).2.1 (indM t rest st o f).1 (indM t rest st o f).2.2 w' ∧ KP P w w' := by
  have hA := hL.lt
  have T0 := TB.new w t
  have K0 := KP.alloc (P := P) w (.cells #[.int .i64 t.kd, .string (S t.tx), .int .i64 t.nu, .int .i64 t.ln, .int .i64 t.co] 32) hA
  have L0 := hL.new (.cells #[.int .i64 t.kd, .string (S t.tx), .int .i64 t.nu, .int .i64 t.ln, .int .i64 t.co] 32)
  have M0 := hM.kp K0 hp
  have hq : ∀ b, P b → b ≠ w.heap.size := fun b hb => Nat.ne_of_lt (hA b hb)
  have P1 := hide (fun w' h => put_any (fun b => P b ∨ b = w.heap.size) B [123] t o st f w' h (by omega))
  have P2 := hide (fun w' h => put_any (fun b => P b ∨ b = w.heap.size) B [125] t (o ++ [pt1 123 t]) st f w' h (by simp; omega))
  unfold tv at P1 P2 ⊢
  clear hL hA hM
  cases rest with
  | nil =>
    obtain rfl : m = 0 := by simpa using hm.symm
    unfold indM
    obtain ⟨c0, c1, c2, c3, c4⟩ := T0.cells
    go_enter Tryd.func44, Tryd.ntmps44
    go_wp2_with fail
    go_region
    go_wp2_with fail
    refine (P1.out _ L0.drew).mono ?_
    rintro e w1 ⟨rfl, L1, K1⟩
    obtain ⟨d0, d1, d2, d3, d4⟩ := (show TB w.heap.size t w1 from (K1.block _ (.inr rfl)).trans T0).cells
    clear c0 c1 c2 c3 c4
    go_wp2_with fail
    refine (P2.out _ L1).mono ?_
    rintro e w2 ⟨rfl, L2, K2⟩
    go_wp2_with fail
    go_end0
    exact ⟨rfl, L2.weak fun b hb => .inl hb, (K0.drew).trans ((K1.trans K2).mono fun b hb => .inl hb)⟩
  | cons n rs =>
    have hm1 : rs.length + 1 = m := by simpa using hm
    have I := hide (fun w => is_any n [123] w)
    unfold tv at I
    rcases M0 with he | ⟨g, og, rfl, hg, hgm⟩
    · cases he
    have Pg := hp g og rfl
    obtain ⟨n0, n1, n2, n3, n4⟩ := hgm 0 n rfl
    simp only [Nat.zero_mul, Nat.add_zero] at n0 n1 n2 n3 n4
    clear hgm
    have HR : Hid (indM t (n :: rs) st o f = if isK n [123] then (st, o, f) else if (top st).cl < n.co then (⟨[], n.co⟩ :: st, o ++ [pt1 123 n], true) else (st, (o ++ [pt1 123 t]) ++ [pt1 125 t], f)) := rfl
    generalize indM t (n :: rs) st o f = R at *
    cases hi : isK n [123] <;> rw [hi] at I HR
    · rw [if_neg (by decide)] at HR
      have HG := hide (fun w' (h : L (fun b => P b ∨ b = w.heap.size) B o st f w') => last_any _ B o st f w' h (by omega))
      have hfd := fun c w => fld1 (S (top st).sg) c w
      unfold bv at HG
      have BG := hide (fun w' h => begin_any (fun b => P b ∨ b = w.heap.size) B n n.co o st f w' h (by omega) (by omega))
      unfold tv at BG
      generalize S (top st).sg = s at *
      generalize (top st).cl = cc at *
      by_cases hc : cc < n.co
      · have HR2 := HR.out
        rw [if_pos hc] at HR2
        have HR3 := hide HR2
        clear HR2 HR
        go_enter Tryd.func44, Tryd.ntmps44
        go_wp2_with fail
        refine (I.out _).mono ?_
        rintro e w1 ⟨rfl, b1⟩
        have L1 := L0.below b1
        have K1 := K0.trans (KP.of_below b1 fun b hb => L0.lt b (.inl hb))
        have G1 : Hold2 g og n w1 := Hold2.below ⟨n0, n1, n2, n3, n4⟩ b1 hg
        have e4 : w1.cell? ⟨g, og + 4, none⟩ = some (.int .i64 n.co) := (b1.cell (p := ⟨g, og + 4, none⟩) hg).trans n4
        have G2 := hide G1
        have TT : TB w.heap.size t w1 := TB.below T0 b1 (by simp)
        have TT := hide TT
        clear G1 T0 K0 L0 n0 n1 n2 n3 n4
        go_wp2_with fail
        go_region_held3 (fun w' => w'.cell? ⟨g, og + 4, none⟩ = some (.int .i64 n.co)) (first | go_keep | (exact (b2.cell (p := ⟨g, og + 4, none⟩) (Nat.lt_of_lt_of_le hg b1.size)).trans e4))
          (first | (go_at_call 40; refine (HG.out _ L1.drew).mono ?_; rintro e w2 ⟨rfl, b2⟩))
        all_goals go_wp2_with fail
        all_goals
          have L2 := L1.drew.below b2
          have K2 := K1.drew.trans (KP.of_below b2 fun b hb => L1.lt b (.inl hb))
          have G2 : Hold2 g og n w2 := Hold2.below (show Hold2 g og n w1.drew from G2.out) b2 (Nat.lt_of_lt_of_le hg b1.size)
          obtain ⟨m0, m1, m2, m3, m4⟩ := G2
          go_region_held3 (fun w' => w'.cell? ⟨g, og, none⟩ = some (.int .i64 n.kd) ∧ w'.cell? ⟨g, og + 1, none⟩ = some (.string (S n.tx)) ∧ w'.cell? ⟨g, og + 2, none⟩ = some (.int .i64 n.nu) ∧ w'.cell? ⟨g, og + 3, none⟩ = some (.int .i64 n.ln) ∧ w'.cell? ⟨g, og + 4, none⟩ = some (.int .i64 n.co)) (first | go_keep | (exact (show Hold2 g og n w3 from Hold2.kp (w := w2.drew) ⟨m0, m1, m2, m3, m4⟩ K3 (Or.inl Pg))))
            (first | (go_at_call 15; refine (BG.out _ L2.drew).mono ?_; rintro e w3 ⟨rfl, L3, K3⟩))
          all_goals go_wp2_with fail
          all_goals exact bodyPost_ret (v := .tuple #[]) (results_none (by rfl) _ _ _) rfl ⟨rfl, by rw [HR3.out]; exact L3.weak fun b hb => .inl hb, (K2.drew).trans (K3.mono fun b hb => .inl hb)⟩
      · have HR2 := HR.out
        rw [if_neg hc] at HR2
        have HR3 := hide HR2
        clear HR2 HR
        go_enter Tryd.func44, Tryd.ntmps44
        go_wp2_with fail
        refine (I.out _).mono ?_
        rintro e w1 ⟨rfl, b1⟩
        have L1 := L0.below b1
        have K1 := K0.trans (KP.of_below b1 fun b hb => L0.lt b (.inl hb))
        have G1 : Hold2 g og n w1 := Hold2.below ⟨n0, n1, n2, n3, n4⟩ b1 hg
        have e4 : w1.cell? ⟨g, og + 4, none⟩ = some (.int .i64 n.co) := (b1.cell (p := ⟨g, og + 4, none⟩) hg).trans n4
        have G2 := hide G1
        have TT : TB w.heap.size t w1 := TB.below T0 b1 (by simp)
        have TT := hide TT
        clear G1 T0 K0 L0 n0 n1 n2 n3 n4
        go_wp2_with fail
        go_region_held3 (fun w' => w'.cell? ⟨g, og + 4, none⟩ = some (.int .i64 n.co)) (first | go_keep | (exact (b2.cell (p := ⟨g, og + 4, none⟩) (Nat.lt_of_lt_of_le hg b1.size)).trans e4))
          (first | (go_at_call 40; refine (HG.out _ L1.drew).mono ?_; rintro e w2 ⟨rfl, b2⟩))
        all_goals
          have L2 := L1.drew.below b2
          have K2 := K1.drew.trans (KP.of_below b2 fun b hb => L1.lt b (.inl hb))
          have T2 : TB w.heap.size t w2 := (b2.block _ (Hold.lt TT.out)).trans TT.out
          obtain ⟨c0, c1, c2, c3, c4⟩ := T2.cells
          go_wp2_with fail
          refine (P1.out _ L2).mono ?_
          rintro e w5 ⟨rfl, L5, K5⟩
          obtain ⟨d0, d1, d2, d3, d4⟩ := (show TB w.heap.size t w5 from Hold.kp T2 K5 (.inr rfl)).cells
          clear c0 c1 c2 c3 c4
          go_wp2_with fail
          refine (P2.out _ L5).mono ?_
          rintro e w6 ⟨rfl, L6, K6⟩
          go_wp2_with fail
          go_end0
          exact ⟨rfl, by rw [HR3.out]; exact L6.weak fun b hb => .inl hb, K2.trans ((K5.trans K6).mono fun b hb => .inl hb)⟩
    · rw [if_pos rfl] at HR
      go_enter Tryd.func44, Tryd.ntmps44
      go_wp2_with fail
      refine (I.out _).mono ?_
      rintro e w1 ⟨rfl, b1⟩
      go_wp2_with fail
      exact bodyPost_ret (v := .tuple #[]) (results_none (by rfl) _ _ _) rfl ⟨rfl, by rw [HR.out]; exact (L0.below b1).weak fun b hb => .inl hb, K0.trans (KP.of_below b1 fun b hb => L0.lt b (.inl hb))⟩
end Go.Proofs.YtnifnbndkbmdcaaDoor
