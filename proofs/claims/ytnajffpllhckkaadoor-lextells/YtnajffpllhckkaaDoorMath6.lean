/-
  TOKENS THAT A TEXT HAS, with gaps behind, or one between: they are the same ones; they stand one behind the other. Plain lists.
-/
import Derived.Test.YtnajffpllhckkaaDoorMath5
namespace Go.Proofs.YtnajffpllhckkaaDoor

/-- A token that a text has. -/
def Vt (t : Tok) : Prop := ∃ c r, sk (c :: r) = c :: r ∧ t.tx = (c :: r).take (tl (c :: r)) ∧ tk t.tx = some (t.kd, t.nu)
theorem vt_rawL (n : Int) : ∀ (f a : Nat) (l : List UInt8), ∀ t ∈ (rawL n f a l).1, Vt t
  | 0, a, l, t, h => by simp [rawL] at h
  | f + 1, a, l, t, h => by
    unfold rawL at h
    cases hs : sk l with
    | nil => rw [hs] at h; simp at h
    | cons c r =>
      rw [hs] at h
      have hid := sk_idem l
      rw [hs] at hid
      simp only at h
      cases hk : tk ((c :: r).take (tl (c :: r))) with
      | none => rw [hk] at h; simp at h
      | some x =>
        rw [hk] at h
        simp only [List.mem_cons] at h
        rcases h with rfl | h
        · exact ⟨c, r, hid, rfl, hk⟩
        · exact vt_rawL n f _ _ t h
theorem vt_rawLs : ∀ (n : Int) (L : List (List UInt8)), ∀ t ∈ (rawLs (num n L)).1, Vt t
  | n, [], t, h => by simp [rawLs, num] at h
  | n, x :: L, t, h => by
    simp only [num, rawLs] at h
    cases hr : (raw n 0 x).2 with
    | some e => rw [hr] at h; exact vt_rawL n _ 0 x t h
    | none =>
      rw [hr] at h
      simp only [List.mem_append] at h
      rcases h with h | h
      · exact vt_rawL n _ 0 x t h
      · exact vt_rawLs (n + 1) L t h
theorem vt_lexM (l : List UInt8) : ∀ t ∈ (lexM l).1, Vt t := by
  intro t h
  cases hq : (lexM l).2 with
  | some e => rw [lexM_err hq] at h; simp at h
  | none => exact vt_rawLs 1 (spl l) t (by rw [(lexM_ok hq).1]; exact h)
theorem vt_shape {t : Tok} (h : Vt t) : ∃ c r, t.tx = c :: r ∧ c ≠ 32 ∧ c ≠ 10 ∧ ¬ (c = 45 ∧ ∃ r', r = 45 :: r') ∧ tl (c :: r) = r.length + 1 ∧ tk (c :: r) = some (t.kd, t.nu) := by
  obtain ⟨c, r, hs, htx, hk⟩ := h
  obtain ⟨r', e1, e2⟩ := tl_self c r
  rw [e1] at htx
  have h32 : c ≠ 32 := by
    rintro rfl
    have e : sk (32 :: r) = sk r := rfl
    have := sk_le r
    rw [← e, hs] at this
    simp at this
    omega
  refine ⟨c, r', htx, h32, ?_, ?_, e2, by rw [← htx]; exact hk⟩
  · rintro rfl
    rw [htx] at hk
    cases r' with
    | nil => simp [tk, dg, ky, kw, sg, nm, cn, wd, pt, sm, gr] at hk
    | cons d r' =>
      have e3 : tl (10 :: d :: r') = 1 := by simp [tl, dg, pt, sm, gr, sg]
      rw [e3] at e2
      simp at e2
  · rintro ⟨rfl, r2, rfl⟩
    have hle : (45 :: r).take (tl (45 :: r)) = 45 :: 45 :: r2 := e1
    cases r with
    | nil => have := congrArg List.length e1; simp [List.length_take] at this; omega
    | cons d r3 =>
      have hd : d = 45 := by
        have hp : 2 ≤ tl (45 :: d :: r3) := by have := congrArg List.length e1; simp only [List.length_take, List.length_cons] at this; omega
        rw [show tl (45 :: d :: r3) = (tl (45 :: d :: r3) - 2) + 1 + 1 from by omega, List.take_succ_cons, List.take_succ_cons] at e1
        simp at e1; exact e1.1
      subst hd
      have : sk (45 :: 45 :: r3) = [] := by simp [sk, gp]
      rw [this] at hs
      simp at hs
theorem vt_step {t : Tok} (h : Vt t) (n : Int) (a : Nat) (y : List UInt8) : rawO n a (t.tx ++ 32 :: y) = (⟨t.kd, t.tx, t.nu, n, (a : Int) + 1⟩ :: (rawO n (a + t.tx.length) (32 :: y)).1, (rawO n (a + t.tx.length) (32 :: y)).2) := by
  obtain ⟨c, r, e, h1, h0, h2, htl, hk⟩ := vt_shape h
  rw [e, List.cons_append]
  have hlen : tl (c :: (r ++ 32 :: y)) = r.length + 1 := by rw [tl_stop c r 32 y (.inl rfl), htl]
  rw [rawO_tok n a c (r ++ 32 :: y) h1 h0 ?_, hlen]
  · have e1 : (c :: (r ++ 32 :: y)).take (r.length + 1) = c :: r := by simp
    have e2 : (c :: (r ++ 32 :: y)).drop (r.length + 1) = 32 :: y := by simp
    rw [e1, e2, hk]
    rfl
  · rintro ⟨rfl, r', hr⟩
    cases r with
    | nil => simp at hr
    | cons d r => simp only [List.cons_append, List.cons.injEq] at hr; exact h2 ⟨rfl, r, by rw [hr.1]⟩
theorem vt_end {t : Tok} (h : Vt t) (n : Int) (a : Nat) : rawO n a t.tx = ([⟨t.kd, t.tx, t.nu, n, (a : Int) + 1⟩], none) := by
  obtain ⟨c, r, e, h1, h0, h2, htl, hk⟩ := vt_shape h
  rw [e, rawO_tok n a c r h1 h0 h2, htl]
  have e1 : (c :: r).take (r.length + 1) = c :: r := by simp
  have e2 : (c :: r).drop (r.length + 1) = [] := by simp
  rw [e1, e2, hk]
  rfl
def key3 (t : Tok) : Int × List UInt8 × Int := (t.kd, t.tx, t.nu)
theorem rawO_gaps : ∀ (g : List UInt8) (n : Int) (a : Nat) (y : List UInt8), (∀ x ∈ g, x = 32 ∨ x = 10) → ∃ n' a', rawO n a (g ++ y) = rawO n' a' y
  | [], n, a, y, _ => ⟨n, a, rfl⟩
  | x :: g, n, a, y, h => by
    rcases h x (List.mem_cons_self ..) with rfl | rfl
    · obtain ⟨n', a', e⟩ := rawO_gaps g n (a + 1) y (fun z hz => h z (List.mem_cons_of_mem _ hz))
      exact ⟨n', a', by rw [List.cons_append, rawO_gap, e]⟩
    · obtain ⟨n', a', e⟩ := rawO_gaps g (n + 1) 0 y (fun z hz => h z (List.mem_cons_of_mem _ hz))
      exact ⟨n', a', by rw [List.cons_append, rawO_nl, e]⟩
/-- Tokens, each with gaps behind. -/
def sp (G : Nat → List UInt8) : Nat → List Tok → List UInt8
  | _, [] => []
  | i, t :: r => t.tx ++ 32 :: (G i ++ sp G (i + 1) r)
theorem sp_lex (G : Nat → List UInt8) (hG : ∀ i, ∀ x ∈ G i, x = 32 ∨ x = 10) : ∀ (ts : List Tok) (i : Nat) (n : Int) (a : Nat), (∀ t ∈ ts, Vt t) → (rawO n a (sp G i ts)).2 = none ∧ (rawO n a (sp G i ts)).1.map key3 = ts.map key3
  | [], i, n, a, _ => ⟨rfl, rfl⟩
  | t :: r, i, n, a, h => by
    rw [sp, vt_step (h t (List.mem_cons_self ..)), rawO_gap]
    obtain ⟨n', a', e⟩ := rawO_gaps (G i) n (a + t.tx.length + 1) (sp G (i + 1) r) (hG i)
    rw [e]
    obtain ⟨h1, h2⟩ := sp_lex G hG r (i + 1) n' a' (fun u hu => h u (List.mem_cons_of_mem _ hu))
    exact ⟨h1, by simp only [List.map_cons, h2]; rfl⟩
theorem sp_snoc (G : Nat → List UInt8) : ∀ (ts : List Tok) (i : Nat) (t : Tok), sp G i (ts ++ [t]) = sp G i ts ++ (t.tx ++ 32 :: G (i + ts.length))
  | [], i, t => by simp [sp]
  | u :: r, i, t => by
    simp only [List.cons_append, sp, sp_snoc G r (i + 1) t, List.length_cons]
    rw [show i + 1 + r.length = i + (r.length + 1) from by omega]
    simp
theorem lexM_sp (G : Nat → List UInt8) (hG : ∀ i, ∀ x ∈ G i, x = 32 ∨ x = 10) (ts : List Tok) (hv : ∀ t ∈ ts, Vt t) (hl : ts.length ≤ 2000) : (lexM (sp G 0 ts)).2 = none ∧ (lexM (sp G 0 ts)).1.map key3 = ts.map key3 := by
  obtain ⟨h1, h2⟩ := sp_lex G hG ts 0 1 0 hv
  have hlen : (rawO 1 0 (sp G 0 ts)).1.length = ts.length := by have := congrArg List.length h2; simpa using this
  rw [lexM_O, cap_of_ok (by omega) h1]
  exact ⟨rfl, h2⟩
/-- Tokens with one gap between. -/
def tx1 (r : List Tok) : List UInt8 := r.flatMap fun u => 32 :: u.tx
theorem tx1_lex : ∀ (ts : List Tok) (n : Int) (a : Nat), (∀ t ∈ ts, Vt t) → (rawO n a (tx1 ts)).2 = none ∧ (rawO n a (tx1 ts)).1.map key3 = ts.map key3 ∧ ∀ u ∈ (rawO n a (tx1 ts)).1, u.ln = n
  | [], n, a, _ => ⟨rfl, rfl, fun u hu => by simp [tx1, rawO_nil] at hu⟩
  | t :: r, n, a, h => by
    have e : tx1 (t :: r) = 32 :: (t.tx ++ tx1 r) := rfl
    have hv := h t (List.mem_cons_self ..)
    rw [e, rawO_gap]
    cases r with
    | nil =>
      have e2 : t.tx ++ tx1 [] = t.tx := by simp [tx1]
      rw [e2, vt_end hv]
      exact ⟨rfl, rfl, fun u hu => by simp at hu; subst hu; rfl⟩
    | cons u r =>
      have e2 : tx1 (u :: r) = 32 :: (u.tx ++ tx1 r) := rfl
      obtain ⟨h1, h2, h3⟩ := tx1_lex (u :: r) n (a + 1 + t.tx.length) (fun x hx => h x (List.mem_cons_of_mem _ hx))
      have e3 : rawO n (a + 1) (t.tx ++ tx1 (u :: r)) = (⟨t.kd, t.tx, t.nu, n, ((a + 1 : Nat) : Int) + 1⟩ :: (rawO n (a + 1 + t.tx.length) (tx1 (u :: r))).1, (rawO n (a + 1 + t.tx.length) (tx1 (u :: r))).2) := by
        rw [e2]; exact vt_step hv n (a + 1) _
      rw [e3]
      refine ⟨h1, by simp only [List.map_cons] at h2 ⊢; rw [h2]; rfl, fun x hx => ?_⟩
      simp only [List.mem_cons] at hx
      rcases hx with rfl | hx
      · rfl
      · exact h3 x hx
def txtM : List Tok → List UInt8
  | [] => []
  | t :: r => t.tx ++ tx1 r
theorem lexM_txt (ts : List Tok) (hv : ∀ t ∈ ts, Vt t) (hl : ts.length ≤ 2000) : (lexM (txtM ts)).2 = none ∧ (lexM (txtM ts)).1.map key3 = ts.map key3 ∧ ∀ u ∈ (lexM (txtM ts)).1, u.ln = 1 := by
  have hx : (rawO 1 0 (txtM ts)).2 = none ∧ (rawO 1 0 (txtM ts)).1.map key3 = ts.map key3 ∧ ∀ u ∈ (rawO 1 0 (txtM ts)).1, u.ln = 1 := by
    cases ts with
    | nil => exact ⟨rfl, rfl, fun u hu => by simp [txtM, rawO_nil] at hu⟩
    | cons t r =>
      have h := tx1_lex (t :: r) 1 0 hv
      have e : tx1 (t :: r) = 32 :: txtM (t :: r) := rfl
      rw [e, rawO_gap] at h
      have hv' := hv t (List.mem_cons_self ..)
      cases r with
      | nil =>
        have e2 : txtM [t] = t.tx := by simp [txtM, tx1]
        rw [e2, vt_end hv']
        exact ⟨rfl, rfl, fun u hu => by simp at hu; subst hu; rfl⟩
      | cons u r =>
        obtain ⟨h1, h2, h3⟩ := tx1_lex (u :: r) 1 (0 + t.tx.length) (fun x hx => hv x (List.mem_cons_of_mem _ hx))
        have e3 : rawO 1 0 (txtM (t :: u :: r)) = (⟨t.kd, t.tx, t.nu, 1, ((0 : Nat) : Int) + 1⟩ :: (rawO 1 (0 + t.tx.length) (tx1 (u :: r))).1, (rawO 1 (0 + t.tx.length) (tx1 (u :: r))).2) := vt_step hv' 1 0 _
        rw [e3]
        refine ⟨h1, by simp only [List.map_cons] at h2 ⊢; rw [h2]; rfl, fun x hx => ?_⟩
        simp only [List.mem_cons] at hx
        rcases hx with rfl | hx
        · rfl
        · exact h3 x hx
  obtain ⟨h1, h2, h3⟩ := hx
  have hlen : (rawO 1 0 (txtM ts)).1.length = ts.length := by have := congrArg List.length h2; simpa using this
  rw [lexM_O, cap_of_ok (by omega) h1]
  exact ⟨rfl, h2, h3⟩
/-- Tokens stand one behind the other. -/
def aft (t u : Tok) : Prop := t.ln ≤ u.ln ∧ (t.ln = u.ln → t.co + t.tx.length ≤ u.co)
theorem aft_rawL (n : Int) : ∀ (f a : Nat) (l : List UInt8), (rawL n f a l).1.Pairwise aft
  | 0, a, l => by simp [rawL]
  | f + 1, a, l => by
    unfold rawL
    cases hs : sk l with
    | nil => simp
    | cons c r =>
      simp only
      cases tk ((c :: r).take (tl (c :: r))) with
      | none => simp
      | some x =>
        simp only [List.pairwise_cons]
        refine ⟨fun u hu => ?_, aft_rawL n f _ _⟩
        obtain ⟨h1, h2, h3, _⟩ := (rawL_bd n f _ _).1 u hu
        have h1' : n ≤ u.ln := h1
        have h3' : ((a + (l.length - (r.length + 1)) + tl (c :: r) : Nat) : Int) < u.co := h3
        exact ⟨h1', fun _ => by show ((a + (l.length - (r.length + 1)) : Nat) : Int) + 1 + (((c :: r).take (tl (c :: r))).length : Int) ≤ u.co; rw [tok_len]; omega⟩
theorem aft_rawLs : ∀ (n : Int) (L : List (List UInt8)), (rawLs (num n L)).1.Pairwise aft
  | n, [] => by simp [rawLs, num]
  | n, h :: t => by
    simp only [num, rawLs]
    cases hr : (raw n 0 h).2 with
    | some e => exact aft_rawL n _ 0 h
    | none =>
      simp only [List.pairwise_append]
      refine ⟨aft_rawL n _ 0 h, aft_rawLs (n + 1) t, fun x hx y hy => ?_⟩
      obtain ⟨_, h2, _, _⟩ := (raw_bd n h).1 x hx
      have hM : ∀ z ∈ t, z.length ≤ (t.map List.length).sum := fun z hz => by
        induction t with
        | nil => simp at hz
        | cons w t ih =>
          simp only [List.mem_cons] at hz
          simp only [List.map_cons, List.sum_cons]
          rcases hz with rfl | hz
          · omega
          · have : z.length ≤ (t.map List.length).sum := by
              clear hy hx h2 ih
              induction t with
              | nil => simp at hz
              | cons w' t ih =>
                simp only [List.mem_cons] at hz
                simp only [List.map_cons, List.sum_cons]
                rcases hz with rfl | hz
                · omega
                · have := ih hz; omega
            omega
      obtain ⟨h1, _, _, _⟩ := (rawLs_bd _ (n + 1) t hM).1 y hy
      have h2' : x.ln ≤ n := h2
      have h1' : n + 1 ≤ y.ln := h1
      exact ⟨by omega, fun e => by omega⟩
theorem aft_lexM (l : List UInt8) : (lexM l).1.Pairwise aft := by
  cases hq : (lexM l).2 with
  | some e => rw [lexM_err hq]; simp
  | none => have := aft_rawLs 1 (spl l); rw [(lexM_ok hq).1] at this; exact this
end Go.Proofs.YtnajffpllhckkaaDoor
