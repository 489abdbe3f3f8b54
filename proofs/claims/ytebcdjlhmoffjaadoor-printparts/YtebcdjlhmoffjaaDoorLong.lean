/-
  A TREE'S TEXT: brackets in it fit, and it has as many bytes as the tree has parts. No program in it.
-/
import Derived.Test.YtebcdjlhmoffjaaDoorFewM
namespace Go.Proofs.YtebcdjlhmoffjaaDoor
open Go.RowKit
set_option linter.unusedVariables false
set_option linter.unusedSimpArgs false
/-- The gap ahead of a word. -/
def gapW (t : Bool) (x : Wd) : List UInt8 := if x.1 = 2 then [] else if t then [] else [32]
/-- The text of words. -/
def txW : List Wd → Bool → List UInt8
  | [], _ => []
  | x :: l, t => (gapW t x ++ x.2) ++ txW l (decide (x.1 = 1))
def tgW : List Wd → Bool → Bool
  | [], t => t
  | x :: l, _ => tgW l (decide (x.1 = 1))
theorem txW_app (a b : List Wd) : ∀ t, txW (a ++ b) t = txW a t ++ txW b (tgW a t) := by
  induction a with
  | nil => intro t; rfl
  | cons x r ih => intro t; simp only [List.cons_append, txW, tgW, ih, List.append_assoc]
theorem tgW_app (a b : List Wd) : ∀ t, tgW (a ++ b) t = tgW b (tgW a t) := by
  induction a with
  | nil => intro t; rfl
  | cons x r ih => intro t; simp only [List.cons_append, tgW, ih]
def wsOK (l : List Wd) : Prop := ∀ x ∈ l, x.1 = 0 ∨ x.1 = 1 ∨ x.1 = 2
theorem wdA_some {s o : List UInt8} {t : Bool} {o' : List UInt8} {t' : Bool} (h : wdA s (some (o, t)) = some (o', t')) : o' = o ++ ((if t then [] else [32]) ++ s) ∧ t' = false := by
  unfold wdA at h
  simp only at h
  generalize (o ++ ((if t then [] else [32]) ++ s)) = z at *
  split at h
  · cases h; exact ⟨rfl, rfl⟩
  · cases h
theorem tightA_some {st : St} {o' : List UInt8} {t' : Bool} (h : tightA st = some (o', t')) : ∃ t, st = some (o', t) ∧ t' = true := by
  cases st with
  | none => cases h
  | some p => obtain ⟨o, t⟩ := p; cases h; exact ⟨t, rfl, rfl⟩
theorem oneA_tx {x : Wd} (hx : x.1 = 0 ∨ x.1 = 1 ∨ x.1 = 2) {o : List UInt8} {t : Bool} {o' : List UInt8} {t' : Bool} (h : oneA x (some (o, t)) = some (o', t')) : o' = o ++ (gapW t x ++ x.2) ∧ t' = decide (x.1 = 1) := by
  obtain ⟨k, s⟩ := x
  unfold oneA gapW at *
  simp only at hx h ⊢
  rcases hx with rfl | rfl | rfl
  · obtain ⟨rfl, rfl⟩ := wdA_some h
    exact ⟨rfl, rfl⟩
  · obtain ⟨t1, h1, rfl⟩ := tightA_some h
    obtain ⟨rfl, rfl⟩ := wdA_some h1
    exact ⟨rfl, rfl⟩
  · obtain ⟨rfl, rfl⟩ := wdA_some (o := o) (t := true) h
    exact ⟨rfl, rfl⟩
theorem runA_tx (l : List Wd) : ∀ {o : List UInt8} {t : Bool} {o' : List UInt8} {t' : Bool}, wsOK l → runA l (some (o, t)) = some (o', t') → o' = o ++ txW l t ∧ t' = tgW l t := by
  induction l with
  | nil => intro o t o' t' _ h; simp [runA] at h; obtain ⟨rfl, rfl⟩ := h; simp [txW, tgW]
  | cons x r ih =>
    intro o t o' t' hk h
    rw [runA_cons] at h
    cases hq : oneA x (some (o, t)) with
    | none => rw [hq, runA_none] at h; cases h
    | some p =>
      obtain ⟨o1, t1⟩ := p
      rw [hq] at h
      obtain ⟨rfl, rfl⟩ := oneA_tx (hk x (by simp)) hq
      obtain ⟨rfl, rfl⟩ := ih (fun y hy => hk y (by simp [hy])) h
      simp only [txW, tgW, List.append_assoc, and_self]
/-- Brackets, read from so many open ones on. -/
def scan : List UInt8 → Nat × Nat → Option (Nat × Nat)
  | [], p => some p
  | b :: l, (r, c) => if b = 40 then scan l (r + 1, c) else if b = 41 then (if r = 0 then none else scan l (r - 1, c)) else if b = 123 then scan l (r, c + 1) else if b = 125 then (if c = 0 then none else scan l (r, c - 1)) else scan l (r, c)
theorem scan_app (a b : List UInt8) : ∀ p, scan (a ++ b) p = (scan a p).bind (scan b) := by
  induction a with
  | nil => intro p; rfl
  | cons x r ih =>
    rintro ⟨m, n⟩
    simp only [List.cons_append, scan, ih]
    repeat' split
    all_goals rfl
def Bal (l : List UInt8) : Prop := ∀ p, scan l p = some p
theorem Bal.app {a b : List UInt8} (ha : Bal a) (hb : Bal b) : Bal (a ++ b) := fun p => by rw [scan_app, ha p]; exact hb p
def plB (b : UInt8) : Bool := b != 40 && b != 41 && b != 123 && b != 125
theorem Bal.pl {l : List UInt8} (h : l.all plB = true) : Bal l := by
  induction l with
  | nil => intro p; rfl
  | cons b r ih =>
    rintro ⟨m, n⟩
    rw [List.all_cons, Bool.and_eq_true] at h
    have h1 := h.1
    simp only [plB, Bool.and_eq_true, bne_iff_ne, ne_eq] at h1
    simp only [scan, if_neg h1.1.1.1, if_neg h1.1.1.2, if_neg h1.1.2, if_neg h1.2]
    exact ih h.2 _
theorem Bal.round {l : List UInt8} (h : Bal l) : Bal (40 :: (l ++ [41])) := by
  rintro ⟨m, n⟩
  simp only [scan, if_true]
  rw [scan_app, h]
  simp [scan]
theorem Bal.curly {l : List UInt8} (h : Bal l) : Bal (123 :: (l ++ [125])) := by
  rintro ⟨m, n⟩
  show scan (l ++ [125]) (m, n + 1) = _
  rw [scan_app, h]
  simp [scan]
def gpN (t : Bool) : Nat := if t then 0 else 1
/-- Words that end so that a gap comes next, whose text has so many bytes at least, and brackets that fit. -/
def GW (l : List Wd) (n : Nat) : Prop := wsOK l ∧ ∀ t, tgW l t = false ∧ n + gpN t ≤ (txW l t).length ∧ Bal (txW l t)
theorem GW.mono {l : List Wd} {m n : Nat} (h : GW l n) (hm : m ≤ n) : GW l m := ⟨h.1, fun t => ⟨(h.2 t).1, by have := (h.2 t).2.1; omega, (h.2 t).2.2⟩⟩
theorem GW.app {a b : List Wd} {m n : Nat} (ha : GW a m) (hb : GW b n) : GW (a ++ b) (m + n + 1) := by
  refine ⟨fun x hx => (List.mem_append.1 hx).elim (ha.1 x) (hb.1 x), fun t => ?_⟩
  obtain ⟨a1, a2, a3⟩ := ha.2 t
  rw [txW_app, tgW_app, a1]
  obtain ⟨b1, b2, b3⟩ := hb.2 false
  refine ⟨b1, ?_, a3.app b3⟩
  simp only [List.length_append, gpN] at *
  simp at b2
  omega
theorem GW.word {s : List UInt8} (h : s.all plB = true) : GW [pw s] s.length := by
  refine ⟨fun x hx => by simp [pw] at hx; simp [hx], fun t => ⟨rfl, ?_, ?_⟩⟩
  · cases t <;> simp [txW, pw, gapW, gpN]
  · refine Bal.pl ?_
    cases t <;> simp [txW, pw, gapW, plB] <;> simpa [plB] using h
theorem GW.cons {s : List UInt8} {l : List Wd} {n : Nat} (h : s.all plB = true) (hl : GW l n) : GW (pw s :: l) (s.length + n + 1) := (GW.word h).app hl
theorem GW.names {ns : List (List UInt8)} {l : List Wd} {n : Nat} (h : ∀ s ∈ ns, s.all plB = true) (hl : GW l n) : GW (ns.map pw ++ l) n := by
  induction ns with
  | nil => exact hl
  | cons s r ih => exact (GW.cons (h s (by simp)) (ih fun s hs => h s (by simp [hs]))).mono (by omega)
theorem GW.round {l : List Wd} {n : Nat} (h : GW l n) : GW (brW l) (n + 2) := by
  refine ⟨?_, fun t => ?_⟩
  · intro x hx
    simp only [brW, List.mem_cons, List.mem_append, List.not_mem_nil, or_false] at hx
    rcases hx with rfl | hx | rfl
    · simp
    · exact h.1 x hx
    · simp
  · obtain ⟨h1, h2, h3⟩ := h.2 true
    have e : txW (brW l) t = gapW t (1, [40]) ++ (40 :: (txW l true ++ [41])) := by
      unfold brW
      simp only [txW, decide_true, List.append_assoc, List.cons_append, List.nil_append]
      rw [txW_app]
      simp [txW, gapW]
    refine ⟨?_, ?_, ?_⟩
    · unfold brW; simp [tgW, tgW_app]
    · rw [e]
      simp [gpN] at h2
      cases t <;> simp [gapW, gpN] <;> omega
    · rw [e]
      refine Bal.app (Bal.pl ?_) h3.round
      cases t <;> rfl
theorem GW.curly {l : List Wd} {n : Nat} (h : GW l n) : GW (pw [123] :: (l ++ [pw [125]])) (n + 1) := by
  refine ⟨?_, fun t => ?_⟩
  · intro x hx
    simp only [List.mem_cons, List.mem_append, List.not_mem_nil, or_false] at hx
    rcases hx with rfl | hx | rfl
    · simp [pw]
    · exact h.1 x hx
    · simp [pw]
  · obtain ⟨h1, h2, h3⟩ := h.2 false
    have e : txW (pw [123] :: (l ++ [pw [125]])) t = gapW t (0, [123]) ++ (123 :: ((txW l false ++ [32]) ++ [125])) := by
      simp only [txW, pw, List.append_assoc, List.cons_append, List.nil_append, Nat.zero_ne_one, decide_false]
      rw [txW_app, h1]
      simp [txW, gapW]
    refine ⟨?_, ?_, ?_⟩
    · simp [tgW, tgW_app, pw]
    · rw [e]
      simp [gpN] at h2
      cases t <;> simp [gapW, gpN] <;> omega
    · rw [e]
      refine Bal.app (Bal.pl ?_) (Bal.curly (h3.app (Bal.pl rfl)))
      cases t <;> rfl
theorem GW.slash {l : List Wd} {n : Nat} (h : GW l n) : GW ((1, [92]) :: l) (n + 1) := by
  refine ⟨?_, fun t => ?_⟩
  · intro x hx
    rcases List.mem_cons.1 hx with rfl | hx
    · simp
    · exact h.1 x hx
  · obtain ⟨h1, h2, h3⟩ := h.2 true
    have e : txW ((1, [92]) :: l) t = (gapW t (1, [92]) ++ [92]) ++ txW l true := by simp [txW]
    refine ⟨by simpa [tgW] using h1, ?_, ?_⟩
    · rw [e]
      simp [gpN] at h2
      cases t <;> simp [gapW, gpN] <;> omega
    · rw [e]
      refine Bal.app (Bal.pl ?_) h3
      cases t <;> rfl
theorem GW.sep {s : List UInt8} (hs : s.all plB = true) (f : Tr → Nat) : ∀ (l : List Tr), l ≠ [] → (∀ k ∈ l, GW (ws k) (f k)) → GW (sepW s (l.map ws)) ((l.map f).sum) := by
  intro l hl h
  obtain ⟨a, r, rfl⟩ : ∃ a r, l = a :: r := by cases l with | nil => exact absurd rfl hl | cons a r => exact ⟨a, r, rfl⟩
  clear hl
  have H : ∀ (r : List Tr) (b : List Wd) (n : Nat), GW b n → (∀ k ∈ r, GW (ws k) (f k)) → GW (b ++ (r.map ws).flatMap fun b => pw s :: b) (n + (r.map f).sum) := by
    intro r
    induction r with
    | nil => intro b n hb _; simpa using hb
    | cons k r ih =>
      intro b n hb hk
      have h1 := (hb.app (GW.cons hs (hk k (by simp)))).mono (m := n + f k) (by omega)
      have h2 := ih _ _ h1 fun k hk' => hk k (by simp [hk'])
      simp only [List.map_cons, List.flatMap_cons, List.sum_cons]
      rw [← List.append_assoc]
      exact h2.mono (by omega)
  simp only [List.map_cons, List.sum_cons]
  exact H r (ws a) (f a) (h a (by simp)) fun k hk => h k (by simp [hk])
theorem pt_pl {c : UInt8} (h : pt c = true) : plB c = true := by
  have e : ∀ k : Nat, k < 256 → c = UInt8.ofNat k → c.toNat = k := by intro k hk e; rw [e]; simp; omega
  simp only [pt, sm, gr, dg, Bool.or_eq_true, Bool.and_eq_true, decide_eq_true_eq] at h
  simp only [plB, Bool.and_eq_true, bne_iff_ne, ne_eq]
  refine ⟨⟨⟨fun q => ?_, fun q => ?_⟩, fun q => ?_⟩, fun q => ?_⟩
  · have := e 40 (by omega) q; omega
  · have := e 41 (by omega) q; omega
  · have := e 123 (by omega) q; omega
  · have := e 125 (by omega) q; omega
theorem wd_pl {l : List UInt8} (h : wd l = true) : l.all plB = true := by
  unfold wd at h
  simp only [Bool.and_eq_true, List.all_eq_true] at *
  exact fun c hc => pt_pl (h.2 c hc)
theorem nm_pl {l : List UInt8} (h : nm l = true) : l.all plB = true := by
  unfold nm at h; simp only [Bool.and_eq_true] at h; exact wd_pl h.1.1
theorem cn_pl {l : List UInt8} (h : cn l = true) : l.all plB = true := by
  unfold cn at h; simp only [Bool.and_eq_true] at h; exact wd_pl h.1
theorem digit_pt {k : Nat} (h : k < 10) : pt (UInt8.ofNat (48 + k)) = true := by
  have : (UInt8.ofNat (48 + k)).toNat = 48 + k := by simp; omega
  simp only [pt, dg, this, Bool.or_eq_true, Bool.and_eq_true, decide_eq_true_eq]
  right; omega
theorem dec_pt (u : Nat) : (Lib.decDigits u).all pt = true := by
  induction u using Nat.strongRecOn with
  | _ u ih =>
    rw [Lib.decDigits]
    split
    · rename_i h; rw [List.all_cons, digit_pt h]; rfl
    · rename_i h
      rw [List.all_append, ih (u / 10) (by omega)]
      rw [List.all_cons, digit_pt (Nat.mod_lt u (by omega : 0 < 10))]; rfl
theorem itoa_pl {n : Int} (h : 0 ≤ n) : (Lib.itoa n).all plB = true := by
  unfold Lib.itoa
  rw [if_neg (by omega)]
  have := dec_pt n.toNat
  simp only [List.all_eq_true] at *
  exact fun c hc => pt_pl (this c hc)
theorem names_pl {l : List (List UInt8)} (h : namesM l = true) : ∀ s ∈ l, s.all plB = true := by
  unfold namesM at h
  simp only [Bool.and_eq_true, List.all_eq_true] at h
  exact fun s hs => nm_pl (h.1 s hs)
theorem op_pl {l : List UInt8} (h : (isOp l || isCmp l) = true) : l.all plB = true ∧ 1 ≤ l.length := by
  unfold isOp isCmp at h
  simp only [Bool.or_eq_true, beq_iff_eq] at h
  rcases h with (((rfl | rfl) | rfl) | rfl) | (rfl | rfl) <;> exact ⟨rfl, by simp⟩
theorem GW.at {e : Tr} {n : Nat} (h : GW (ws e) n) : GW (atW (e, ws e)) n := by
  unfold atW
  split
  · exact h
  · exact h.round.mono (by omega)
theorem g0_map (l : List Tr) (i : Nat) (h : i < l.length) : g0 (l.map fun k => (k, ws k)) i = (l[i], ws l[i]) := by
  unfold g0
  rw [List.getD_eq_getElem?_getD, List.getElem?_map, List.getElem?_eq_getElem h]
  rfl
theorem map_ws (l : List Tr) : (l.map fun k => (k, ws k)).map (·.2) = l.map ws := by simp
theorem len1 {α : Type} {l : List α} (h : l.length = 1) : ∃ a, l = [a] := by
  match l, h with
  | [a], _ => exact ⟨a, rfl⟩
theorem len2 {α : Type} {l : List α} (h : l.length = 2) : ∃ a b, l = [a, b] := by
  match l, h with
  | [a, b], _ => exact ⟨a, b, rfl⟩
theorem len3 {α : Type} {l : List α} (h : l.length = 3) : ∃ a b c, l = [a, b, c] := by
  match l, h with
  | [a, b, c], _ => exact ⟨a, b, c, rfl⟩
theorem ws_good (e : Tr) : ∀ n, (∀ x ∈ po e n, soundM x.2 = true) → GW (ws e) (tsz e) := by
  induction e using Tr.ind with
  | _ e ih =>
    intro n hall
    have hs := hall _ (po_self e n)
    have hk : ∀ k ∈ e.ks, GW (ws k) (tsz k) := fun k hk => ih k hk (n + 1) fun x hx => hall x (po_kid hk hx)
    clear ih hall
    unfold soundM at hs
    simp only [Bool.and_eq_true] at hs
    obtain ⟨⟨⟨⟨hnum, hname⟩, hnames⟩, hkids⟩, -⟩ := hs
    rw [ws_eq, tsz_eq]
    obtain ⟨kd, nm', nu, ns, ks⟩ := e
    simp only at *
    unfold hasNumM at hnum
    unfold hasNameM at hname
    unfold hasNamesM at hnames
    unfold hasKidsM at hkids
    simp only at *
    by_cases h1 : kd = 1
    · subst h1
      have hl : ks = [] := by simpa using hkids
      subst hl
      have h0 : 0 ≤ nu := by simp at hnum; omega
      have := itoa_ne nu
      have hlen : 1 ≤ (Lib.itoa nu).length := by cases hq : Lib.itoa nu with | nil => exact absurd hq this | cons a r => simp
      simp only [wsF, if_true]
      exact (GW.word (itoa_pl h0)).mono (by simpa using hlen)
    by_cases h2 : kd = 2
    · subst h2
      have hl : ks = [] := by simpa using hkids
      subst hl
      have hn : nm nm' = true := by simpa using hname
      have hlen : 1 ≤ nm'.length := by cases nm' with | nil => simp [nm, wd] at hn | cons a r => simp
      simp [wsF]
      exact (GW.word (nm_pl hn)).mono (by simpa using hlen)
    by_cases h3 : kd = 3
    · subst h3
      have hl : ks = [] := by simpa using hkids
      subst hl
      have hn : cn nm' = true := by simpa using hname
      have hlen : 1 ≤ nm'.length := by cases nm' with | nil => simp [cn, wd] at hn | cons a r => simp
      simp [wsF]
      exact (GW.word (cn_pl hn)).mono (by simpa using hlen)
    by_cases h4 : kd = 4
    · subst h4
      obtain ⟨a, rfl⟩ := len1 (l := ks) (by simpa using hkids)
      have hn : namesM ns = true := by simp at hnames; exact hnames.2
      simp [wsF, g0]
      exact (GW.slash (GW.names (names_pl hn) (GW.cons (s := [45, 62]) rfl (hk a (by simp))))).mono (by simp; omega)
    by_cases h5 : kd = 5
    · subst h5
      obtain ⟨a, b, rfl⟩ := len2 (l := ks) (by simpa using hkids)
      simp [wsF, g0]
      exact ((hk a (by simp)).at.app (hk b (by simp)).at).mono (by omega)
    by_cases h6 : kd = 6
    · subst h6
      obtain ⟨a, b, rfl⟩ := len2 (l := ks) (by simpa using hkids)
      have hn : namesM ns = true := by simp at hnames; exact hnames.2
      simp [wsF, g0]
      exact (GW.cons (s := [108, 101, 116]) rfl (GW.names (names_pl hn) (GW.cons (s := [61]) rfl ((hk a (by simp)).app (GW.cons (s := [105, 110]) rfl (hk b (by simp))))))).mono (by simp; omega)
    by_cases h7 : kd = 7
    · subst h7
      have hl : 1 < ks.length := by simpa using hkids
      obtain ⟨a, r, rfl⟩ : ∃ a r, ks = a :: r := by cases ks with | nil => simp at hl | cons a r => exact ⟨a, r, rfl⟩
      have hr : r ≠ [] := by intro q; subst q; simp at hl
      have hsep := GW.sep (s := [59]) rfl tsz r hr fun k hk' => hk k (by simp [hk'])
      have := GW.cons (s := [99, 97, 115, 101]) rfl ((hk a (by simp)).app (GW.cons (s := [111, 102]) rfl hsep.curly))
      simp [wsF, g0, Function.comp_def] at this ⊢
      exact this.mono (by omega)
    by_cases h8 : kd = 8
    · subst h8
      obtain ⟨a, rfl⟩ := len1 (l := ks) (by simpa using hkids)
      have hn : namesM ns = true := by simpa using hnames
      have hc : cn nm' = true := by simpa using hname
      simp [wsF, g0]
      exact (GW.cons (cn_pl hc) (GW.names (names_pl hn) (GW.cons (s := [45, 62]) rfl (hk a (by simp))))).mono (by simp; omega)
    by_cases h9 : kd = 9
    · subst h9
      obtain ⟨a, b, rfl⟩ := len2 (l := ks) (by simpa using hkids)
      obtain ⟨ho, ho2⟩ := op_pl (l := nm') (by simpa using hname)
      simp [wsF, g0]
      exact ((hk a (by simp)).at.app (GW.cons ho (hk b (by simp)).at)).mono (by omega)
    by_cases h10 : kd = 10
    · subst h10
      obtain ⟨a, b, c, rfl⟩ := len3 (l := ks) (by simpa using hkids)
      simp [wsF, g0]
      exact (GW.cons (s := [105, 102]) rfl ((hk a (by simp)).app (GW.cons (s := [116, 104, 101, 110]) rfl ((hk b (by simp)).app (GW.cons (s := [101, 108, 115, 101]) rfl (hk c (by simp))))))).mono (by simp; omega)
    by_cases h11 : kd = 11
    · subst h11
      have hl : 0 < ks.length := by simpa using hkids
      have hr : ks ≠ [] := by intro q; subst q; simp at hl
      have hsep := GW.sep (s := [59]) rfl tsz ks hr hk
      have := GW.cons (s := [100, 111]) rfl hsep.curly
      simp [wsF, Function.comp_def] at this ⊢
      exact this.mono (by omega)
    by_cases h12 : kd = 12
    · subst h12
      have hl : 0 < ks.length := by simpa using hkids
      have hr : ks ≠ [] := by intro q; subst q; simp at hl
      have hsep := GW.sep (s := [59]) rfl tsz ks hr hk
      have := GW.cons (s := [100, 111, 115]) rfl hsep.curly
      simp [wsF, Function.comp_def] at this ⊢
      exact this.mono (by omega)
    by_cases h13 : kd = 13
    · subst h13
      obtain ⟨a, rfl⟩ := len1 (l := ks) (by simpa using hkids)
      have hn : namesM ns = true := by simp at hnames; exact hnames.2
      simp [wsF, g0]
      exact (GW.names (names_pl hn) (GW.cons (s := [60, 45]) rfl (hk a (by simp)))).mono (by simp; omega)
    · exfalso
      simp [h1, h2, h3, h4, h5, h6, h7, h8, h9, h10, h11, h12, h13] at hkids
/-- The text of a tree that may be. -/
theorem expr_text {e : Tr} {o : List UInt8} {t : Bool} (h : ∀ x ∈ po e 1, soundM x.2 = true) (hp : ptA 0 (pExpr e) (some ([], true)) = some (o, t)) : o = txW (ws e) true ∧ Bal o ∧ tsz e ≤ o.length := by
  have hg := ws_good e 1 h
  have h2 : runA (ws e) (some ([], true)) = some (o, t) := hp
  obtain ⟨rfl, rfl⟩ := runA_tx _ hg.1 h2
  obtain ⟨_, h4, h5⟩ := hg.2 true
  exact ⟨rfl, h5, by simpa [gpN] using h4⟩
end Go.Proofs.YtebcdjlhmoffjaaDoor
