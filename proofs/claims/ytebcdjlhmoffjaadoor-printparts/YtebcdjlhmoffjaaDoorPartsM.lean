/-
  THE MATHEMATICS OF PrintParts: a tree's words have those of its Kids, in their order; what a search for texts, one behind the other, finds. No program in it.
-/
import Derived.Test.YtebcdjlhmoffjaaDoorLong
namespace Go.Proofs.YtebcdjlhmoffjaaDoor
set_option linter.unusedVariables false
set_option linter.unusedSimpArgs false
/-- Texts that stand in a text, one behind the other. -/
def Occ : List (List UInt8) → List UInt8 → Prop
  | [], s => True
  | k :: r, s => ∃ a b, s = a ++ (k ++ b) ∧ Occ r b
theorem Occ.more {l : List (List UInt8)} {s : List UInt8} (h : Occ l s) (c : List UInt8) : Occ l (c ++ s) := by
  cases l with
  | nil => trivial
  | cons k r =>
    obtain ⟨a, b, rfl, h2⟩ := h
    exact ⟨c ++ a, b, by simp, h2⟩
theorem Occ.skip {k : List UInt8} {r : List (List UInt8)} {s : List UInt8} (h : Occ (k :: r) s) : Occ r s := by
  obtain ⟨a, b, rfl, h2⟩ := h
  have := (h2.more k).more a
  exact this
/-- Words of trees that stand in words, one behind the other. -/
def Seg : List Tr → List Wd → Prop
  | [], l => True
  | k :: r, l => ∃ a b, l = a ++ (ws k ++ b) ∧ Seg r b
theorem Seg.more {ks : List Tr} {l : List Wd} (h : Seg ks l) (c : List Wd) : Seg ks (c ++ l) := by
  cases ks with
  | nil => trivial
  | cons k r =>
    obtain ⟨a, b, rfl, h2⟩ := h
    exact ⟨c ++ a, b, by simp, h2⟩
theorem Seg.cons {k : Tr} {r : List Tr} {l : List Wd} (h : Seg r l) : Seg (k :: r) (ws k ++ l) := ⟨[], l, rfl, h⟩
theorem tx_gap (l : List Wd) (t : Bool) : ∃ g, txW l t = g ++ txW l true := by
  cases l with
  | nil => exact ⟨[], rfl⟩
  | cons x r =>
    refine ⟨gapW t x, ?_⟩
    have : gapW true x = [] := by unfold gapW; split <;> simp
    simp only [txW, this, List.nil_append, List.append_assoc]
theorem Seg.occ {ks : List Tr} : ∀ {l : List Wd} (t : Bool), Seg ks l → Occ (ks.map fun k => txW (ws k) true) (txW l t) := by
  induction ks with
  | nil => intro l t _; trivial
  | cons k r ih =>
    rintro l t ⟨a, b, rfl, h2⟩
    obtain ⟨g, hg⟩ := tx_gap (ws k) (tgW a t)
    refine ⟨txW a t ++ g, txW b (tgW (ws k) (tgW a t)), ?_, ih _ h2⟩
    rw [txW_app, txW_app, hg]
    simp
theorem Seg.at {k : Tr} {r : List Tr} {l : List Wd} (h : Seg r l) : Seg (k :: r) (atW (k, ws k) ++ l) := by
  unfold atW
  split
  · exact h.cons
  · refine ⟨[(1, [40])], [(2, [41])] ++ l, ?_, h.more _⟩
    simp [brW]
theorem Seg.sep (s : List UInt8) (c : List Wd) : ∀ ks : List Tr, Seg ks (sepW s (ks.map ws) ++ c)
  | [] => trivial
  | k :: r => by
    have hr : ∀ q : List Tr, Seg q (((q.map ws).flatMap fun b => pw s :: b) ++ c) := by
      intro q
      induction q with
      | nil => trivial
      | cons a q ih =>
        refine ⟨[pw s], ((q.map ws).flatMap fun b => pw s :: b) ++ c, ?_, ih⟩
        simp
    refine ⟨[], ((r.map ws).flatMap fun b => pw s :: b) ++ c, ?_, hr r⟩
    simp [sepW]
theorem ws_seg {e : Tr} (h : soundM e = true) : Seg e.ks (ws e) := by
  have hk : hasKidsM e = true := by
    unfold soundM at h
    simp only [Bool.and_eq_true] at h
    exact h.1.2
  rw [ws_eq]
  obtain ⟨kd, nm', nu, ns, ks⟩ := e
  unfold hasKidsM at hk
  simp only at hk ⊢
  by_cases h1 : kd = 1 ∨ kd = 2 ∨ kd = 3
  · have hl : ks = [] := by rcases h1 with rfl | rfl | rfl <;> simpa using hk
    subst hl
    trivial
  by_cases h4 : kd = 4
  · subst h4
    obtain ⟨a, rfl⟩ := len1 (by simpa using hk)
    exact ⟨(1, [92]) :: (ns.map pw ++ [pw [45, 62]]), [], by simp [wsF, g0], trivial⟩
  by_cases h5 : kd = 5
  · subst h5
    obtain ⟨a, b, rfl⟩ := len2 (by simpa using hk)
    have : wsF ⟨5, nm', nu, ns, [a, b]⟩ ([a, b].map fun k => (k, ws k)) = atW (a, ws a) ++ (atW (b, ws b) ++ []) := by simp [wsF, g0]
    rw [this]
    exact Seg.at (Seg.at trivial)
  by_cases h6 : kd = 6
  · subst h6
    obtain ⟨a, b, rfl⟩ := len2 (by simpa using hk)
    exact ⟨pw [108, 101, 116] :: (ns.map pw ++ [pw [61]]), pw [105, 110] :: ws b, by simp [wsF, g0], [pw [105, 110]], [], by simp, trivial⟩
  by_cases h7 : kd = 7
  · subst h7
    have hl : 1 < ks.length := by simpa using hk
    match ks, hl with
    | a :: r, _ =>
      exact ⟨[pw [99, 97, 115, 101]], pw [111, 102] :: pw [123] :: (sepW [59] (r.map ws) ++ [pw [125]]), by simp [wsF, g0, map_ws]; rfl, (Seg.sep [59] [pw [125]] r).more [pw [111, 102], pw [123]]⟩
  by_cases h8 : kd = 8
  · subst h8
    obtain ⟨a, rfl⟩ := len1 (by simpa using hk)
    exact ⟨pw nm' :: (ns.map pw ++ [pw [45, 62]]), [], by simp [wsF, g0], trivial⟩
  by_cases h9 : kd = 9
  · subst h9
    obtain ⟨a, b, rfl⟩ := len2 (by simpa using hk)
    have : wsF ⟨9, nm', nu, ns, [a, b]⟩ ([a, b].map fun k => (k, ws k)) = atW (a, ws a) ++ ([pw nm'] ++ (atW (b, ws b) ++ [])) := by simp [wsF, g0]
    rw [this]
    exact Seg.at ((Seg.at (r := []) (l := []) trivial).more _)
  by_cases h10 : kd = 10
  · subst h10
    obtain ⟨a, b, c, rfl⟩ := len3 (by simpa using hk)
    exact ⟨[pw [105, 102]], pw [116, 104, 101, 110] :: (ws b ++ (pw [101, 108, 115, 101] :: ws c)), by simp [wsF, g0], [pw [116, 104, 101, 110]], pw [101, 108, 115, 101] :: ws c, by simp, [pw [101, 108, 115, 101]], [], by simp, trivial⟩
  by_cases h11 : kd = 11
  · subst h11
    have : wsF ⟨11, nm', nu, ns, ks⟩ (ks.map fun k => (k, ws k)) = [pw [100, 111], pw [123]] ++ (sepW [59] (ks.map ws) ++ [pw [125]]) := by simp [wsF, g0, map_ws]; rfl
    rw [this]
    exact (Seg.sep [59] [pw [125]] ks).more _
  by_cases h12 : kd = 12
  · subst h12
    have : wsF ⟨12, nm', nu, ns, ks⟩ (ks.map fun k => (k, ws k)) = [pw [100, 111, 115], pw [123]] ++ (sepW [59] (ks.map ws) ++ [pw [125]]) := by simp [wsF, g0, map_ws]; rfl
    rw [this]
    exact (Seg.sep [59] [pw [125]] ks).more _
  by_cases h13 : kd = 13
  · subst h13
    obtain ⟨a, rfl⟩ := len1 (by simpa using hk)
    exact ⟨ns.map pw ++ [pw [60, 45]], [], by simp [wsF, g0], trivial⟩
  simp only [not_or] at h1
  exfalso
  simp [h1, h4, h5, h6, h7, h8, h9, h10, h11, h12, h13] at hk
/-- The first word of a text has a gap ahead, or none behind. -/
def HdW (l : List Wd) : Prop := ∃ x r, l = x :: r ∧ x.1 ≠ 2
theorem HdW.app {l : List Wd} (h : HdW l) (r : List Wd) : HdW (l ++ r) := by
  obtain ⟨x, q, rfl, h2⟩ := h
  exact ⟨x, q ++ r, rfl, h2⟩
theorem HdW.names {l : List Wd} (h : HdW l) (ns : List (List UInt8)) : HdW (ns.map pw ++ l) := by
  cases ns with
  | nil => exact h
  | cons a r => exact ⟨pw a, r.map pw ++ l, rfl, by simp [pw]⟩
theorem hd_pw (s : List UInt8) (r : List Wd) : HdW (pw s :: r) := ⟨_, _, rfl, by simp [pw]⟩
theorem ws_hd (e : Tr) : ∀ n, (∀ x ∈ po e n, soundM x.2 = true) → HdW (ws e) := by
  induction e using Tr.ind with
  | _ e ih =>
    intro n hall
    have hs := hall _ (po_self e n)
    have hk : ∀ k ∈ e.ks, HdW (ws k) := fun k hk => ih k hk (n + 1) fun x hx => hall x (po_kid hk hx)
    clear ih hall
    have hkids : hasKidsM e = true := by
      unfold soundM at hs
      simp only [Bool.and_eq_true] at hs
      exact hs.1.2
    clear hs
    rw [ws_eq]
    obtain ⟨kd, nm', nu, ns, ks⟩ := e
    unfold hasKidsM at hkids
    simp only at hkids hk ⊢
    have hat : ∀ k ∈ ks, ∀ r, HdW (atW (k, ws k) ++ r) := by
      intro k hk' r
      unfold atW
      split
      · exact (hk k hk').app r
      · exact ⟨(1, [40]), (ws k ++ [(2, [41])]) ++ r, by simp [brW], by simp⟩
    unfold wsF
    by_cases h5 : kd = 5
    · subst h5
      obtain ⟨a, b, rfl⟩ := len2 (by simpa using hkids)
      simp [g0]
      exact hat a (by simp) _
    by_cases h9 : kd = 9
    · subst h9
      obtain ⟨a, b, rfl⟩ := len2 (by simpa using hkids)
      simp [g0]
      exact hat a (by simp) _
    by_cases h13 : kd = 13
    · subst h13
      simp
      exact (hd_pw _ _).names ns
    by_cases h4 : kd = 4
    · subst h4
      simp
      exact ⟨_, _, rfl, by simp⟩
    repeat' split
    all_goals first | exact hd_pw _ _ | (exfalso; simp_all; done)
theorem tx_false {l : List Wd} (h : HdW l) : txW l false = 32 :: txW l true := by
  obtain ⟨x, r, rfl, h2⟩ := h
  simp [txW, gapW, h2]
def dMain : List UInt8 := [109, 97, 105, 110]
/-- The text of a program of two names, both of one tree. -/
theorem two_text {e : Tr} {n : List UInt8} (h : ∀ x ∈ po e 1, soundM x.2 = true) : wsOK (pgW ⟨[], [⟨n, e⟩, ⟨dMain, e⟩]⟩) ∧ txW (pgW ⟨[], [⟨n, e⟩, ⟨dMain, e⟩]⟩) true = [123, 32] ++ n ++ [32, 61, 32] ++ txW (ws e) true ++ [32, 59, 32, 109, 97, 105, 110, 32, 61, 32] ++ txW (ws e) true ++ [32, 125] := by
  have hg := ws_good e 1 h
  have hh := ws_hd e 1 h
  have hp : pgW ⟨[], [⟨n, e⟩, ⟨dMain, e⟩]⟩ = [pw [123], pw n, pw [61]] ++ (ws e ++ ([pw [59], pw dMain, pw [61]] ++ (ws e ++ [pw [125]]))) := by simp [pgW, sepW, dfW]
  rw [hp]
  constructor
  · intro x hx
    have hw := hg.1
    simp only [List.mem_append] at hx
    rcases hx with hx | hx | hx | hx | hx
    · simp [pw] at hx; rcases hx with rfl | rfl | rfl <;> exact .inl rfl
    · exact hw x hx
    · simp [pw] at hx; rcases hx with rfl | rfl | rfl <;> exact .inl rfl
    · exact hw x hx
    · simp [pw] at hx; subst hx; exact .inl rfl
  · have h1 : txW (ws e ++ [pw [125]]) false = 32 :: txW (ws e) true ++ [32, 125] := by
      rw [txW_app, tx_false hh, (hg.2 false).1]
      rfl
    have h2 : txW ([pw [59], pw dMain, pw [61]] ++ (ws e ++ [pw [125]])) false = [32, 59, 32, 109, 97, 105, 110, 32, 61] ++ txW (ws e ++ [pw [125]]) false := by
      rw [txW_app]
      rfl
    have h3 : txW [pw [123], pw n, pw [61]] true = [123, 32] ++ n ++ [32, 61] := by simp [txW, gapW, pw]
    have h4 : tgW [pw [123], pw n, pw [61]] true = false := rfl
    rw [txW_app, h3, h4, txW_app, tx_false hh, (hg.2 false).1, h2, h1]
    simp
end Go.Proofs.YtebcdjlhmoffjaaDoor
