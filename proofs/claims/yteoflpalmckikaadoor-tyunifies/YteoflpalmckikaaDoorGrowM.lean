/-
  GROWING A TYPE out of the web, arg by arg, with how many parts are left. No program in it.
-/
import Derived.Test.YteoflpalmckikaaDoorToldL
namespace Go.Proofs.YteoflpalmckikaaDoor
set_option linter.unusedVariables false
set_option linter.unusedSimpArgs false
variable {fc : Nat → Option Shp} {ro : Nat → Nat} {lea : Nat → Int}
/-- What grow comes to: the type, and how many parts are left; or there is none of so many. -/
def GrowQ (fc : Nat → Option Shp) (ro : Nat → Nat) (lea : Nat → Int) (lv i left : Nat) (r : Option (Ty × Nat)) : Prop := match r with
  | some (T, rest) => Gd fc ro lea lv i = some T ∧ tsz T ≤ left ∧ rest = left - tsz T
  | none => ∀ T, Gd fc ro lea lv i = some T → ¬ tsz T ≤ left
theorem grow_zero (i left : Nat) : GrowQ fc ro lea 0 i left none := fun T h => by cases h
theorem grow_left (lv i : Nat) : GrowQ fc ro lea lv i 0 none := fun T _ h => by have := tsz_pos T; omega
theorem grow_hole {lv i left : Nat} (h : fc (ro i) = none) (hl : 1 ≤ left) : GrowQ fc ro lea (lv + 1) i left (some (hole (lea (ro i)), left - 1)) := by
  have e : tsz (hole (lea (ro i))) = 1 := by rw [tsz_eq]; rfl
  exact ⟨gd_none h, by rw [e]; exact hl, by rw [e]⟩
/-- Some Args have been grown. -/
def GrownTo (fc : Nat → Option Shp) (ro : Nat → Nat) (lea : Nat → Int) (lv : Nat) (as : List Nat) (k : Nat) (l : List Ty) : Prop := (as.take k).map (Gd fc ro lea lv) = l.map some
theorem grown_next {lv : Nat} {as : List Nat} {k u : Nat} {l : List Ty} {T : Ty} (h : GrownTo fc ro lea lv as k l) (hu : as[k]? = some u) (hT : Gd fc ro lea lv u = some T) : GrownTo fc ro lea lv as (k + 1) (l ++ [T]) := by
  unfold GrownTo at h ⊢
  rw [List.take_add_one, hu, List.map_append, h, List.map_append]
  show _ ++ [Gd fc ro lea lv u] = _
  rw [hT]
  rfl
theorem grown_all {lv i : Nat} {s : Shp} {l : List Ty} (hs : fc (ro i) = some s) (h : GrownTo fc ro lea lv s.2 s.2.length l) : Gd fc ro lea (lv + 1) i = some ⟨s.1, 0, l⟩ ∧ tsz ⟨s.1, 0, l⟩ = 1 + (l.map tsz).sum := by
  unfold GrownTo at h
  rw [List.take_length] at h
  exact ⟨(gd_some hs _).2 ⟨l, h, rfl⟩, by rw [tsz_eq]⟩
theorem grown_pre {lv i : Nat} {s : Shp} {k : Nat} {l : List Ty} {T : Ty} (hs : fc (ro i) = some s) (h : GrownTo fc ro lea lv s.2 k l) (hT : Gd fc ro lea (lv + 1) i = some T) : ∃ m, s.2.map (Gd fc ro lea lv) = m.map some ∧ T = ⟨s.1, 0, m⟩ ∧ m.take k = l := by
  obtain ⟨m, h1, h2⟩ := (gd_some hs T).1 hT
  refine ⟨m, h1, h2, ?_⟩
  unfold GrownTo at h
  rw [List.map_take, h1, ← List.map_take] at h
  exact List.map_inj_right (fun a b e => Option.some.inj e) |>.1 h
theorem sum_take_two {α : Type} (f : α → Nat) (l : List α) (k : Nat) (x : α) (h : l[k]? = some x) : ((l.take k).map f).sum + f x ≤ (l.map f).sum := by
  induction l generalizing k with
  | nil => cases h
  | cons a r ih =>
    cases k with
    | zero =>
      cases h
      simp
    | succ k =>
      rw [List.take_succ_cons, List.map_cons, List.map_cons, List.sum_cons, List.sum_cons]
      have := ih k h
      omega
/-- If an Arg can't be grown, with what is left, the type can't. -/
theorem grow_fail {lv i left : Nat} {s : Shp} {k u : Nat} {l : List Ty} (hs : fc (ro i) = some s) (h : GrownTo fc ro lea lv s.2 k l) (hu : s.2[k]? = some u) (hl : 1 + (l.map tsz).sum ≤ left) (hno : GrowQ fc ro lea lv u (left - (1 + (l.map tsz).sum)) none) : GrowQ fc ro lea (lv + 1) i left none := by
  intro T hT hle
  obtain ⟨m, h1, rfl, h3⟩ := grown_pre hs h hT
  have h4 := congrArg (fun x => x[k]?) h1
  simp only [List.getElem?_map, hu, Option.map_some] at h4
  cases hm : m[k]? with
  | none => rw [hm] at h4; cases h4
  | some t =>
    rw [hm] at h4
    simp only [Option.map_some, Option.some.injEq] at h4
    have h5 := hno t h4
    have h6 := sum_take_two tsz m k t hm
    rw [h3] at h6
    rw [tsz_eq] at hle
    have hle' : 1 + (m.map tsz).sum ≤ left := hle
    omega
/-- One more Arg, with what is left. -/
theorem grow_next {lv left : Nat} {as : List Nat} {k u rest : Nat} {l : List Ty} {T : Ty} (h : GrownTo fc ro lea lv as k l) (hu : as[k]? = some u) (hl : 1 + (l.map tsz).sum ≤ left) (hq : GrowQ fc ro lea lv u (left - (1 + (l.map tsz).sum)) (some (T, rest))) : GrownTo fc ro lea lv as (k + 1) (l ++ [T]) ∧ 1 + ((l ++ [T]).map tsz).sum ≤ left ∧ rest = left - (1 + ((l ++ [T]).map tsz).sum) := by
  obtain ⟨h1, h2, h3⟩ := hq
  refine ⟨grown_next h hu h1, ?_, ?_⟩
  · rw [List.map_append, List.sum_append]; simp; omega
  · rw [h3, List.map_append, List.sum_append]; simp; omega
theorem grow_all {lv i left : Nat} {s : Shp} {l : List Ty} (hs : fc (ro i) = some s) (h : GrownTo fc ro lea lv s.2 s.2.length l) (hl : 1 + (l.map tsz).sum ≤ left) : GrowQ fc ro lea (lv + 1) i left (some (⟨s.1, 0, l⟩, left - (1 + (l.map tsz).sum))) := by
  obtain ⟨h1, h2⟩ := grown_all hs h
  exact ⟨h1, by rw [h2]; exact hl, by rw [h2]⟩
end Go.Proofs.YteoflpalmckikaaDoor
