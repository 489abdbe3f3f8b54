/-
  THE LIST THAT IS TOLD, hole by hole, rising. No program in it.
-/
import Derived.Test.YteoflpalmckikaaDoorForest
namespace Go.Proofs.YteoflpalmckikaaDoor
set_option linter.unusedVariables false
set_option linter.unusedSimpArgs false
/-- Facts of the holes ns that are another type than themselves. -/
def toldL (g : Int → Ty) (ns : List Int) : List (Int × Ty) := ns.flatMap fun m => if (g m).nm.isEmpty = true ∧ (g m).n = m then [] else [(m, g m)]
theorem toldL_snoc (g : Int → Ty) (ns : List Int) (m : Int) : toldL g (ns ++ [m]) = toldL g ns ++ (if (g m).nm.isEmpty = true ∧ (g m).n = m then [] else [(m, g m)]) := by
  unfold toldL
  rw [List.flatMap_append]
  simp
theorem toldL_mem {g : Int → Ty} {ns : List Int} {f : Int × Ty} : f ∈ toldL g ns ↔ f.1 ∈ ns ∧ f.2 = g f.1 ∧ ¬ ((g f.1).nm.isEmpty = true ∧ (g f.1).n = f.1) := by
  unfold toldL
  rw [List.mem_flatMap]
  constructor
  · rintro ⟨m, hm, h⟩
    split at h
    · cases h
    · rename_i hc
      obtain rfl := List.mem_singleton.1 h
      exact ⟨hm, rfl, hc⟩
  · rintro ⟨h1, h2, h3⟩
    refine ⟨f.1, h1, ?_⟩
    rw [if_neg h3]
    rw [← h2]
    exact List.mem_singleton.2 rfl
theorem toldL_rise {g : Int → Ty} {ns : List Int} (h : ns.Pairwise fun a b => a < b) : (toldL g ns).Pairwise fun f k => f.1 < k.1 := by
  induction ns with
  | nil => exact List.Pairwise.nil
  | cons m r ih =>
    rw [List.pairwise_cons] at h
    have e : toldL g (m :: r) = (if (g m).nm.isEmpty = true ∧ (g m).n = m then [] else [(m, g m)]) ++ toldL g r := by unfold toldL; rw [List.flatMap_cons]
    rw [e]
    split
    · exact ih h.2
    · rw [List.singleton_append, List.pairwise_cons]
      exact ⟨fun f hf => h.1 f.1 (toldL_mem.1 hf).1, ih h.2⟩
theorem toldL_len (g : Int → Ty) (ns : List Int) : (toldL g ns).length ≤ ns.length := by
  unfold toldL
  induction ns with
  | nil => exact Nat.le_refl _
  | cons m r ih =>
    rw [List.flatMap_cons, List.length_append, List.length_cons]
    split
    · simp only [List.length_nil]; omega
    · simp only [List.length_cons, List.length_nil]; omega
theorem told1_of {fc : Nat → Option Shp} {ro : Nat → Nat} {lea : Nat → Int} {hp : Int → Option Nat} {ns : List Int} {g : Int → Ty} (hr : ns.Pairwise fun a b => a < b) (hn : ∀ m, m ∈ ns ↔ ∃ i, hp m = some i) (hg : ∀ m i, hp m = some i → Gd fc ro lea 60 i = some (g m) ∧ tsz (g m) ≤ 2000) (hok : ∀ m, m ∈ ns → allT ok1 (g m) = true) : Told1 fc ro lea hp (toldL g ns) := by
  refine ⟨toldL_rise hr, fun f hf => ?_, fun m i hm => ?_⟩
  · obtain ⟨h1, h2, h3⟩ := toldL_mem.1 hf
    obtain ⟨i, hi⟩ := (hn f.1).1 h1
    refine ⟨i, hi, by rw [h2]; exact (hg _ _ hi).1, fun e => h3 ?_⟩
    rw [h2] at e
    rw [e]
    exact ⟨rfl, rfl⟩
  · obtain ⟨h1, h2⟩ := hg m i hm
    refine ⟨g m, h1, h2, ?_⟩
    by_cases hc : (g m).nm.isEmpty = true ∧ (g m).n = m
    · left
      have ho := hok m ((hn m).2 ⟨i, hm⟩)
      have := (ok1_hole _ (allT_kid ho).1 hc.1).2.2
      rw [this, hc.2]
    · right
      exact toldL_mem.2 ⟨(hn m).2 ⟨i, hm⟩, rfl, hc⟩
end Go.Proofs.YteoflpalmckikaaDoor
