/-
  THE WALKS OF dawdlerref04's leaf AND dawdlerref01's Is.
-/
import Derived.Test.YtebcdjlhmoffjaaDoorRefName
import Derived.Test.YtebcdjlhmoffjaaDoorSound
namespace Go.Proofs.YtebcdjlhmoffjaaDoor
open Go.RowKit
set_option linter.unusedVariables false
set_option linter.unusedSimpArgs false
theorem ris_any (l : List UInt8) (w : World) : Calls Tryd.prog 44 #[.string (S l)] w fun e w' => e = .returned (.tuple #[.bool (isOp l), .bool (isCmp l)]) ∧ w' = w := by
  have hl := S_list l
  unfold isOp isCmp
  generalize S l = s at *
  subst hl
  go_enter Tryd.func44, Tryd.ntmps44
  go_wp2
  all_goals first | (exfalso; simp_all; done) | skip
  all_goals go_ret2
  all_goals exact ⟨by simp_all, rfl⟩
def rleafM (e : Tr) : Bool := decide (e.ks.length = 0) && (if e.kd = 1 then decide (0 ≤ e.nu) else if e.kd = 2 then nm e.nm else cn e.nm)
theorem rleaf_any (e : Tr) (pn : Option Addr) (cn' : Nat) (pk : Option Addr) (ck : Nat) (w : World) (hl : e.nm.length ≤ 281474976710656) (hk : e.ks.length ≤ 9223372036854775807) : Calls Tryd.prog 38 #[.agg (cs5 e pn cn' pk ck)] w fun r w' => r = .returned (.bool (rleafM e)) ∧ Below w.heap.size w w' := by
  have HB : Hid (Below w.heap.size w (w.alloc (.cells (cs5 e pn cn' pk ck) 25))) := (Below.refl _ w).alloc (Nat.le_refl _) _
  have HN := hide fun W => rname_any e.nm W hl
  have HC := hide fun W => rcon_any e.nm W hl
  have HR : Hid (rleafM e = (decide (e.ks.length = 0) && (if e.kd = 1 then decide (0 ≤ e.nu) else if e.kd = 2 then nm e.nm else cn e.nm))) := rfl
  generalize rleafM e = rv at *
  unfold cs5 at *
  obtain ⟨kd, nm', nu, ns, ks⟩ := e
  simp only at *
  generalize ks.length = n at *
  generalize S nm' = sb at *
  by_cases h0 : n = 0
  · subst h0
    by_cases h1 : kd = 1
    · subst h1
      go_enter Tryd.func38, Tryd.ntmps38
      go_wp2_with fail
      go_ret
      exact ⟨by rw [HR.out]; simp, HB.out⟩
    · by_cases h2 : kd = 2
      · subst h2
        go_enter Tryd.func38, Tryd.ntmps38
        go_wp2_with fail
        refine (HN.out _).mono ?_
        rintro r w1 ⟨rfl, hb1⟩
        have HB1 := hide (HB.out.trans (hb1.mono HB.out.size))
        clear hb1
        go_wp2_with fail
        go_ret
        exact ⟨by rw [HR.out]; simp, HB1.out⟩
      · go_enter Tryd.func38, Tryd.ntmps38
        go_wp2_with fail
        refine (HC.out _).mono ?_
        rintro r w1 ⟨rfl, rfl⟩
        go_wp2_with fail
        go_ret
        exact ⟨by rw [HR.out]; simp [h1, h2], HB.out⟩
  · have h0i : (0 : Int) < n := by omega
    go_enter Tryd.func38, Tryd.ntmps38
    go_wp2_with fail
    go_ret
    exact ⟨by rw [HR.out]; simp [h0], HB.out⟩
end Go.Proofs.YtebcdjlhmoffjaaDoor
