/-
  THE WALK OF print.Sig: a written type's text, where it has one.
-/
import Derived.Test.YtebcdjlhmoffjaaDoorTell
namespace Go.Proofs.YtebcdjlhmoffjaaDoor
open Go.RowKit Go.Shelf
set_option linter.unusedVariables false
set_option linter.unusedSimpArgs false
def sigS : St → ByteArray
  | some (o, _) => S o
  | none => ⟨#[]⟩
set_option maxRecDepth 100000 in
set_option maxHeartbeats 1000000 in
theorem sig_any {w : World} {s : Sg} {pk : Option Addr} {ck : Nat} (hG : GP (fun b => b < w.heap.size) w) (hE : SgIn (fun b => b < w.heap.size) w s [.string (S s.nm), .slice pk s.ar.length ck]) (h0 : ∀ tg, ptA 0 (pSig s) (some ([], true)) ≠ some ([], tg)) :
    Calls Tryd.prog 14 #[.agg #[.string (S s.nm), .slice pk s.ar.length ck]] w fun r w' => r = .returned (.string (sigS (ptA 0 (pSig s) (some ([], true))))) ∧ Below w.heap.size w w' := by
  have hB : Below w.heap.size w (w.alloc (.cells #[.string (S s.nm), .slice pk s.ar.length ck] 46)) := (Below.refl _ w).alloc (Nat.le_refl _) _
  have HT := hide (tellT (w := w.alloc (.cells #[.string (S s.nm), .slice pk s.ar.length ck] 46)) (x := pSig s) (ty := 46) (y := .agg #[.string (S s.nm), .slice pk s.ar.length ck]) (hG.keep (KP.of_below hB fun b hb => hb) (fun b hb' => Nat.lt_of_lt_of_le hb' hB.size)) ⟨_, rfl, SgIn.keep (KP.of_below hB fun b hb => hb) (fun b hb' => Nat.lt_of_lt_of_le hb' hB.size) s _ hE⟩ h0)
  have HB := hide hB
  clear hB hE hG h0
  generalize ptA 0 (pSig s) (some ([], true)) = st at *
  obtain ⟨bv, hbv⟩ : ∃ bv, told st = .tuple #[.string (sigS st), .bool bv] := by
    rcases st with _ | ⟨o, t⟩
    · exact ⟨_, rfl⟩
    · exact ⟨_, rfl⟩
  rw [hbv] at HT
  clear hbv
  generalize sigS st = ss at *
  go_enter Tryd.func14, Tryd.ntmps14
  go_wp2_with fail
  refine HT.out.mono ?_
  rintro r w1 ⟨rfl, hb1⟩
  have HB1 := hide (HB.out.trans (hb1.mono HB.out.size))
  clear hb1
  go_wp2_with fail
  go_ret
  exact ⟨rfl, HB1.out⟩
end Go.Proofs.YtebcdjlhmoffjaaDoor
