/-
  A MAP's KEYS, SORTED: slices.Sorted(maps.Keys(m)) at a map of numbers, by the shelf's contracts.
-/
import Derived.Test.YteoflpalmckikaaDoorShelf
import Derived.Test.YteoflpalmckikaaDoorMapIn
import Derived.Test.YteoflpalmckikaaDoorHolesP
namespace Go.Proofs.YteoflpalmckikaaDoor
open Go.RowKit Go.MapKept Go.Maps Go.Sort Go.Shelf
set_option linter.unusedVariables false
set_option linter.unusedSimpArgs false
theorem MapI.esize {w : World} {b : Nat} {f : Int → Option Value} {es : Array MapEntry} (hs : (es.toList.map (·.key)).Nodup) (hk : ∀ x ∈ es.toList, ∃ m, x.key = .int .i64 m ∧ f m = some x.val) (hv : ∀ m v, f m = some v → ∃ x ∈ es.toList, x.key = .int .i64 m ∧ x.val = v) (l : List Int) (hn : l.Nodup) (hl : ∀ m, m ∈ l ↔ (f m).isSome = true) : es.size = l.length := by
  have h2 : (l.map (fun m => Value.int .i64 m)).Nodup := by
    unfold List.Nodup at hn ⊢
    exact List.pairwise_map.2 (hn.imp fun hab e => hab (by cases e; rfl))
  have h3 : ∀ v, v ∈ es.toList.map (·.key) ↔ v ∈ l.map (fun m => Value.int .i64 m) := by
    intro v
    constructor
    · intro hvm
      obtain ⟨x, hx, rfl⟩ := List.mem_map.1 hvm
      obtain ⟨m, e1, e2⟩ := hk x hx
      exact List.mem_map.2 ⟨m, (hl m).2 (by rw [e2]; rfl), e1.symm⟩
    · intro hvm
      obtain ⟨m, hm, rfl⟩ := List.mem_map.1 hvm
      obtain ⟨u, hu⟩ := Option.isSome_iff_exists.1 ((hl m).1 hm)
      obtain ⟨x, hx, e1, _⟩ := hv m u hu
      exact List.mem_map.2 ⟨x, hx, e1⟩
  have := ((List.perm_ext_iff_of_nodup hs h2).2 h3).length_eq
  simpa using this
/-- A map from numbers to numbers, as the library's laws read it. -/
theorem MapI.owns {w : World} {b : Nat} {f : Int → Option Value} (h : MapI w b f) (hf : ∀ m v, f m = some v → (Lit.int .i64 m).wf = true ∧ ∃ i, v = .int .i64 i ∧ (Lit.int .i64 i).wf = true) (l : List Int) (hn : l.Nodup) (hl : ∀ m, m ∈ l ↔ (f m).isSome = true) (hlen : l.length ≤ 1000000) :
    ∃ D : DataW Unit, w.ownsMap Tryd.prog 3 (plainElem Tryd.prog 3) b l.length D ∧ l.Perm (intKeys D) := by
  have h0 := h
  obtain ⟨es, clock, hb, hs, hk, hv⟩ := h
  have hsz := MapI.esize (w := w) (b := b) hs.2.2 hk hv l hn hl
  have hfit : Go.WideElems.Fit (H := Unit) Tryd.prog 3 (plainElem Tryd.prog 3) es clock := by
    refine ⟨by rw [hsz]; unfold maxLen; omega, hs, fun x hx => ?_⟩
    obtain ⟨m, e1, e2⟩ := hk x hx
    obtain ⟨hw, i, hi, hwi⟩ := hf m _ e2
    refine ⟨(.int .i64 m, .lit (.int .i64 i)), ?_⟩
    unfold Go.WideElems.rd
    rw [e1, keyOf_int_mk Tryd.underlying3 hw, hi, plainElem_int Tryd.underlying3 hwi]
    rfl
  have hown : w.ownsMap (H := Unit) Tryd.prog 3 (plainElem Tryd.prog 3) b l.length (.map ((es.toList.map (Go.WideElems.rg Tryd.prog 3 (plainElem Tryd.prog 3))).foldr DataW.insert [])) := ⟨es, clock, hb, hfit, by rw [hsz]; exact Nat.le_refl _, rfl⟩
  refine ⟨_, hown, ?_⟩
  generalize (DataW.map ((es.toList.map (Go.WideElems.rg (H := Unit) Tryd.prog 3 (plainElem Tryd.prog 3))).foldr DataW.insert [])) = D at hown
  have key : ∀ m, (Lit.int .i64 m).wf = true → Maps.has D (.int .i64 m) = (f m).isSome := fun m hw => by
    obtain ⟨v, ps, hr, _⟩ := hown.look_ok (int_keyed Tryd.underlying3) (t := 56) (e := 3) Tryd.underlying56 (zero3 w) (plainElem_int Tryd.underlying3 (by decide)) (keyOf_int_mk Tryd.underlying3 hw)
    have hr2 := h0.run_look_ok (P := Tryd.prog) (T := 56) (K := 3) (E := 3) Tryd.underlying56 Tryd.underlying3 (zero3 w) m
    rw [hr] at hr2
    simp at hr2
    exact hr2.2
  have hc : CollectedI D (fun _ => false) l := by
    refine ⟨hn, fun x => ?_⟩
    rw [hl x]
    constructor
    · intro hx
      obtain ⟨v, hxv⟩ := Option.isSome_iff_exists.1 hx
      exact ⟨by rw [key x (hf x v hxv).1]; exact hx, rfl⟩
    · rintro ⟨hx, _⟩
      by_cases hw : (Lit.int .i64 x).wf = true
      · rw [← key x hw]; exact hx
      · exfalso
        obtain ⟨es', rfl, hko⟩ := hown.keysOf
        rw [has_eq, List.any_eq_true] at hx
        obtain ⟨p, hp, hsk⟩ := hx
        obtain ⟨u, hu⟩ := hko p hp
        obtain ⟨y, _, hy, hyw⟩ := Maps.keyOf_i64 Tryd.underlying3 hu
        rw [hy] at hsk
        have : y = x := by simpa [Lit.sameKey] using hsk
        rw [this] at hyw
        exact hw hyw
  exact hc.perm hown (int_keyed Tryd.underlying3) Tryd.underlying3 (fun _ => rfl)
theorem sortsA (m : Nat) : AnyZI.SortsIn Tryd.prog Tryd.sortedA_ren Fence.wide m :=
  ⟨fun blk off cap ss W hH hblk hsz => callsIn_wide.2 (AnyM.slices_Sort_int Tryd.laysSlM5_f73 blk off cap ss W hH hblk hsz),
   fun p cap W => callsIn_wide.2 (AnyM.slices_Sort_int_none Tryd.laysSlM5_f73 p cap W)⟩
theorem keys_any (mb : Option Nat) (W : World) : Calls Tryd.prog 62 #[.map mb] W fun e w' => e = .returned (.func (.func 74) #[] #[.pointer (some ⟨W.heap.size, 0, none⟩)]) ∧ w' = W.alloc (.cells #[.map mb] 56) :=
  (callsIn_wide (n := 5)).1 (AnyZI.keys_in Tryd.keysA Fence.wide 5 trivial rfl mb W)
theorem sorted_any {w : World} {b Bx : Nat} {f : Int → Option Value} (h : MapI w b f) (hx : Hold Bx #[.map (some b)] 56 w) (hf : ∀ m v, f m = some v → (Lit.int .i64 m).wf = true ∧ ∃ i, v = .int .i64 i ∧ (Lit.int .i64 i).wf = true) (l : List Int) (hn : l.Nodup) (hl : ∀ m, m ∈ l ↔ (f m).isSome = true) (hlen : l.length ≤ 1000000) :
    Calls Tryd.prog 61 #[.func (.func 74) #[] #[.pointer (some ⟨Bx, 0, none⟩)]] w fun e w' => ∃ v ns, e = .returned v ∧ IL w.heap.size v ns w' ∧ ns.Pairwise (fun a b => a < b) ∧ (∀ m, m ∈ ns ↔ m ∈ l) ∧ ns.length = l.length ∧ Below w.heap.size w w' := by
  obtain ⟨D, hown, hperm⟩ := h.owns hf l hn hl hlen
  have hsz := hown.size_le
  have hseq : SeqGives Fence.wide 2 Tryd.prog 74 #[.pointer (some ⟨Bx, 0, none⟩)] encZ (fun ss => ss.Perm (intKeys D)) (Maps.size D) w :=
    AnyZI.keys_gives (ρ := Tryd.keysA_ren) { Tryd.keysA with } Fence.wide _ trivial rfl (by omega) Bx b l.length D _ hx.lt (by have := hx.cell 0; simpa using this) hown
  have cS := AnyZI.sorted_in Tryd.sortedA Fence.wide 5 trivial trivial trivial trivial rfl (by omega) (sortsA _) (enters_of Tryd.func73 (by kernel_rfl) rfl) 74 #[.pointer (some ⟨Bx, 0, none⟩)] trivial (enters_of Tryd.func74 (by kernel_rfl) rfl) _ _ (by unfold maxLen; omega) (by omega) _ hseq
  change CallsIn _ _ Tryd.prog 61 _ _ _ at cS
  refine ((callsIn_wide (n := 5)).1 cS).mono ?_
  rintro e w' ⟨v, ss, rfl, hp, hrow, hnil, hb⟩
  have hpl : ss.Perm l := hp.trans hperm.symm
  have hms : (ss.mergeSort fun x y => decide (x ≤ y)).Perm l := (List.mergeSort_perm ss _).trans hpl
  have tr : ∀ a b c : Int, (decide (a ≤ b)) = true → decide (b ≤ c) = true → decide (a ≤ c) = true := fun a b c h1 h2 => by simp only [decide_eq_true_eq] at *; exact Int.le_trans h1 h2
  have to : ∀ a b : Int, (decide (a ≤ b) || decide (b ≤ a)) = true := fun a b => by simp only [Bool.or_eq_true, decide_eq_true_eq]; exact Int.le_total a b
  have hsorted := List.pairwise_mergeSort tr to ss
  have hlen2 : (ss.mergeSort fun x y => decide (x ≤ y)).length = ss.length := List.length_mergeSort ss
  refine ⟨v, ss.mergeSort fun x y => decide (x ≤ y), rfl, ?_, ?_, fun m => hms.mem_iff, hms.length_eq, hb⟩
  · unfold IL intV
    rw [hlen2]
    exact hrow
  · have hnd : (ss.mergeSort fun x y => decide (x ≤ y)).Nodup := hms.nodup_iff.2 hn
    refine (hsorted.and hnd).imp fun hab => ?_
    obtain ⟨h1, h2⟩ := hab
    simp only [decide_eq_true_eq] at h1
    omega
end Go.Proofs.YteoflpalmckikaaDoor
