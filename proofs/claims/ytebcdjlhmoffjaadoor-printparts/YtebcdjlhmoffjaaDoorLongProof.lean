/-
  THE WALK OF PrintLong.
  PrintLong, for every tree: the law returns true, and its argument reads as it did. The condition: the listed variables of Go's library hold what its text lays (tied by the card).
-/
import Derived.Test.YtebcdjlhmoffjaaDoorFrame
import Derived.Test.YtebcdjlhmoffjaaDoorLong
namespace Go.Proofs.YtebcdjlhmoffjaaDoor
open Go.RowKit
set_option linter.unusedVariables false
set_option linter.unusedSimpArgs false
theorem wdA_len {s : List UInt8} {st : St} {o : List UInt8} {t : Bool} (h : wdA s st = some (o, t)) : o.length ≤ 2147483647 := by
  rcases st with _ | ⟨o', t'⟩
  · cases h
  · have e : wdA s (some (o', t')) = if (o' ++ ((if t' then [] else [32]) ++ s)).length ≤ 2147483647 then some (o' ++ ((if t' then [] else [32]) ++ s), false) else none := rfl
    rw [e] at h
    by_cases hl : (o' ++ ((if t' then [] else [32]) ++ s)).length ≤ 2147483647
    · rw [if_pos hl] at h
      rw [← (Prod.mk.inj (Option.some.inj h)).1]
      exact hl
    · rw [if_neg hl] at h
      cases h
theorem oneA_len {x : Wd} {st : St} {o : List UInt8} {t : Bool} (h : oneA x st = some (o, t)) : o.length ≤ 2147483647 := by
  unfold oneA at h
  split at h
  · exact wdA_len h
  · split at h
    · obtain ⟨t', h1, _⟩ := tightA_some h
      exact wdA_len h1
    · exact wdA_len h
theorem runA_len (l : List Wd) : ∀ {st : St} {o : List UInt8} {t : Bool}, (∀ o t, st = some (o, t) → o.length ≤ 2147483647) → runA l st = some (o, t) → o.length ≤ 2147483647 := by
  induction l with
  | nil => intro st o t h h2; exact h o t h2
  | cons x r ih =>
    intro st o t h h2
    rw [runA_cons] at h2
    exact ih (fun o' t' h' => oneA_len h') h2
/-- What print.Expr answers: an error, or a text. -/
theorem exprV_cases (e : Tr) : exprV e = .tuple #[.string ⟨#[]⟩, .int .i64 40] ∨ ∃ o, exprV e = .tuple #[.string (S o), .int .i64 0] ∧ checkM e = true ∧ o = txW (ws e) true ∧ Bal o ∧ tsz e ≤ o.length ∧ o.length ≤ 2147483647 := by
  unfold exprV
  cases hc : checkM e
  · left; rfl
  · rcases hp : ptA 0 (pExpr e) (some ([], true)) with _ | ⟨o, t⟩
    · left; rfl
    · right
      obtain ⟨h1, h2, h3⟩ := expr_text (fun x hx => (check_mem hc x hx).2.2) hp
      have h4 : runA (ws e) (some ([], true)) = some (o, t) := hp
      exact ⟨o, rfl, rfl, h1, h2, h3, runA_len (ws e) (fun o' t' h => by cases h; simp) h4⟩
theorem scan_le (l : List UInt8) : ∀ {p q : Nat × Nat}, scan l p = some q → q.1 ≤ p.1 + l.length ∧ q.2 ≤ p.2 + l.length := by
  induction l with
  | nil => intro p q h; cases h; simp
  | cons b r ih =>
    rintro ⟨m, n⟩ q h
    simp only [scan] at h
    repeat' split at h
    all_goals first | (cases h; done) | (have := ih h; simp at this ⊢; omega)
theorem scan_take {o : List UInt8} (h : Bal o) {i : Nat} (hi : i < o.length) {r c : Nat} (hs : scan (o.take i) (0, 0) = some (r, c)) : ∃ q, scan [o[i]] (r, c) = some q ∧ scan (o.take (i + 1)) (0, 0) = some q := by
  have h1 : scan (o.take (i + 1)) (0, 0) = scan [o[i]] (r, c) := by
    rw [List.take_succ_eq_append_getElem hi, scan_app, hs]
    rfl
  have h2 := h (0, 0)
  rw [← List.take_append_drop (i + 1) o, scan_app] at h2
  rcases hq : scan (o.take (i + 1)) (0, 0) with _ | q
  · rw [hq] at h2; cases h2
  · exact ⟨q, by rw [← h1]; exact hq, rfl⟩
theorem scan1 {b : UInt8} {r c : Nat} {q : Nat × Nat} (h : scan [b] (r, c) = some q) : (b = 40 ∧ q = (r + 1, c)) ∨ (b = 41 ∧ r ≠ 0 ∧ q = (r - 1, c)) ∨ (b = 123 ∧ q = (r, c + 1)) ∨ (b = 125 ∧ c ≠ 0 ∧ q = (r, c - 1)) ∨ ((¬ b = 40 ∧ ¬ b = 41 ∧ ¬ b = 123 ∧ ¬ b = 125) ∧ q = (r, c)) := by
  simp only [scan] at h
  repeat' split at h
  all_goals first | (cases h; done) | skip
  · exact .inl ⟨by assumption, by cases h; rfl⟩
  · exact .inr (.inl ⟨by assumption, by assumption, by cases h; rfl⟩)
  · exact .inr (.inr (.inl ⟨by assumption, by cases h; rfl⟩))
  · exact .inr (.inr (.inr (.inl ⟨by assumption, by assumption, by cases h; rfl⟩)))
  · exact .inr (.inr (.inr (.inr ⟨⟨by assumption, by assumption, by assumption, by assumption⟩, by cases h; rfl⟩)))
theorem byte_ne {b : UInt8} {n : Nat} (hn : n < 256) (h : ¬ b = UInt8.ofNat n) : ¬ ((b.toNat : Int) = n) := by
  intro e
  apply h
  have : b.toNat = n := by omega
  rw [← this]
  simp
set_option maxHeartbeats 4000000 in
set_option maxRecDepth 100000 in
theorem long_walk (e : Tr) {w : World} {pn pk : Option Addr} {cn ck : Nat} (hG : GP (fun b => b < w.heap.size) w) (hE : TrIn (fun b => b < w.heap.size) w e [.int .i64 e.kd, .string (S e.nm), .int .i64 e.nu, .slice pn e.ns.length cn, .slice pk e.ks.length ck]) :
    Calls Tryd.prog 5 #[.agg (cs5 e pn cn pk ck)] w fun r w' => r = .returned (.bool true) ∧ Below w.heap.size w w' := by
  have HA := hide fun W (hb : Below w.heap.size w W) => awake_any W (gp_below hG hb)
  have HF := hide fun W (hb : Below w.heap.size w W) => few_any e (P := fun b => b < w.heap.size) (w := W) (fun b hb' => Nat.lt_of_lt_of_le hb' hb.size) (TrIn.keep (KP.of_below hb fun b hb => hb) (fun b hb => hb) _ _ hE)
  have HX := hide fun (hf : fewM e = true) W (hb : Below w.heap.size w W) => expr_any (e := e) (gp_below hG hb) (TrIn.keep (KP.of_below hb fun b hb => hb) (fun b hb' => Nat.lt_of_lt_of_le hb' hb.size) _ _ hE) (few_D hf) (few_N hf)
  have HZ := hide fun (hf : fewM e = true) W (hb : Below w.heap.size w W) => size_tree (e := e) (w := W) (P := fun b => b < w.heap.size) (fun b hb' => Nat.lt_of_lt_of_le hb' hb.size) (TrIn.keep (KP.of_below hb fun b hb => hb) (fun b hb => hb) _ _ hE) (few_D hf)
  have hB0 : Below w.heap.size w (w.alloc (.cells (cs5 e pn cn pk ck) 25)) := (Below.refl _ w).alloc (Nat.le_refl _) _
  have hW : Hold w.heap.size (cs5 e pn cn pk ck) 25 (w.alloc (.cells (cs5 e pn cn pk ck) 25)) := Hold.new w _ 25
  have HCS := hide (exprV_cases e)
  have HSZ := hide (few_size (e := e))
  have hS : (w.alloc (.cells (cs5 e pn cn pk ck) 25)).heap.size = w.heap.size + 1 := by simp
  have HWS := hide hS
  have HB0 := hide hB0
  have HW := hide hW
  clear hE hG hB0 hW hS
  unfold cs5 at *
  generalize hsn : S e.nm = snm at *
  generalize hnn : e.ns.length = nn at *
  generalize hnk : e.ks.length = nk at *
  clear hsn hnn hnk
  cases hf : fewM e
  · rw [hf] at HF
    clear hf HX HZ HCS HSZ
    go_enter Tryd.func5, Tryd.ntmps5
    go_wp2_with fail
    refine (HA.out _ HB0.out).mono ?_
    rintro r w1 ⟨rfl, hb1⟩
    have hW1 := (HW.out.below hb1 (by have := HWS.out; omega))
    have c0 := hW1.cell 0
    have c1 := hW1.cell 1
    have c2 := hW1.cell 2
    have c3 := hW1.cell 3
    have c4 := hW1.cell 4
    simp only [List.getElem?_toArray, List.getElem?_cons_succ, List.getElem?_cons_zero, Nat.zero_add] at c0 c1 c2 c3 c4
    have HB1 := hide (HB0.out.trans (hb1.mono HB0.out.size))
    clear hb1 hW1
    go_wp2_with fail
    refine (HF.out _ HB1.out).mono ?_
    rintro r w2 ⟨rfl, hb2⟩
    have HB2 := hide (HB1.out.trans (hb2.mono HB1.out.size))
    clear hb2
    go_wp2_with fail
    go_ret
    exact ⟨by rfl, HB2.out⟩
  · have HX' := hide (HX.out hf)
    have HZ' := hide (HZ.out hf)
    have hsz := HSZ.out hf
    rw [hsz] at HZ'
    have htz : tsz e ≤ 2000 := by unfold fewM at hf; simp only [Bool.and_eq_true, decide_eq_true_eq] at hf; exact hf.1.1
    rw [hf] at HF
    clear hf HX HZ HSZ hsz
    rcases HCS.out with hv | ⟨o, hv, -, -, hbal, hlen, hmax⟩
    · rw [hv] at HX'
      clear hv HCS
      go_enter Tryd.func5, Tryd.ntmps5
      go_wp2_with fail
      refine (HA.out _ HB0.out).mono ?_
      rintro r w1 ⟨rfl, hb1⟩
      have hW1 := (HW.out.below hb1 (by have := HWS.out; omega))
      have HLT := hide (Nat.lt_of_lt_of_le (by have := HWS.out; omega : w.heap.size < _) hb1.size)
      have c0 := hW1.cell 0
      have c1 := hW1.cell 1
      have c2 := hW1.cell 2
      have c3 := hW1.cell 3
      have c4 := hW1.cell 4
      simp only [List.getElem?_toArray, List.getElem?_cons_succ, List.getElem?_cons_zero, Nat.zero_add] at c0 c1 c2 c3 c4
      have HB1 := hide (HB0.out.trans (hb1.mono HB0.out.size))
      have HW1 := hide hW1
      clear hb1 hW1
      go_wp2_with fail
      refine (HF.out _ HB1.out).mono ?_
      rintro r w2 ⟨rfl, hb2⟩
      have hW2 := (HW1.out.below hb2 HLT.out)
      clear c0 c1 c2 c3 c4
      have c0 := hW2.cell 0
      have c1 := hW2.cell 1
      have c2 := hW2.cell 2
      have c3 := hW2.cell 3
      have c4 := hW2.cell 4
      simp only [List.getElem?_toArray, List.getElem?_cons_succ, List.getElem?_cons_zero, Nat.zero_add] at c0 c1 c2 c3 c4
      have HB2 := hide (HB1.out.trans (hb2.mono HB1.out.size))
      clear hb2 hW2
      go_wp2_with fail
      refine (HX'.out _ HB2.out).mono ?_
      rintro r w3 ⟨rfl, hb3⟩
      have HB3 := hide (HB2.out.trans (hb3.mono HB2.out.size))
      clear hb3
      go_wp2_with fail
      go_ret
      exact ⟨by rfl, HB3.out⟩
    · rw [hv] at HX'
      have hsl : (S o).size = o.length := S_size o
      have HD : Hid ((S o).data.toList = o) := rfl
      have HBAL := hide hbal
      clear hv HCS hbal
      generalize hs : S o = s at *
      clear hs
      go_enter Tryd.func5, Tryd.ntmps5
      go_wp2_with fail
      refine (HA.out _ HB0.out).mono ?_
      rintro r w1 ⟨rfl, hb1⟩
      have hW1 := (HW.out.below hb1 (by have := HWS.out; omega))
      have HLT := hide (Nat.lt_of_lt_of_le (by have := HWS.out; omega : w.heap.size < _) hb1.size)
      have c0 := hW1.cell 0
      have c1 := hW1.cell 1
      have c2 := hW1.cell 2
      have c3 := hW1.cell 3
      have c4 := hW1.cell 4
      simp only [List.getElem?_toArray, List.getElem?_cons_succ, List.getElem?_cons_zero, Nat.zero_add] at c0 c1 c2 c3 c4
      have HB1 := hide (HB0.out.trans (hb1.mono HB0.out.size))
      have HW1 := hide hW1
      clear hb1 hW1
      go_wp2_with fail
      refine (HF.out _ HB1.out).mono ?_
      rintro r w2 ⟨rfl, hb2⟩
      have hW2 := (HW1.out.below hb2 HLT.out)
      have HLT2 := hide (Nat.lt_of_lt_of_le HLT.out hb2.size)
      have HW2 := hide hW2
      clear c0 c1 c2 c3 c4
      have c0 := hW2.cell 0
      have c1 := hW2.cell 1
      have c2 := hW2.cell 2
      have c3 := hW2.cell 3
      have c4 := hW2.cell 4
      simp only [List.getElem?_toArray, List.getElem?_cons_succ, List.getElem?_cons_zero, Nat.zero_add] at c0 c1 c2 c3 c4
      have HB2 := hide (HB1.out.trans (hb2.mono HB1.out.size))
      clear hb2 hW2
      go_wp2_with fail
      refine (HX'.out _ HB2.out).mono ?_
      rintro r w3 ⟨rfl, hb3⟩
      have hW3 := (HW2.out.below hb3 HLT2.out)
      clear c0 c1 c2 c3 c4
      have c0 := hW3.cell 0
      have c1 := hW3.cell 1
      have c2 := hW3.cell 2
      have c3 := hW3.cell 3
      have c4 := hW3.cell 4
      simp only [List.getElem?_toArray, List.getElem?_cons_succ, List.getElem?_cons_zero, Nat.zero_add] at c0 c1 c2 c3 c4
      have HB3 := hide (HB2.out.trans (hb3.mono HB2.out.size))
      clear hb3 hW3
      go_wp2_with fail
      go_loopg [6, 7, 8] o.length (fun k s6 s7 s8 wr => ∃ i r c : Nat, i ≤ o.length ∧ k = o.length - i ∧ s6 = .int .i64 r ∧ s7 = .int .i64 c ∧ s8 = .int .i64 i ∧ w3 = wr ∧ scan (o.take i) (0, 0) = some (r, c))
      case atStart => exact ⟨0, 0, 0, Nat.zero_le _, by omega, rfl, rfl, rfl, rfl, rfl⟩
      case round =>
        obtain ⟨i, r, c, hi, rfl, rfl, rfl, rfl, rfl, hsc⟩ := hrel
        by_cases hlt : i < o.length
        · obtain ⟨q, hq1, hq2⟩ := scan_take HBAL.out hlt hsc
          have hle := scan_le _ hsc
          simp only [List.length_take, Nat.zero_add] at hle
          have hls : i < s.size := by omega
          have hget : s[i] = o[i] := (dget s i hls (by rw [HD.out]; exact hlt)).trans (by simp only [HD.out])
          have hii : (i : Int) < o.length := by omega
          have hr : r ≤ 2147483647 := by omega
          have hc : c ≤ 2147483647 := by omega
          have HQ := hide hq2
          rcases scan1 hq1 with ⟨hb, rfl⟩ | ⟨hb, h0, rfl⟩ | ⟨hb, rfl⟩ | ⟨hb, h0, rfl⟩ | ⟨⟨h1, h2, h3, h4⟩, rfl⟩
          · have hv : (s[i].toNat : Int) = 40 := by rw [hget, hb]; rfl
            clear hget hb hq1 hq2 hsc hle
            go_wp2_with fail
            go_roundg (o.length - (i + 1))
            case measure => omega
            case rel => exact ⟨i + 1, r + 1, c, by omega, rfl, by go_num, by go_num, by go_num, rfl, HQ.out⟩
          · have hv : (s[i].toNat : Int) = 41 := by rw [hget, hb]; rfl
            clear hget hb hq1 hq2 hsc hle
            have h0i : ¬ (r : Int) = 0 := by omega
            have h0j : ¬ (r : Int) - 1 < 0 := by omega
            go_wp2_with fail
            go_roundg (o.length - (i + 1))
            case measure => omega
            case rel => exact ⟨i + 1, r - 1, c, by omega, rfl, by go_num, by go_num, by go_num, rfl, HQ.out⟩
          · have hv : (s[i].toNat : Int) = 123 := by rw [hget, hb]; rfl
            clear hget hb hq1 hq2 hsc hle
            go_wp2_with fail
            go_roundg (o.length - (i + 1))
            case measure => omega
            case rel => exact ⟨i + 1, r, c + 1, by omega, rfl, by go_num, by go_num, by go_num, rfl, HQ.out⟩
          · have hv : (s[i].toNat : Int) = 125 := by rw [hget, hb]; rfl
            clear hget hb hq1 hq2 hsc hle
            have h0i : ¬ (c : Int) = 0 := by omega
            have h0j : ¬ (c : Int) - 1 < 0 := by omega
            go_wp2_with fail
            go_roundg (o.length - (i + 1))
            case measure => omega
            case rel => exact ⟨i + 1, r, c - 1, by omega, rfl, by go_num, by go_num, by go_num, rfl, HQ.out⟩
          · have v1 : ¬ (s[i].toNat : Int) = 40 := by rw [hget]; exact byte_ne (by decide) h1
            have v2 : ¬ (s[i].toNat : Int) = 41 := by rw [hget]; exact byte_ne (by decide) h2
            have v3 : ¬ (s[i].toNat : Int) = 123 := by rw [hget]; exact byte_ne (by decide) h3
            have v4 : ¬ (s[i].toNat : Int) = 125 := by rw [hget]; exact byte_ne (by decide) h4
            have u1 : ((s[i].toNat : Int) == 40) = false := by simpa using v1
            have u2 : ((s[i].toNat : Int) == 41) = false := by simpa using v2
            have u3 : ((s[i].toNat : Int) == 123) = false := by simpa using v3
            have u4 : ((s[i].toNat : Int) == 125) = false := by simpa using v4
            clear hget h1 h2 h3 h4 hq1 hq2 hsc hle
            go_wp2_with fail
            go_roundg (o.length - (i + 1))
            case measure => omega
            case rel => exact ⟨i + 1, r, c, by omega, rfl, by go_num, by go_num, by go_num, rfl, HQ.out⟩
        · obtain ⟨rfl, rfl⟩ : r = 0 ∧ c = 0 := by
            rw [List.take_of_length_le (by omega), HBAL.out (0, 0)] at hsc
            simpa [eq_comm] using hsc
          have hii : ¬ (i : Int) < o.length := by omega
          have hge : (tsz e : Int) ≤ o.length := by omega
          have hnl : ¬ i < o.length := by omega
          clear hsc
          go_wp2_with fail
          refine (HZ'.out _ HB3.out).mono ?_
          rintro r w4 ⟨rfl, hb4⟩
          have HB4 := hide (HB3.out.trans (hb4.mono HB3.out.size))
          clear hb4
          go_wp2_with fail
          go_ret
          exact ⟨by rfl, HB4.out⟩
end Go.Proofs.YtebcdjlhmoffjaaDoor
namespace Go.Proofs.YtebcdjlhmoffjaaDoor.printLong
open Go.ChangeShapes Go.WideShapes Go.ChangeAt Go.RowKit
set_option linter.unusedVariables false

set_option maxHeartbeats 800000 in
set_option maxRecDepth 100000 in
theorem lifted (os : Os) (started : os.Started) (H : Type) (enc : TypeId × Value → H) :
    ReturnsInHanded {} Tryd.checked os 5 .any (fun w args => (Rows.printLongSpec.pre enc Tryd.prog Tryd.f5 Rows.printLongRow.domain false w args ∧ laidMetH Tryd.prog Rows.printLongRow.laid w) ∧ sizedMet enc Tryd.prog Tryd.f5 (OpenSpec.ofChange Rows.printLongSpec) false w args)
      (Rows.printLongSpec.post enc Tryd.prog Tryd.f5 false true false false) := by
  refine returnsInHanded_of_change_and (C := Tryd.checked) (X := fun w _ => laidMetH Tryd.prog Rows.printLongRow.laid w) (fun _ _ _ hh h => h.of_heap hh) own started (by kernel_rfl) Tryd.func5
    (ChangeSpec.witness_shaped (enc := enc) (C := Tryd.checked) (os := os) (X := fun w _ => laidMetH Tryd.prog Rows.printLongRow.laid w) false (World.doorLaid Tryd.prog 400 os) #[.agg #[.int .i64 0, .string ⟨#[]⟩, .int .i64 0, .slice none 0 0, .slice none 0 0]] 8 rfl (World.shaped_of_RefB (by kernel_rfl) (by kernel_rfl)) (by kernel_rfl) (by kernel_rfl) (by kernel_rfl) (door_met os _)) ?_
  intro W base args ds gs before hval0 hW _ hz hL _
  have hval : ∀ (j : Nat) t v, Tryd.f5.params[j]? = some t → args[j]? = some v → Value.okWide Tryd.prog W .any base t v := hval0
  have hW' := hW
  obtain ⟨p, q, hA0, hV, rfl, _, _⟩ := hW
  have hA : DataW.TrodAll enc Tryd.prog W 0 (fun _ => true) true Tryd.f5.params.toList args.toList ds p := hA0
  have hz' : (DataW.weightsEach Tryd.prog (Tryd.f5.params.toList ++ Rows.printLongSpec.plain.varTypes Tryd.prog) (ds ++ gs)).all (· ≤ reachBytes) = true := hz
  rw [Tryd.params5] at hA hval hz'
  obtain ⟨v1, d1, rfl, rfl, h1⟩ := trodAll_one hA
  obtain ⟨rfl, rfl⟩ := trodVars_none hV
  have hw : light 25 d1 := by
    unfold light
    simp only [List.cons_append, List.nil_append, DataW.weightsEach, List.all_append, Bool.and_eq_true] at hz'
    exact hz'.1
  obtain ⟨t, pn, pk, cn, ck, rfl, hT⟩ := expr_of (hval 0 25 v1 rfl rfl) h1 hw
  clear hA0 hval0 hz
  simp only [List.append_nil] at hW'
  have hlt : ∀ y ∈ p, y.block < W.heap.size := fun y hy => by simpa using hW'.lt y hy
  refine (long_walk t (glob_of hL) hT).mono fun e W' ⟨he, hnx⟩ => ?_
  subst he
  have harg1 : DataW.Trod enc Tryd.prog W' 0 (fun b => decide (b < W.heap.size)) true 25 (.agg (cs5 t pn cn pk ck)) d1 p :=
    Below.trod laidOut (by kernel_rfl) (of_decide_eq_true (by kernel_rfl)) h1 hnx hlt
  refine ⟨_, rfl, _, _, _, [], _, [], hW', ?_, trodAll_mk1 harg1, rfl, hnx.frame _, fun h => by cases h⟩
  exact trodAll_mk1 (shut_bool Tryd.underlying4 _)

theorem over : Rows.PrintLongSaid :=
  OpenClaim.holds_of_wide 5 Tryd.f5 rfl rfl rfl rfl rfl rfl rfl ⟨rfl, rfl, rfl, rfl, rfl⟩ rfl rfl rfl rfl rfl (by kernel_rfl) Tryd.func5 (by kernel_rfl)
    (of_decide_eq_true (by kernel_rfl)) (by unfold Func.isWrapper; first | (rw [if_pos (by decide +kernel)]; kernel_rfl) | (rw [if_neg (by decide +kernel)]; exact ⟨rfl, rfl⟩))
    (fun os started H enc _ => lifted os started H enc)

theorem proved : Rows.PrintLongCardSaid :=
  Claim7.holds_tied_plain_at .later [] [.data, .data, .data] true Rows.printLongCard.stood.harness true
    over (fun _ h => by cases h) (by kernel_rfl) (fun _ h => by cases h) printLong_row_tie rfl ⟨rfl, rfl⟩ (by kernel_rfl) rfl
    (fun f fn hf hfn => by
      obtain rfl : f = 5 := Option.some.inj ((show Tryd.prog.funcNamed Rows.printLongRow.func = some 5 by kernel_rfl).symm.trans hf) |>.symm
      obtain rfl : fn = Tryd.f5 := (Option.some.inj (Tryd.func5.symm.trans hfn)).symm
      exact ⟨by kernel_rfl, fun j t ht => by
        rw [Tryd.params5] at ht
        have hm : t ∈ [25] := by simpa using Array.mem_of_getElem? ht
        have hall : ([25].all fun u => !Tryd.prog.wantsStandIn u) = true := by kernel_rfl
        exact (show Tryd.prog.wantsStandIn t = false by simpa using List.all_eq_true.1 hall t hm)⟩)
    (by kernel_rfl)
#print axioms proved
end Go.Proofs.YtebcdjlhmoffjaaDoor.printLong
