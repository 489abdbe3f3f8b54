/-
  THE WALK OF dawdlerref08's One.
-/
import Derived.Test.YteoflpalmckikaaDoorUniM
import Derived.Test.YteoflpalmckikaaDoorFullR
namespace Go.Proofs.YteoflpalmckikaaDoor
open Go.RowKit
set_option linter.unusedVariables false
set_option linter.unusedSimpArgs false
/-- Boxes of types. -/
def Bx (l : List (Nat × Array Value)) (W : World) : Prop := ∀ x ∈ l, Hold x.1 x.2 24 W
theorem Bx.below {l : List (Nat × Array Value)} {W W' : World} (h : Bx l W) (k : Below W.heap.size W W') : Bx l W' := fun x hx => (h x hx).below k (h x hx).lt
theorem Bx.at {l : List (Nat × Array Value)} {W : World} (h : Bx l W) (i : Nat) {x : Nat × Array Value} (hx : l[i]? = some x) : Hold x.1 x.2 24 W := h x (List.mem_of_getElem? hx)
theorem Bx.push {l : List (Nat × Array Value)} {W : World} (h : Bx l W) (C : Array Value) : Bx ((W.heap.size, C) :: l) (W.alloc (.cells C 24)) := fun x hx => by
  rcases List.mem_cons.1 hx with rfl | hx
  · exact Hold.new W C 24
  · exact (h x hx).alloc _
def OneQ (H : List Int) (l : List (Int × Ty)) (a b : Ty) (w : World) (r : Ending) (w' : World) : Prop := Below w.heap.size w w' ∧ ∃ v', (r = .returned (.tuple #[v', .bool false]) ∧ OneN l a b) ∨ (r = .returned (.tuple #[v', .bool true]) ∧ ∃ l', OneT H l a b l' ∧ FM w' v' l')
def OOK (H : List Int) (l : List (Int × Ty)) (a b : Ty) : Prop := ∀ (w : World) (v : Value) (pa pb : Option Addr) (ca cb : Nat), FM w v l → TyIn (fun x => x < w.heap.size) w a [.string (S a.nm), .int .i64 a.n, .slice pa a.ar.length ca] → TyIn (fun x => x < w.heap.size) w b [.string (S b.nm), .int .i64 b.n, .slice pb b.ar.length cb] →
  Calls Tryd.prog 46 #[v, .agg (cs3 a pa ca), .agg (cs3 b pb cb)] w (OneQ H l a b w)
/-- One fact in a block of its own. -/
def FL (P : Nat → Prop) (g : Nat) (f : Int × Ty) (V : World) : Prop := g < V.heap.size ∧ RM 4 (fun x => x = g) V (FaIn P V) (some ⟨g, 0, none⟩) [f]
theorem FL.new {P : Nat → Prop} (V : World) (f : Int × Ty) {pk : Option Addr} {ck : Nat} (hb : -9223372036854775808 ≤ f.1 ∧ f.1 ≤ 9223372036854775807) (hT : TyIn P V f.2 [.string (S f.2.nm), .int .i64 f.2.n, .slice pk f.2.ar.length ck]) (hP : ∀ b, P b → b < V.heap.size) : FL P V.heap.size f (V.alloc (.cells #[.int .i64 f.1, .string (S f.2.nm), .int .i64 f.2.n, .slice pk f.2.ar.length ck] 34)) := ⟨by simp, rm_new V f hb hT hP⟩
theorem FL.alloc {P : Nat → Prop} {g : Nat} {f : Int × Ty} {V : World} (h : FL P g f V) (hP : ∀ b, P b → b < V.heap.size) (o : Obj) : FL P g f (V.alloc o) := by
  have hb : Below V.heap.size V (V.alloc o) := (Below.refl _ V).alloc (Nat.le_refl _) o
  exact ⟨Nat.lt_of_lt_of_le h.1 hb.size, RM.keep (KP.of_below hb fun x hx => by rw [show x = g from hx]; exact h.1) (fun x hx => hx) (fun t ds h => FaIn.keep (KP.of_below hb hP) (fun x hx => hx) t ds h) h.2⟩
theorem FL.grown {P : Nat → Prop} {g B : Nat} {f : Int × Ty} {V V' : World} {row : Option Nat} (h : FL P g f V) (hP : ∀ b, P b → b < B) (hb : Below B V V') (hg : V.grownBy V' row) (hne : some g ≠ row) : FL P g f V' := by
  refine ⟨Nat.lt_of_lt_of_le h.1 hg.size, RM.keep (KP.of_grown (P := fun x => x = g) hg fun x hx => ?_) (fun x hx => hx) (fun t ds h => FaIn.keep (KP.of_below hb hP) (fun x hx => hx) t ds h) h.2⟩
  have e : x = g := hx
  rw [e]
  exact ⟨h.1, hne⟩
theorem rootT_ok {H : List Int} {l : List (Int × Ty)} {s : Int → Ty} {e : Int → Int} {p : Int → Nat} (h : Inv H l s e p) {t : Ty} (ht : ∀ m ∈ hls t, m ∈ H) (ho : allT ok1 t = true) : allT ok1 (rootT e t) = true := by
  unfold rootT
  cases hh : t.nm.isEmpty
  · exact ho
  · rw [if_pos rfl]
    exact (chk_iff _).1 (chk_hole (h.pos _ ((h.last t.n).2.2 (ht _ (by rw [hls_at _ hh]; simp))))) |>.1
theorem FM.shape {w : World} {v : Value} {l : List (Int × Ty)} (h : FM w v l) : ∃ p c, v = .slice p l.length c ∧ SlOK p l.length c ∧ RM 4 (fun b => b < w.heap.size) w (FaIn (fun b => b < w.heap.size) w) p l := h
section
variable {H : List Int} {l : List (Int × Ty)} {s : Int → Ty} {e : Int → Int} {p : Int → Nat}
set_option maxHeartbeats 64000000 in
set_option maxRecDepth 100000 in
theorem one_step (h : Inv H l s e p) (hHl : H.length ≤ 100000) (a b : Ty) (haH : ∀ m ∈ hls a, m ∈ H) (hbH : ∀ m ∈ hls b, m ∈ H) (hao : allT ok1 a = true) (hbo : allT ok1 b = true)
    (ih : ∀ (l' : List (Int × Ty)) (a' b' : Ty), (∃ s' e' p', Inv H l' s' e' p' ∧ (openN H l' < openN H l ∨ (openN H l' = openN H l ∧ tsz (sub s' a') < tsz (sub s a)))) → (∀ m ∈ hls a', m ∈ H) → (∀ m ∈ hls b', m ∈ H) → allT ok1 a' = true → allT ok1 b' = true → OOK H l' a' b') : OOK H l a b := by
  intro w v pa pb ca cb hFM hEA hEB
  have HFM0 := hide hFM
  obtain ⟨pl, cl, rfl, hsl, hRM⟩ := hFM
  have hslc := hsl.2.2
  have hlen : l.length ≤ 100000 := by
    have h1 := nodup_len h.nd (H := H) (fun m hm => by obtain ⟨f, hf, rfl⟩ := List.mem_map.1 hm; exact (h.ok f hf).2.1)
    rw [List.length_map] at h1
    omega
  have HLW : Hid (∀ W, Below w.heap.size w W → RM 4 (fun x => x < w.heap.size) W (FaIn (fun x => x < w.heap.size) W) pl l) := hide fun W hW => RM.keep (KP.of_below hW fun x hx => hx) (fun x hx => hx) (fun t ds h => FaIn.keep (KP.of_below hW fun x hx => hx) (fun x hx => hx) t ds h) hRM
  have hB0 : Below w.heap.size w ((w.alloc (.cells #[.string (S a.nm), .int .i64 a.n, .slice pa a.ar.length ca] 24)).alloc (.cells #[.string (S b.nm), .int .i64 b.n, .slice pb b.ar.length cb] 24)) := ((Below.refl _ w).alloc (Nat.le_refl _) _).alloc (by simp) _
  have hX0 : Bx [(w.heap.size + 1, #[.string (S b.nm), .int .i64 b.n, .slice pb b.ar.length cb]), (w.heap.size, #[.string (S a.nm), .int .i64 a.n, .slice pa a.ar.length ca])] ((w.alloc (.cells #[.string (S a.nm), .int .i64 a.n, .slice pa a.ar.length ca] 24)).alloc (.cells #[.string (S b.nm), .int .i64 b.n, .slice pb b.ar.length cb] 24)) := by
    have h1 : Bx [(w.heap.size, #[.string (S a.nm), .int .i64 a.n, .slice pa a.ar.length ca])] (w.alloc (.cells #[.string (S a.nm), .int .i64 a.n, .slice pa a.ar.length ca] 24)) := (show Bx [] w from fun x hx => by cases hx).push _
    have h2 := h1.push #[.string (S b.nm), .int .i64 b.n, .slice pb b.ar.length cb]
    rw [World.size_alloc] at h2
    exact h2
  have HRA := hide (fun (W : World) (hb : Below w.heap.size w W) => rroot_any h a (P := fun x => x < w.heap.size) (w := W) (pk := pa) (ck := ca) (pl := pl) (cl := cl) (fun b hb' => Nat.lt_of_lt_of_le hb' hb.size) (TyIn.keep (KP.of_below hb fun x hx => hx) (fun b hb => hb) _ _ hEA) (HLW.out W hb) (by omega) hao)
  have HRB := hide (fun (W : World) (hb : Below w.heap.size w W) => rroot_any h b (P := fun x => x < w.heap.size) (w := W) (pk := pb) (ck := cb) (pl := pl) (cl := cl) (fun b hb' => Nat.lt_of_lt_of_le hb' hb.size) (TyIn.keep (KP.of_below hb fun x hx => hx) (fun b hb => hb) _ _ hEB) (HLW.out W hb) (by omega) hbo)
  have HWX := hide (fun (W : World) (hb : Below w.heap.size w W) (t : Ty) (pk : Option Addr) (ck : Nat) (hE : TyIn (fun x => x < w.heap.size) W t [.string (S t.nm), .int .i64 t.n, .slice pk t.ar.length ck]) (ho : allT ok1 t = true) => rwalk_any h t (P := fun x => x < w.heap.size) (w := W) (pk := pk) (ck := ck) (pl := pl) (cl := cl) (fun b hb' => Nat.lt_of_lt_of_le hb' hb.size) hE (HLW.out W hb) (by omega) ho)
  have hVO := rootT_ok h haH hao
  have hWO := rootT_ok h hbH hbo
  have hwra := walk_root h a
  have hwrb := walk_root h b
  have hvh : (rootT e a).nm.isEmpty = true → a.nm.isEmpty = true := fun h1 => by
    cases hh : a.nm.isEmpty
    · unfold rootT at h1; rw [hh] at h1; simp at h1; rw [h1] at hh; cases hh
    · rfl
  have hwh : (rootT e b).nm.isEmpty = true → b.nm.isEmpty = true := fun h1 => by
    cases hh : b.nm.isEmpty
    · unfold rootT at h1; rw [hh] at h1; simp at h1; rw [h1] at hh; cases hh
    · rfl
  have hwda := h.walked a
  have hwdb := h.walked b
  have HB0 := hide hB0; have HX0 := hide hX0; have HIH := hide ih
  clear hB0 hX0 ih hEA hEB hRM hsl
  generalize hva : rootT e a = va at *
  generalize hvb : rootT e b = vb at *
  generalize hXe : walkT l e a = X at *
  generalize hYe : walkT l e b = Y at *
  generalize hnl : l.length = nl at *
  have HVE := hide hva; have HWE := hide hvb; have HXE := hide hXe; have HYE := hide hYe; have HNL := hide hnl
  have HVH := hide (And.intro hvh hwh)
  have HXO : Hid (allT ok1 X = true) := hide (by rw [← hXe]; exact h.walkO haH hao)
  have HYO : Hid (allT ok1 Y = true) := hide (by rw [← hYe]; exact h.walkO hbH hbo)
  have HXH2 : Hid (∀ m ∈ hls X, m ∈ H) := hide (by rw [← hXe]; exact h.walkH haH)
  have HYH : Hid (∀ m ∈ hls Y, m ∈ H) := hide (by rw [← hYe]; exact h.walkH hbH)
  have HXH : Hid (X.nm.isEmpty = true → X = hole X.n) := hide fun h1 => ok_hole HXO.out h1
  have HYH2 : Hid (Y.nm.isEmpty = true → Y = hole Y.n) := hide fun h1 => ok_hole HYO.out h1
  have HXU : Hid (X.nm.isEmpty = true → ∀ f ∈ l, f.1 ≠ X.n) := hide fun h1 => by
    rcases hwda with h2 | ⟨k, h2, h3, _⟩
    · rw [h1] at h2; cases h2
    · rw [h2]; exact h3
  have HYU : Hid (Y.nm.isEmpty = true → ∀ f ∈ l, f.1 ≠ Y.n) := hide fun h1 => by
    rcases hwdb with h2 | ⟨k, h2, h3, _⟩
    · rw [h1] at h2; cases h2
    · rw [h2]; exact h3
  have HNE0 : Hid ((va.nm.isEmpty && vb.nm.isEmpty && (va.n == vb.n)) = false → X.nm.isEmpty = true → Y.nm.isEmpty = true → X.n ≠ Y.n) := hide fun h0 h1 h2 h3 => by
    rcases hwda with g2 | ⟨k, g2, _, _, g5, g6⟩
    · rw [h1] at g2; cases g2
    · rcases hwdb with f2 | ⟨j, f2, _, _, f5, f6⟩
      · rw [h2] at f2; cases f2
      · have k1 : va = hole k := by rw [← hva, g6]; unfold rootT; rw [if_pos g5]
        have k2 : vb = hole j := by rw [← hvb, f6]; unfold rootT; rw [if_pos f5]
        rw [g2, f2] at h3
        have h4 : k = j := h3
        rw [k1, k2, h4] at h0
        simp [hole] at h0
  have HVO := hide hVO; have HWO := hide hWO; have HWRA := hide hwra; have HWRB := hide hwrb
  clear hva hvb hXe hYe hnl hvh hwh hwda hwdb hVO hWO hwra hwrb
  unfold cs3 at HRA HRB HWX ⊢
  go_enter Tryd.func46, Tryd.ntmps46
  go_upto_region 1 with fail
  generalize ((w.alloc (.cells #[.string (S a.nm), .int .i64 a.n, .slice pa a.ar.length ca] 24)).alloc (.cells #[.string (S b.nm), .int .i64 b.n, .slice pb b.ar.length cb] 24)) = w0 at *
  have hhx := Bx.at HX0.out 1 rfl
  dsimp only at hhx
  have x0 := hhx.cell 0; have x1 := hhx.cell 1; have x2 := hhx.cell 2
  simp only [List.getElem?_toArray, List.getElem?_cons_succ, List.getElem?_cons_zero] at x0 x1 x2
  clear hhx
  go_wp2_with fail
  refine (HRA.out w0 HB0.out).mono ?_
  rintro r w0b ⟨pv, cv, rfl, hb, hin⟩
  have HIva : Hid (∀ W, Below w.heap.size w W → TyIn (fun x => x < w.heap.size) W va [.string (S va.nm), .int .i64 va.n, .slice pv va.ar.length cv]) := hide (fun W hW => TyIn.move (fun x hx y => (hW.cell (p := ⟨x, y, none⟩) hx).trans (((HB0.out.trans (hb.mono HB0.out.size)).cell (p := ⟨x, y, none⟩) hx)).symm) _ _ hin)
  have hbx := (HX0.out.below hb).push #[.string (S va.nm), .int .i64 va.n, .slice pv va.ar.length cv]
  have hbb := (HB0.out.trans (hb.mono HB0.out.size)).alloc (Nat.le_trans HB0.out.size hb.size) (.cells #[.string (S va.nm), .int .i64 va.n, .slice pv va.ar.length cv] 24)
  have hgtn8 : w0.heap.size ≤ w0b.heap.size := hb.size
  clear hb hin
  unfold cs3
  go_upto_region 2 with fail
  generalize (w0b.alloc (.cells #[.string (S va.nm), .int .i64 va.n, .slice pv va.ar.length cv] 24)) = w1 at *
  generalize w0b.heap.size = n8 at *
  have HX1 := hide hbx; have HB1 := hide hbb
  clear hbx hbb
  clear x0 x1 x2
  have hhx := Bx.at HX1.out 1 rfl
  dsimp only at hhx
  have x0 := hhx.cell 0; have x1 := hhx.cell 1; have x2 := hhx.cell 2
  simp only [List.getElem?_toArray, List.getElem?_cons_succ, List.getElem?_cons_zero] at x0 x1 x2
  clear hhx
  go_wp2_with fail
  refine (HRB.out w1 HB1.out).mono ?_
  rintro r w1b ⟨pw, cw, rfl, hb, hin⟩
  have HIvb : Hid (∀ W, Below w.heap.size w W → TyIn (fun x => x < w.heap.size) W vb [.string (S vb.nm), .int .i64 vb.n, .slice pw vb.ar.length cw]) := hide (fun W hW => TyIn.move (fun x hx y => (hW.cell (p := ⟨x, y, none⟩) hx).trans (((HB1.out.trans (hb.mono HB1.out.size)).cell (p := ⟨x, y, none⟩) hx)).symm) _ _ hin)
  have hbx := (HX1.out.below hb).push #[.string (S vb.nm), .int .i64 vb.n, .slice pw vb.ar.length cw]
  have hbb := (HB1.out.trans (hb.mono HB1.out.size)).alloc (Nat.le_trans HB1.out.size hb.size) (.cells #[.string (S vb.nm), .int .i64 vb.n, .slice pw vb.ar.length cw] 24)
  have hgtn9 : w1.heap.size ≤ w1b.heap.size := hb.size
  clear hb hin
  unfold cs3
  go_upto_region 3 with fail
  generalize (w1b.alloc (.cells #[.string (S vb.nm), .int .i64 vb.n, .slice pw vb.ar.length cw] 24)) = w2 at *
  generalize w1b.heap.size = n9 at *
  have HX2 := hide hbx; have HB2 := hide hbb
  clear hbx hbb
  clear x0 x1 x2
  have HHva := hide (fun W => rhole_any va W pv cv); have HHvb := hide (fun W => rhole_any vb W pw cw)
  unfold cs3 at HHva HHvb
  generalize hee : (va.nm.isEmpty && vb.nm.isEmpty && (va.n == vb.n)) = ee at *
  have HEEQ : Hid (ee = (va.nm.isEmpty && vb.nm.isEmpty && (va.n == vb.n))) := hide hee.symm
  have hn8 : w.heap.size ≤ n8 := Nat.le_trans HB0.out.size hgtn8
  clear hee
  go_cut [35] (fun s35 wx => s35 = .bool ee ∧ Below w.heap.size w wx ∧ Bx [(n9, #[.string (S vb.nm), .int .i64 vb.n, .slice pw vb.ar.length cw]), (n8, #[.string (S va.nm), .int .i64 va.n, .slice pv va.ar.length cv])] wx)
  case first =>
    have HX2c : Hid (Bx [(n9, #[.string (S vb.nm), .int .i64 vb.n, .slice pw vb.ar.length cw]), (n8, #[.string (S va.nm), .int .i64 va.n, .slice pv va.ar.length cv])] w2) := hide (fun x hx => HX2.out x (by simp only [List.mem_cons, List.not_mem_nil, or_false] at hx ⊢; rcases hx with rfl | rfl <;> simp))
    have hhx := Bx.at HX2c.out 1 rfl
    dsimp only at hhx
    have x0 := hhx.cell 0; have x1 := hhx.cell 1; have x2 := hhx.cell 2
    simp only [List.getElem?_toArray, List.getElem?_cons_succ, List.getElem?_cons_zero] at x0 x1 x2
    clear hhx
    have hhy := Bx.at HX2c.out 0 rfl
    dsimp only at hhy
    have y0 := hhy.cell 0; have y1 := hhy.cell 1; have y2 := hhy.cell 2
    simp only [List.getElem?_toArray, List.getElem?_cons_succ, List.getElem?_cons_zero] at y0 y1 y2
    clear hhy
    cases hvh : va.nm.isEmpty with
    | false =>
      rw [hvh] at HHva HEEQ
      go_wp2_with fail
      refine (HHva.out w2).mono ?_
      rintro r w3 ⟨rfl, hb⟩
      have HB3 := hide (HB2.out.trans (hb.mono HB2.out.size)); have HX3 := hide (HX2c.out.below hb)
      clear hb
      go_wp2_with fail
      go_meet
      case rel => exact ⟨by rw [HEEQ.out]; rfl, HB3.out, HX3.out⟩
    | true =>
      rw [hvh] at HHva HEEQ
      go_wp2_with fail
      refine (HHva.out w2).mono ?_
      rintro r w3 ⟨rfl, hb⟩
      have HB3 := hide (HB2.out.trans (hb.mono HB2.out.size)); have HX3 := hide (HX2c.out.below hb)
      clear hb x0 x1 x2 y0 y1 y2
      have hhx := Bx.at HX3.out 1 rfl
      dsimp only at hhx
      have x0 := hhx.cell 0; have x1 := hhx.cell 1; have x2 := hhx.cell 2
      simp only [List.getElem?_toArray, List.getElem?_cons_succ, List.getElem?_cons_zero] at x0 x1 x2
      clear hhx
      have hhy := Bx.at HX3.out 0 rfl
      dsimp only at hhy
      have y0 := hhy.cell 0; have y1 := hhy.cell 1; have y2 := hhy.cell 2
      simp only [List.getElem?_toArray, List.getElem?_cons_succ, List.getElem?_cons_zero] at y0 y1 y2
      clear hhy
      cases hwh : vb.nm.isEmpty with
      | false =>
        rw [hwh] at HHvb HEEQ
        go_wp2_with fail
        refine (HHvb.out w3).mono ?_
        rintro r w4 ⟨rfl, hb⟩
        have HB4 := hide (HB3.out.trans (hb.mono HB3.out.size)); have HX4 := hide (HX3.out.below hb)
        clear hb
        go_wp2_with fail
        go_meet
        case rel => exact ⟨by rw [HEEQ.out]; rfl, HB4.out, HX4.out⟩
      | true =>
        rw [hwh] at HHvb HEEQ
        go_wp2_with fail
        refine (HHvb.out w3).mono ?_
        rintro r w4 ⟨rfl, hb⟩
        have HB4 := hide (HB3.out.trans (hb.mono HB3.out.size)); have HX4 := hide (HX3.out.below hb)
        clear hb x0 x1 x2 y0 y1 y2
        have hhx := Bx.at HX4.out 1 rfl
        dsimp only at hhx
        have x0 := hhx.cell 0; have x1 := hhx.cell 1; have x2 := hhx.cell 2
        simp only [List.getElem?_toArray, List.getElem?_cons_succ, List.getElem?_cons_zero] at x0 x1 x2
        clear hhx
        have hhy := Bx.at HX4.out 0 rfl
        dsimp only at hhy
        have y0 := hhy.cell 0; have y1 := hhy.cell 1; have y2 := hhy.cell 2
        simp only [List.getElem?_toArray, List.getElem?_cons_succ, List.getElem?_cons_zero] at y0 y1 y2
        clear hhy
        cases hnn : (va.n == vb.n) with
        | false =>
          rw [hnn] at HEEQ
          go_wp2_with fail
          go_meet
          case rel => exact ⟨by rw [HEEQ.out]; rfl, HB4.out, HX4.out⟩
        | true =>
          rw [hnn] at HEEQ
          go_wp2_with fail
          go_meet
          case rel => exact ⟨by rw [HEEQ.out]; rfl, HB4.out, HX4.out⟩
  case rest =>
    obtain ⟨rfl, hb5, hx5⟩ := hcut
    clear HX0 HX1 HX2 HB0 HB1 HB2
    have HB5 := hide hb5; have HX5 := hide hx5
    clear hb5 hx5
    generalize wc = w5 at *
    cases ee with
    | true =>
      have HONE : Hid (OneT H l a b l) := hide (one_early h (by
        have h1 := HEEQ.out.symm
        simp only [Bool.and_eq_true, beq_iff_eq] at h1
        rw [HVE.out, HWE.out, ok_hole HVO.out h1.1.1, ok_hole HWO.out h1.1.2, h1.2]))
      have HFM5 : Hid (FM w5 (.slice pl nl cl) l) := hide (HFM0.out.below HB5.out)
      go_wp2_with fail
      exact bodyPost_ret (v := .tuple #[.slice pl nl cl, .bool true]) (by simp only [results, Tryd.results46]; go_simp) rfl ⟨HB5.out, _, .inr ⟨rfl, _, HONE.out, HFM5.out⟩⟩
    | false =>
      have HNE := hide (HNE0.out rfl)
      have HEE := HEEQ
      have hhx := Bx.at HX5.out 1 rfl
      dsimp only at hhx
      have x0 := hhx.cell 0; have x1 := hhx.cell 1; have x2 := hhx.cell 2
      simp only [List.getElem?_toArray, List.getElem?_cons_succ, List.getElem?_cons_zero] at x0 x1 x2
      clear hhx
      have hhy := Bx.at HX5.out 0 rfl
      dsimp only at hhy
      have y0 := hhy.cell 0; have y1 := hhy.cell 1; have y2 := hhy.cell 2
      simp only [List.getElem?_toArray, List.getElem?_cons_succ, List.getElem?_cons_zero] at y0 y1 y2
      clear hhy
      have HWA := hide (fun W hb => HWX.out W hb va pv cv (HIva.out W hb) HVO.out)
      have HWB := hide (fun W hb => HWX.out W hb vb pw cw (HIvb.out W hb) HWO.out)
      rw [HWRA.out] at HWA
      rw [HWRB.out] at HWB
      go_wp2_with fail
      refine (HWA.out w5 HB5.out).mono ?_
      rintro r w5b ⟨px, cx, rfl, hb, hin⟩
      have HIX : Hid (∀ W, Below w.heap.size w W → TyIn (fun x => x < w.heap.size) W X [.string (S X.nm), .int .i64 X.n, .slice px X.ar.length cx]) := hide (fun W hW => TyIn.move (fun x hx y => (hW.cell (p := ⟨x, y, none⟩) hx).trans (((HB5.out.trans (hb.mono HB5.out.size)).cell (p := ⟨x, y, none⟩) hx)).symm) _ _ hin)
      have hbx := (HX5.out.below hb).push #[.string (S X.nm), .int .i64 X.n, .slice px X.ar.length cx]
      have hbb := (HB5.out.trans (hb.mono HB5.out.size)).alloc (Nat.le_trans HB5.out.size hb.size) (.cells #[.string (S X.nm), .int .i64 X.n, .slice px X.ar.length cx] 24)
      have hgtn10 : w5.heap.size ≤ w5b.heap.size := hb.size
      clear hb hin
      unfold cs3
      go_upto_region 6 with fail
      generalize (w5b.alloc (.cells #[.string (S X.nm), .int .i64 X.n, .slice px X.ar.length cx] 24)) = w6 at *
      generalize w5b.heap.size = n10 at *
      have HX6 := hide hbx; have HB6 := hide hbb
      clear hbx hbb
      have hn10 : w.heap.size ≤ n10 := Nat.le_trans HB5.out.size hgtn10
      clear x0 x1 x2 y0 y1 y2
      have hhy := Bx.at HX6.out 1 rfl
      dsimp only at hhy
      have y0 := hhy.cell 0; have y1 := hhy.cell 1; have y2 := hhy.cell 2
      simp only [List.getElem?_toArray, List.getElem?_cons_succ, List.getElem?_cons_zero] at y0 y1 y2
      clear hhy
      go_wp2_with fail
      refine (HWB.out w6 HB6.out).mono ?_
      rintro r w6b ⟨py, cy, rfl, hb, hin⟩
      have HIY : Hid (∀ W, Below w.heap.size w W → TyIn (fun x => x < w.heap.size) W Y [.string (S Y.nm), .int .i64 Y.n, .slice py Y.ar.length cy]) := hide (fun W hW => TyIn.move (fun x hx y => (hW.cell (p := ⟨x, y, none⟩) hx).trans (((HB6.out.trans (hb.mono HB6.out.size)).cell (p := ⟨x, y, none⟩) hx)).symm) _ _ hin)
      have hbx := (HX6.out.below hb).push #[.string (S Y.nm), .int .i64 Y.n, .slice py Y.ar.length cy]
      have hbb := (HB6.out.trans (hb.mono HB6.out.size)).alloc (Nat.le_trans HB6.out.size hb.size) (.cells #[.string (S Y.nm), .int .i64 Y.n, .slice py Y.ar.length cy] 24)
      have hgtn11 : w6.heap.size ≤ w6b.heap.size := hb.size
      clear hb hin
      unfold cs3
      go_upto_region 7 with fail
      generalize (w6b.alloc (.cells #[.string (S Y.nm), .int .i64 Y.n, .slice py Y.ar.length cy] 24)) = w8 at *
      generalize w6b.heap.size = n11 at *
      have HX8 := hide hbx; have HB8 := hide hbb
      clear hbx hbb
      have hn11 : w.heap.size ≤ n11 := Nat.le_trans HB6.out.size hgtn11
      clear y0 y1 y2
      have hn1011 : n10 < n11 := Nat.lt_of_lt_of_le (HX6.out _ (List.mem_cons_self)).lt hgtn11
      have HHX := hide (fun W => rhole_any X W px cx); have HHY := hide (fun W => rhole_any Y W py cy)
      unfold cs3 at HHX HHY
      cases hX : X.nm.isEmpty with
      | true =>
        rw [hX] at HHX
        have hhx := Bx.at HX8.out 1 rfl
        dsimp only at hhx
        have x0 := hhx.cell 0; have x1 := hhx.cell 1; have x2 := hhx.cell 2
        simp only [List.getElem?_toArray, List.getElem?_cons_succ, List.getElem?_cons_zero] at x0 x1 x2
        clear hhx
        have hhy := Bx.at HX8.out 0 rfl
        dsimp only at hhy
        have y0 := hhy.cell 0; have y1 := hhy.cell 1; have y2 := hhy.cell 2
        simp only [List.getElem?_toArray, List.getElem?_cons_succ, List.getElem?_cons_zero] at y0 y1 y2
        clear hhy
        go_wp2_with fail
        refine (HHX.out w8).mono ?_
        rintro r w9 ⟨rfl, hb⟩
        have HX9 := hide (HX8.out.below hb); have HB9 := hide (HB8.out.trans (hb.mono HB8.out.size))
        clear hb
        clear x0 x1 x2 y0 y1 y2
        have hhx := Bx.at HX9.out 1 rfl
        dsimp only at hhx
        have x0 := hhx.cell 0; have x1 := hhx.cell 1; have x2 := hhx.cell 2
        simp only [List.getElem?_toArray, List.getElem?_cons_succ, List.getElem?_cons_zero] at x0 x1 x2
        clear hhx
        have hhy := Bx.at HX9.out 0 rfl
        dsimp only at hhy
        have y0 := hhy.cell 0; have y1 := hhy.cell 1; have y2 := hhy.cell 2
        simp only [List.getElem?_toArray, List.getElem?_cons_succ, List.getElem?_cons_zero] at y0 y1 y2
        clear hhy
        go_wp2_with fail
        refine (HHX.out w9).mono ?_
        rintro r w10 ⟨rfl, hb⟩
        have HX10 := hide (HX9.out.below hb); have HB10 := hide (HB9.out.trans (hb.mono HB9.out.size))
        clear hb
        clear x0 x1 x2 y0 y1 y2
        have hhx := Bx.at HX10.out 1 rfl
        dsimp only at hhx
        have x0 := hhx.cell 0; have x1 := hhx.cell 1; have x2 := hhx.cell 2
        simp only [List.getElem?_toArray, List.getElem?_cons_succ, List.getElem?_cons_zero] at x0 x1 x2
        clear hhx
        have hhy := Bx.at HX10.out 0 rfl
        dsimp only at hhy
        have y0 := hhy.cell 0; have y1 := hhy.cell 1; have y2 := hhy.cell 2
        simp only [List.getElem?_toArray, List.getElem?_cons_succ, List.getElem?_cons_zero] at y0 y1 y2
        clear hhy
        cases hY : Y.nm.isEmpty with
        | true =>
          rw [hY] at HHY
          go_wp2_with fail
          refine (HHY.out w10).mono ?_
          rintro r w11 ⟨rfl, hb⟩
          have HX11 := hide (HX10.out.below hb); have HB11 := hide (HB10.out.trans (hb.mono HB10.out.size))
          clear hb
          clear x0 x1 x2 y0 y1 y2
          have hhx := Bx.at HX11.out 1 rfl
          dsimp only at hhx
          have x0 := hhx.cell 0; have x1 := hhx.cell 1; have x2 := hhx.cell 2
          simp only [List.getElem?_toArray, List.getElem?_cons_succ, List.getElem?_cons_zero] at x0 x1 x2
          clear hhx
          have hhy := Bx.at HX11.out 0 rfl
          dsimp only at hhy
          have y0 := hhy.cell 0; have y1 := hhy.cell 1; have y2 := hhy.cell 2
          simp only [List.getElem?_toArray, List.getElem?_cons_succ, List.getElem?_cons_zero] at y0 y1 y2
          clear hhy
          by_cases hgt : X.n < Y.n
          · have HUB : Hid (∀ f ∈ l, f.1 ≠ Y.n) := hide HYU.out hY
            have HOR : Hid (X.nm.isEmpty = false ∨ ∃ j, X = hole j ∧ (∀ f ∈ l, f.1 ≠ j) ∧ j < Y.n) := hide (.inr ⟨X.n, HXH.out hX, HXU.out hX, hgt⟩)
            have HCASE : Hid ((walkT l e a = hole Y.n ∧ walkT l e b = X) ∨ (walkT l e b = hole Y.n ∧ walkT l e a = X)) := hide (.inr ⟨by rw [HYE.out]; exact HYH2.out hY, HXE.out⟩)
            have HOH : Hid (allT ok1 X = true ∧ ∀ m ∈ hls X, m ∈ H) := hide ⟨HXO.out, HXH2.out⟩
            have H10 := hide (HX11.out (n10, #[.string (S X.nm), .int .i64 X.n, .slice px X.ar.length cx]) (by simp)); have H11 := hide (HX11.out (n11, #[.string (S Y.nm), .int .i64 Y.n, .slice py Y.ar.length cy]) (by simp))
            have q0 := H10.out.frozen 0; have q1 := H10.out.frozen 1; have q2 := H10.out.frozen 2
            have t0 := H11.out.frozen 0; have t1 := H11.out.frozen 1; have t2 := H11.out.frozen 2
            have h10l := H10.out.lt
            have h11l := H11.out.lt
            go_upto_region 10 with fail
            have H10b := hold3 H10.out (.string (S Y.nm)) (.int .i64 Y.n) (.slice py Y.ar.length cy)
            have H11b := ((H11.out.other (show n11 ≠ n10 by omega) 0 (.string (S Y.nm))).other (show n11 ≠ n10 by omega) 1 (.int .i64 Y.n)).other (show n11 ≠ n10 by omega) 2 (.slice py Y.ar.length cy)
            have H11c := hold3 H11b (.string (S X.nm)) (.int .i64 X.n) (.slice px X.ar.length cx)
            have H10c := ((H10b.other (show n10 ≠ n11 by omega) 0 (.string (S X.nm))).other (show n10 ≠ n11 by omega) 1 (.int .i64 X.n)).other (show n10 ≠ n11 by omega) 2 (.slice px X.ar.length cx)
            have hBs : Below w.heap.size w ((((((w11.setCell ⟨n10, 0, none⟩ (.string (S Y.nm))).setCell ⟨n10, 1, none⟩ (.int .i64 Y.n)).setCell ⟨n10, 2, none⟩ (.slice py Y.ar.length cy)).setCell ⟨n11, 0, none⟩ (.string (S X.nm))).setCell ⟨n11, 1, none⟩ (.int .i64 X.n)).setCell ⟨n11, 2, none⟩ (.slice px X.ar.length cx)) := (((((HB11.out.setCell (p := ⟨n10, 0, none⟩) hn10 _).setCell (p := ⟨n10, 1, none⟩) hn10 _).setCell (p := ⟨n10, 2, none⟩) hn10 _).setCell (p := ⟨n11, 0, none⟩) hn11 _).setCell (p := ⟨n11, 1, none⟩) hn11 _).setCell (p := ⟨n11, 2, none⟩) hn11 _
            generalize (((((w11.setCell ⟨n10, 0, none⟩ (.string (S Y.nm))).setCell ⟨n10, 1, none⟩ (.int .i64 Y.n)).setCell ⟨n10, 2, none⟩ (.slice py Y.ar.length cy)).setCell ⟨n11, 0, none⟩ (.string (S X.nm))).setCell ⟨n11, 1, none⟩ (.int .i64 X.n)).setCell ⟨n11, 2, none⟩ (.slice px X.ar.length cx) = wt at *
            have HTK := hide H10c; have HTO := hide H11c; have HBT := hide hBs
            clear H10b H11b H10c H11c hBs q0 q1 q2 t0 t1 t2 h10l h11l
            clear x0 x1 x2 y0 y1 y2
            generalize n10 = nK at *
            generalize n11 = nO at *
            have HKB := hide ((HIY.out w (Below.refl _ _)).bds.2)
            have hwn := rwithin_any h (n := Y.n) HUB.out hHl (by have := HNL.out; omega) (P := fun x => x < w.heap.size) (pl := pl) (cl := cl) X wt px cx (.slice none 0 0) [] wt.heap.size (fun x hx => Nat.lt_of_lt_of_le hx HBT.out.size) (HLW.out wt HBT.out) (HIX.out wt HBT.out) (World.ownsRow_nil _ _ _ _) (Nat.le_refl _) List.nodup_nil (by simp) (fun m hm => by cases hm) HOH.out.2 HOH.out.1
            rw [HNL.out] at hwn
            have HWN := hide hwn
            clear hwn
            unfold cs3 at HWN
            have k0 := HTK.out.cell 0; have k1 := HTK.out.cell 1; have k2 := HTK.out.cell 2
            simp only [List.getElem?_toArray, List.getElem?_cons_succ, List.getElem?_cons_zero] at k0 k1 k2
            have o0 := HTO.out.cell 0; have o1 := HTO.out.cell 1; have o2 := HTO.out.cell 2
            simp only [List.getElem?_toArray, List.getElem?_cons_succ, List.getElem?_cons_zero] at o0 o1 o2
            go_wp2_with fail
            refine HWN.out.mono ?_
            rintro r wn ⟨hb, vn, hor⟩
            have HBN := hide (HBT.out.trans (hb.mono HBT.out.size))
            have HTK2 := hide (HTK.out.below hb HTK.out.lt)
            have HTO2 := hide (HTO.out.below hb HTO.out.lt)
            clear hb
            rcases hor with ⟨hfd, rfl⟩ | ⟨hfd, rfl, _⟩
            · have HNONE : Hid (OneN l a b) := hide (one_occurs h HCASE.out HOR.out hfd)
              clear hfd
              go_wp2_with fail
              exact bodyPost_ret (v := .tuple #[.slice pl nl cl, .bool false]) (by simp only [results, Tryd.results46]; go_simp) rfl ⟨HBN.out, _, .inl ⟨rfl, HNONE.out⟩⟩
            · have HONE : Hid (OneT H l a b (l ++ [(Y.n, X)])) := hide (one_bind h haH hbH hao hbo HCASE.out HUB.out hfd HOR.out)
              clear hfd k0 k1 k2 o0 o1 o2
              go_upto_region 13 with fail
              refine wp_region_noPanic ?_
              refine region_J 11 (N := 11) (S := (fun W' : World => W'.cell? ⟨nK, 1, none⟩ = some (.int .i64 Y.n) ∧ W'.cell? ⟨nO, 0, none⟩ = some (.string (S X.nm)) ∧ W'.cell? ⟨nO, 1, none⟩ = some (.int .i64 X.n) ∧ W'.cell? ⟨nO, 2, none⟩ = some (.slice px X.ar.length cx))) (by kernel_rfl) (by kernel_rfl) ?_
              have HSF0 : Hid (∀ W, Below wn.heap.size wn W → (fun W' : World => W'.cell? ⟨nK, 1, none⟩ = some (.int .i64 Y.n) ∧ W'.cell? ⟨nO, 0, none⟩ = some (.string (S X.nm)) ∧ W'.cell? ⟨nO, 1, none⟩ = some (.int .i64 X.n) ∧ W'.cell? ⟨nO, 2, none⟩ = some (.slice px X.ar.length cx)) W) := hide fun W hW => ⟨(HTK2.out.below hW HTK2.out.lt).cell 1, (HTO2.out.below hW HTO2.out.lt).cell 0, (HTO2.out.below hW HTO2.out.lt).cell 1, (HTO2.out.below hW HTO2.out.lt).cell 2⟩
              have HWV : Hid (Below w.heap.size w wn.drew) := hide (HBN.out.trans ((below_drew wn).mono HBN.out.size))
              have HSF : Hid (∀ W, Below wn.drew.heap.size wn.drew W → (fun W' : World => W'.cell? ⟨nK, 1, none⟩ = some (.int .i64 Y.n) ∧ W'.cell? ⟨nO, 0, none⟩ = some (.string (S X.nm)) ∧ W'.cell? ⟨nO, 1, none⟩ = some (.int .i64 X.n) ∧ W'.cell? ⟨nO, 2, none⟩ = some (.slice px X.ar.length cx)) W) := hide fun W hW => HSF0.out W ((below_drew wn).trans hW)
              have hS : (fun W' : World => W'.cell? ⟨nK, 1, none⟩ = some (.int .i64 Y.n) ∧ W'.cell? ⟨nO, 0, none⟩ = some (.string (S X.nm)) ∧ W'.cell? ⟨nO, 1, none⟩ = some (.int .i64 X.n) ∧ W'.cell? ⟨nO, 2, none⟩ = some (.slice px X.ar.length cx)) wn.drew := HSF.out wn.drew (Below.refl _ _)
              generalize wn.drew = v0 at *
              have HV0 : Hid (Below v0.heap.size v0 v0) := hide (Below.refl _ _)
              refine take_D (i := 1) 76 (.slice pl nl cl) rfl rfl (by kernel_rfl) (by kernel_rfl) (by kernel_rfl) (by kernel_rfl) (fun _ _ _ h => h) (Or.inl ⟨by rfl, fun W' hW => by obtain ⟨s0, s1, s2, s3⟩ := hW; go_simp⟩) hS ?_
              simp only [Act.put, List.setIfInBounds_toArray, List.set_cons_zero, List.set_cons_succ]
              refine take_D (i := 3) 78 (.pointer (some ⟨nK, 1, none⟩)) rfl rfl (by kernel_rfl) (by kernel_rfl) (by kernel_rfl) (by kernel_rfl) (fun _ _ _ h => h) (Or.inl ⟨by rfl, fun W' hW => by obtain ⟨s0, s1, s2, s3⟩ := hW; go_simp⟩) hS ?_
              simp only [Act.put, List.setIfInBounds_toArray, List.set_cons_zero, List.set_cons_succ]
              refine take_D (i := 4) 79 (.int .i64 Y.n) rfl rfl (by kernel_rfl) (by kernel_rfl) (by kernel_rfl) (by kernel_rfl) (fun _ _ _ h => h) (Or.inl ⟨by rfl, fun W' hW => by obtain ⟨s0, s1, s2, s3⟩ := hW; go_simp⟩) hS ?_
              simp only [Act.put, List.setIfInBounds_toArray, List.set_cons_zero, List.set_cons_succ]
              refine take_D (i := 5) 80 (.agg #[.string (S X.nm), .int .i64 X.n, .slice px X.ar.length cx]) rfl rfl (by kernel_rfl) (by kernel_rfl) (by kernel_rfl) (by kernel_rfl) (fun _ _ _ h => h) (Or.inl ⟨by rfl, fun W' hW => by obtain ⟨s0, s1, s2, s3⟩ := hW; go_simp⟩) hS ?_
              simp only [Act.put, List.setIfInBounds_toArray, List.set_cons_zero, List.set_cons_succ]
              refine take_D (i := 6) 81 (.agg #[.int .i64 Y.n, .string (S X.nm), .int .i64 X.n, .slice px X.ar.length cx]) rfl rfl (by kernel_rfl) (by kernel_rfl) (by kernel_rfl) (by kernel_rfl) (fun _ _ _ h => h) (Or.inl ⟨by rfl, fun W' hW => by obtain ⟨s0, s1, s2, s3⟩ := hW; go_simp⟩) hS ?_
              simp only [Act.put, List.setIfInBounds_toArray, List.set_cons_zero, List.set_cons_succ]
              refine ready_J (rs := [0, 7]) (by kernel_rfl) (by simp) ?_
              intro jj hjj
              have hj2 : jj = 0 ∨ jj = 7 := by simpa using hjj
              clear hjj
              rcases hj2 with rfl | rfl
              · refine op_J rfl rfl fun K' hK => ?_
                go_simp
                have hr : RowO (fun x => x < w.heap.size) v0.heap.size (v0.alloc (.cells #[] 34)) (.slice (some ⟨v0.heap.size, 0, none⟩) 0 0) [] := RowO.new (fun x => x < w.heap.size) v0.heap.size v0 HV0.out.size
                have HV1 : Hid (Below v0.heap.size v0 (v0.alloc (.cells #[] 34))) := hide (HV0.out.alloc HV0.out.size _)
                have hlt1 : v0.heap.size < (v0.alloc (.cells #[] 34)).heap.size := by simp
                have hS2 := HSF.out (v0.alloc (.cells #[] 34)) HV1.out
                clear hS
                have hS := hS2
                clear hS2
                refine hK _ _ ⟨fun _ => hS, ?_⟩
                clear hK K'
                generalize (v0.alloc (.cells #[] 34)) = v1 at *
                refine ready_J (rs := [2, 7]) (by kernel_rfl) (by simp) ?_
                intro jj hjj
                have hj2 : jj = 2 ∨ jj = 7 := by simpa using hjj
                clear hjj
                rcases hj2 with rfl | rfl
                · refine op_J rfl rfl fun K' hK => ?_
                  refine wp_spreadF (P := (fun x => x < w.heap.size)) (Q := (fun x => x < w.heap.size)) _ _ rfl (base := v0.heap.size) (lo := []) (n := 0) (m := nl) rfl rfl hr (l := l) rfl HNL.out (HLW.out v1 (HWV.out.trans (HV1.out.mono HWV.out.size))) hslc (by omega) HV1.out.size (fun x hx => Nat.lt_of_lt_of_le hx HWV.out.size) ?_
                  intro p2 c2 v2 hr2 hbel hgrow
                  rw [List.nil_append, Nat.zero_add] at hr2
                  rw [Nat.zero_add]
                  have HV2 : Hid (Below v0.heap.size v0 v2) := hide (HV1.out.trans hbel)
                  clear hr
                  have hr := hr2
                  clear hr2
                  clear hbel hgrow
                  have hS2 := HSF.out v2 HV2.out
                  clear hS
                  have hS := hS2
                  clear hS2
                  refine hK _ _ ⟨fun _ => hS, ?_⟩
                  clear hK K'
                  refine ready_J (rs := [7]) (by kernel_rfl) (by simp) ?_
                  intro jj hjj
                  obtain rfl := List.mem_singleton.1 hjj
                  clear hjj
                  refine op_J rfl rfl fun K' hK => ?_
                  go_simp
                  have hF : FL (fun x => x < w.heap.size) v2.heap.size (Y.n, X) (v2.alloc (.cells #[.int .i64 Y.n, .string (S X.nm), .int .i64 X.n, .slice px X.ar.length cx] 34)) := FL.new v2 (Y.n, X) HKB.out (TyIn.keep (KP.of_below HV2.out fun x hx => Nat.lt_of_lt_of_le hx HWV.out.size) (fun x hx => hx) _ _ (HIX.out v0 HWV.out)) (fun x hx => Nat.lt_of_lt_of_le hx (Nat.le_trans HWV.out.size HV2.out.size))
                  have HV3 : Hid (Below v0.heap.size v0 (v2.alloc (.cells #[.int .i64 Y.n, .string (S X.nm), .int .i64 X.n, .slice px X.ar.length cx] 34))) := hide (HV2.out.alloc HV2.out.size _)
                  have hlt3 : v2.heap.size < (v2.alloc (.cells #[.int .i64 Y.n, .string (S X.nm), .int .i64 X.n, .slice px X.ar.length cx] 34)).heap.size := by simp
                  have hr2 := hr.keep (fun x hx => Nat.lt_of_lt_of_le hx (Nat.le_trans HWV.out.size HV2.out.size)) ((Below.refl _ v2).alloc (Nat.le_refl _) (.cells #[.int .i64 Y.n, .string (S X.nm), .int .i64 X.n, .slice px X.ar.length cx] 34))
                  clear hr
                  have hr := hr2
                  clear hr2
                  have hS2 := HSF.out (v2.alloc (.cells #[.int .i64 Y.n, .string (S X.nm), .int .i64 X.n, .slice px X.ar.length cx] 34)) HV3.out
                  clear hS
                  have hS := hS2
                  clear hS2
                  refine hK _ _ ⟨fun _ => hS, ?_⟩
                  clear hK K'
                  generalize (v2.alloc (.cells #[.int .i64 Y.n, .string (S X.nm), .int .i64 X.n, .slice px X.ar.length cx] 34)) = v3 at *
                  refine ready_J (rs := [8]) (by kernel_rfl) (by simp) ?_
                  intro jj hjj
                  obtain rfl := List.mem_singleton.1 hjj
                  clear hjj
                  refine op_J rfl rfl fun K' hK => ?_
                  refine wp_spreadF (P := (fun x => x < w.heap.size)) (Q := fun x => x = v2.heap.size) _ _ rfl (base := v0.heap.size) (lo := l) (n := nl) (m := 1) rfl HNL.out hr (l := [(Y.n, X)]) rfl rfl hF.2 (fun h => by cases h) (by omega) HV3.out.size (fun x hx => Nat.lt_of_lt_of_le hx HWV.out.size) ?_
                  intro p4 c4 v4 hr4 hbel _
                  have HV4 : Hid (Below v0.heap.size v0 v4) := hide (HV3.out.trans hbel)
                  clear hbel hr hF
                  have hS2 := HSF.out v4 HV4.out
                  clear hS
                  have hS := hS2
                  clear hS2
                  refine hK _ _ ⟨fun _ => hS, ?_⟩
                  clear hK K'
                  refine ready_J (rs := [9]) (by kernel_rfl) (by simp) ?_
                  intro jj hjj
                  obtain rfl := List.mem_singleton.1 hjj
                  clear hjj
                  refine op_J rfl rfl fun K' hK => ?_
                  go_simp
                  refine hK _ _ ⟨fun _ => hS, ?_⟩
                  clear hK K'
                  refine ready_J (rs := [10]) (by kernel_rfl) (by simp) ?_
                  intro jj hjj
                  obtain rfl := List.mem_singleton.1 hjj
                  clear hjj
                  refine op_J rfl rfl fun K' hK => ?_
                  go_simp
                  refine hK _ _ ⟨fun _ => hS, ?_⟩
                  clear hK K'
                  refine done_J (by kernel_rfl) ?_ _
                  refine NoPanic.normal ?_
                  have hbf : Below w.heap.size w v4 := HWV.out.trans (HV4.out.mono HWV.out.size)
                  have hfm : FM v4 (.slice p4 (nl + 1) c4) (l ++ [(Y.n, X)]) := FM.row hr4 (by rw [List.length_append, HNL.out]; rfl) (fun x hx => Nat.lt_of_lt_of_le hx hbf.size)
                  have HFM := hide hfm; have HBF := hide hbf
                  clear hfm hbf hS hr4
                  go_wp2_with fail
                  exact bodyPost_ret (v := .tuple #[.slice p4 (nl + 1) c4, .bool true]) (by simp only [results, Tryd.results46]; go_simp) rfl ⟨HBF.out, _, .inr ⟨rfl, _, HONE.out, HFM.out⟩⟩
                · refine op_J rfl rfl fun K' hK => ?_
                  go_simp
                  have hF : FL (fun x => x < w.heap.size) v1.heap.size (Y.n, X) (v1.alloc (.cells #[.int .i64 Y.n, .string (S X.nm), .int .i64 X.n, .slice px X.ar.length cx] 34)) := FL.new v1 (Y.n, X) HKB.out (TyIn.keep (KP.of_below HV1.out fun x hx => Nat.lt_of_lt_of_le hx HWV.out.size) (fun x hx => hx) _ _ (HIX.out v0 HWV.out)) (fun x hx => Nat.lt_of_lt_of_le hx (Nat.le_trans HWV.out.size HV1.out.size))
                  have HV2 : Hid (Below v0.heap.size v0 (v1.alloc (.cells #[.int .i64 Y.n, .string (S X.nm), .int .i64 X.n, .slice px X.ar.length cx] 34))) := hide (HV1.out.alloc HV1.out.size _)
                  have hlt2 : v1.heap.size < (v1.alloc (.cells #[.int .i64 Y.n, .string (S X.nm), .int .i64 X.n, .slice px X.ar.length cx] 34)).heap.size := by simp
                  have hr2 := hr.keep (fun x hx => Nat.lt_of_lt_of_le hx (Nat.le_trans HWV.out.size HV1.out.size)) ((Below.refl _ v1).alloc (Nat.le_refl _) (.cells #[.int .i64 Y.n, .string (S X.nm), .int .i64 X.n, .slice px X.ar.length cx] 34))
                  clear hr
                  have hr := hr2
                  clear hr2
                  have hS2 := HSF.out (v1.alloc (.cells #[.int .i64 Y.n, .string (S X.nm), .int .i64 X.n, .slice px X.ar.length cx] 34)) HV2.out
                  clear hS
                  have hS := hS2
                  clear hS2
                  refine hK _ _ ⟨fun _ => hS, ?_⟩
                  clear hK K'
                  generalize (v1.alloc (.cells #[.int .i64 Y.n, .string (S X.nm), .int .i64 X.n, .slice px X.ar.length cx] 34)) = v2 at *
                  refine ready_J (rs := [2]) (by kernel_rfl) (by simp) ?_
                  intro jj hjj
                  obtain rfl := List.mem_singleton.1 hjj
                  clear hjj
                  refine op_J rfl rfl fun K' hK => ?_
                  refine wp_spreadF (P := (fun x => x < w.heap.size)) (Q := (fun x => x < w.heap.size)) _ _ rfl (base := v0.heap.size) (lo := []) (n := 0) (m := nl) rfl rfl hr (l := l) rfl HNL.out (HLW.out v2 (HWV.out.trans (HV2.out.mono HWV.out.size))) hslc (by omega) HV2.out.size (fun x hx => Nat.lt_of_lt_of_le hx HWV.out.size) ?_
                  intro p2 c2 v3 hr2 hbel hgrow
                  rw [List.nil_append, Nat.zero_add] at hr2
                  rw [Nat.zero_add]
                  have HV3 : Hid (Below v0.heap.size v0 v3) := hide (HV2.out.trans hbel)
                  clear hr
                  have hr := hr2
                  clear hr2
                  have hF2 := hF.grown (fun x hx => Nat.lt_of_lt_of_le hx HWV.out.size) hbel hgrow (by simp [Value.ownBlock]; omega)
                  clear hF
                  have hF := hF2
                  clear hF2
                  clear hbel hgrow
                  have hS2 := HSF.out v3 HV3.out
                  clear hS
                  have hS := hS2
                  clear hS2
                  refine hK _ _ ⟨fun _ => hS, ?_⟩
                  clear hK K'
                  refine ready_J (rs := [8]) (by kernel_rfl) (by simp) ?_
                  intro jj hjj
                  obtain rfl := List.mem_singleton.1 hjj
                  clear hjj
                  refine op_J rfl rfl fun K' hK => ?_
                  refine wp_spreadF (P := (fun x => x < w.heap.size)) (Q := fun x => x = v1.heap.size) _ _ rfl (base := v0.heap.size) (lo := l) (n := nl) (m := 1) rfl HNL.out hr (l := [(Y.n, X)]) rfl rfl hF.2 (fun h => by cases h) (by omega) HV3.out.size (fun x hx => Nat.lt_of_lt_of_le hx HWV.out.size) ?_
                  intro p4 c4 v4 hr4 hbel _
                  have HV4 : Hid (Below v0.heap.size v0 v4) := hide (HV3.out.trans hbel)
                  clear hbel hr hF
                  have hS2 := HSF.out v4 HV4.out
                  clear hS
                  have hS := hS2
                  clear hS2
                  refine hK _ _ ⟨fun _ => hS, ?_⟩
                  clear hK K'
                  refine ready_J (rs := [9]) (by kernel_rfl) (by simp) ?_
                  intro jj hjj
                  obtain rfl := List.mem_singleton.1 hjj
                  clear hjj
                  refine op_J rfl rfl fun K' hK => ?_
                  go_simp
                  refine hK _ _ ⟨fun _ => hS, ?_⟩
                  clear hK K'
                  refine ready_J (rs := [10]) (by kernel_rfl) (by simp) ?_
                  intro jj hjj
                  obtain rfl := List.mem_singleton.1 hjj
                  clear hjj
                  refine op_J rfl rfl fun K' hK => ?_
                  go_simp
                  refine hK _ _ ⟨fun _ => hS, ?_⟩
                  clear hK K'
                  refine done_J (by kernel_rfl) ?_ _
                  refine NoPanic.normal ?_
                  have hbf : Below w.heap.size w v4 := HWV.out.trans (HV4.out.mono HWV.out.size)
                  have hfm : FM v4 (.slice p4 (nl + 1) c4) (l ++ [(Y.n, X)]) := FM.row hr4 (by rw [List.length_append, HNL.out]; rfl) (fun x hx => Nat.lt_of_lt_of_le hx hbf.size)
                  have HFM := hide hfm; have HBF := hide hbf
                  clear hfm hbf hS hr4
                  go_wp2_with fail
                  exact bodyPost_ret (v := .tuple #[.slice p4 (nl + 1) c4, .bool true]) (by simp only [results, Tryd.results46]; go_simp) rfl ⟨HBF.out, _, .inr ⟨rfl, _, HONE.out, HFM.out⟩⟩
              · refine op_J rfl rfl fun K' hK => ?_
                go_simp
                have hF : FL (fun x => x < w.heap.size) v0.heap.size (Y.n, X) (v0.alloc (.cells #[.int .i64 Y.n, .string (S X.nm), .int .i64 X.n, .slice px X.ar.length cx] 34)) := FL.new v0 (Y.n, X) HKB.out (TyIn.keep (KP.of_below HV0.out fun x hx => Nat.lt_of_lt_of_le hx HWV.out.size) (fun x hx => hx) _ _ (HIX.out v0 HWV.out)) (fun x hx => Nat.lt_of_lt_of_le hx (Nat.le_trans HWV.out.size HV0.out.size))
                have HV1 : Hid (Below v0.heap.size v0 (v0.alloc (.cells #[.int .i64 Y.n, .string (S X.nm), .int .i64 X.n, .slice px X.ar.length cx] 34))) := hide (HV0.out.alloc HV0.out.size _)
                have hlt1 : v0.heap.size < (v0.alloc (.cells #[.int .i64 Y.n, .string (S X.nm), .int .i64 X.n, .slice px X.ar.length cx] 34)).heap.size := by simp
                have hS2 := HSF.out (v0.alloc (.cells #[.int .i64 Y.n, .string (S X.nm), .int .i64 X.n, .slice px X.ar.length cx] 34)) HV1.out
                clear hS
                have hS := hS2
                clear hS2
                refine hK _ _ ⟨fun _ => hS, ?_⟩
                clear hK K'
                generalize (v0.alloc (.cells #[.int .i64 Y.n, .string (S X.nm), .int .i64 X.n, .slice px X.ar.length cx] 34)) = v1 at *
                refine ready_J (rs := [0]) (by kernel_rfl) (by simp) ?_
                intro jj hjj
                obtain rfl := List.mem_singleton.1 hjj
                clear hjj
                refine op_J rfl rfl fun K' hK => ?_
                go_simp
                have hr : RowO (fun x => x < w.heap.size) v0.heap.size (v1.alloc (.cells #[] 34)) (.slice (some ⟨v1.heap.size, 0, none⟩) 0 0) [] := RowO.new (fun x => x < w.heap.size) v0.heap.size v1 HV1.out.size
                have HV2 : Hid (Below v0.heap.size v0 (v1.alloc (.cells #[] 34))) := hide (HV1.out.alloc HV1.out.size _)
                have hlt2 : v1.heap.size < (v1.alloc (.cells #[] 34)).heap.size := by simp
                have hF2 := hF.alloc (fun x hx => Nat.lt_of_lt_of_le hx (Nat.le_trans HWV.out.size HV1.out.size)) (.cells #[] 34)
                clear hF
                have hF := hF2
                clear hF2
                have hS2 := HSF.out (v1.alloc (.cells #[] 34)) HV2.out
                clear hS
                have hS := hS2
                clear hS2
                refine hK _ _ ⟨fun _ => hS, ?_⟩
                clear hK K'
                generalize (v1.alloc (.cells #[] 34)) = v2 at *
                refine ready_J (rs := [2]) (by kernel_rfl) (by simp) ?_
                intro jj hjj
                obtain rfl := List.mem_singleton.1 hjj
                clear hjj
                refine op_J rfl rfl fun K' hK => ?_
                refine wp_spreadF (P := (fun x => x < w.heap.size)) (Q := (fun x => x < w.heap.size)) _ _ rfl (base := v0.heap.size) (lo := []) (n := 0) (m := nl) rfl rfl hr (l := l) rfl HNL.out (HLW.out v2 (HWV.out.trans (HV2.out.mono HWV.out.size))) hslc (by omega) HV2.out.size (fun x hx => Nat.lt_of_lt_of_le hx HWV.out.size) ?_
                intro p2 c2 v3 hr2 hbel hgrow
                rw [List.nil_append, Nat.zero_add] at hr2
                rw [Nat.zero_add]
                have HV3 : Hid (Below v0.heap.size v0 v3) := hide (HV2.out.trans hbel)
                clear hr
                have hr := hr2
                clear hr2
                have hF2 := hF.grown (fun x hx => Nat.lt_of_lt_of_le hx HWV.out.size) hbel hgrow (by simp [Value.ownBlock]; omega)
                clear hF
                have hF := hF2
                clear hF2
                clear hbel hgrow
                have hS2 := HSF.out v3 HV3.out
                clear hS
                have hS := hS2
                clear hS2
                refine hK _ _ ⟨fun _ => hS, ?_⟩
                clear hK K'
                refine ready_J (rs := [8]) (by kernel_rfl) (by simp) ?_
                intro jj hjj
                obtain rfl := List.mem_singleton.1 hjj
                clear hjj
                refine op_J rfl rfl fun K' hK => ?_
                refine wp_spreadF (P := (fun x => x < w.heap.size)) (Q := fun x => x = v0.heap.size) _ _ rfl (base := v0.heap.size) (lo := l) (n := nl) (m := 1) rfl HNL.out hr (l := [(Y.n, X)]) rfl rfl hF.2 (fun h => by cases h) (by omega) HV3.out.size (fun x hx => Nat.lt_of_lt_of_le hx HWV.out.size) ?_
                intro p4 c4 v4 hr4 hbel _
                have HV4 : Hid (Below v0.heap.size v0 v4) := hide (HV3.out.trans hbel)
                clear hbel hr hF
                have hS2 := HSF.out v4 HV4.out
                clear hS
                have hS := hS2
                clear hS2
                refine hK _ _ ⟨fun _ => hS, ?_⟩
                clear hK K'
                refine ready_J (rs := [9]) (by kernel_rfl) (by simp) ?_
                intro jj hjj
                obtain rfl := List.mem_singleton.1 hjj
                clear hjj
                refine op_J rfl rfl fun K' hK => ?_
                go_simp
                refine hK _ _ ⟨fun _ => hS, ?_⟩
                clear hK K'
                refine ready_J (rs := [10]) (by kernel_rfl) (by simp) ?_
                intro jj hjj
                obtain rfl := List.mem_singleton.1 hjj
                clear hjj
                refine op_J rfl rfl fun K' hK => ?_
                go_simp
                refine hK _ _ ⟨fun _ => hS, ?_⟩
                clear hK K'
                refine done_J (by kernel_rfl) ?_ _
                refine NoPanic.normal ?_
                have hbf : Below w.heap.size w v4 := HWV.out.trans (HV4.out.mono HWV.out.size)
                have hfm : FM v4 (.slice p4 (nl + 1) c4) (l ++ [(Y.n, X)]) := FM.row hr4 (by rw [List.length_append, HNL.out]; rfl) (fun x hx => Nat.lt_of_lt_of_le hx hbf.size)
                have HFM := hide hfm; have HBF := hide hbf
                clear hfm hbf hS hr4
                go_wp2_with fail
                exact bodyPost_ret (v := .tuple #[.slice p4 (nl + 1) c4, .bool true]) (by simp only [results, Tryd.results46]; go_simp) rfl ⟨HBF.out, _, .inr ⟨rfl, _, HONE.out, HFM.out⟩⟩
          · have HUB : Hid (∀ f ∈ l, f.1 ≠ X.n) := hide HXU.out hX
            have HOR : Hid (Y.nm.isEmpty = false ∨ ∃ j, Y = hole j ∧ (∀ f ∈ l, f.1 ≠ j) ∧ j < X.n) := hide (.inr ⟨Y.n, HYH2.out hY, HYU.out hY, by have := HNE.out hX hY; omega⟩)
            have HCASE : Hid ((walkT l e a = hole X.n ∧ walkT l e b = Y) ∨ (walkT l e b = hole X.n ∧ walkT l e a = Y)) := hide (.inl ⟨by rw [HXE.out]; exact HXH.out hX, HYE.out⟩)
            have HOH : Hid (allT ok1 Y = true ∧ ∀ m ∈ hls Y, m ∈ H) := hide ⟨HYO.out, HYH.out⟩
            go_upto_region 10 with fail
            have HTK := hide (HX11.out (n10, #[.string (S X.nm), .int .i64 X.n, .slice px X.ar.length cx]) (by simp)); have HTO := hide (HX11.out (n11, #[.string (S Y.nm), .int .i64 Y.n, .slice py Y.ar.length cy]) (by simp))
            have HBT := HB11
            generalize n10 = nK at *
            generalize n11 = nO at *
            have HKB := hide ((HIX.out w (Below.refl _ _)).bds.2)
            have hwn := rwithin_any h (n := X.n) HUB.out hHl (by have := HNL.out; omega) (P := fun x => x < w.heap.size) (pl := pl) (cl := cl) Y w11 py cy (.slice none 0 0) [] w11.heap.size (fun x hx => Nat.lt_of_lt_of_le hx HBT.out.size) (HLW.out w11 HBT.out) (HIY.out w11 HBT.out) (World.ownsRow_nil _ _ _ _) (Nat.le_refl _) List.nodup_nil (by simp) (fun m hm => by cases hm) HOH.out.2 HOH.out.1
            rw [HNL.out] at hwn
            have HWN := hide hwn
            clear hwn
            unfold cs3 at HWN
            have k0 := HTK.out.cell 0; have k1 := HTK.out.cell 1; have k2 := HTK.out.cell 2
            simp only [List.getElem?_toArray, List.getElem?_cons_succ, List.getElem?_cons_zero] at k0 k1 k2
            have o0 := HTO.out.cell 0; have o1 := HTO.out.cell 1; have o2 := HTO.out.cell 2
            simp only [List.getElem?_toArray, List.getElem?_cons_succ, List.getElem?_cons_zero] at o0 o1 o2
            go_wp2_with fail
            refine HWN.out.mono ?_
            rintro r wn ⟨hb, vn, hor⟩
            have HBN := hide (HBT.out.trans (hb.mono HBT.out.size))
            have HTK2 := hide (HTK.out.below hb HTK.out.lt)
            have HTO2 := hide (HTO.out.below hb HTO.out.lt)
            clear hb
            rcases hor with ⟨hfd, rfl⟩ | ⟨hfd, rfl, _⟩
            · have HNONE : Hid (OneN l a b) := hide (one_occurs h HCASE.out HOR.out hfd)
              clear hfd
              go_wp2_with fail
              exact bodyPost_ret (v := .tuple #[.slice pl nl cl, .bool false]) (by simp only [results, Tryd.results46]; go_simp) rfl ⟨HBN.out, _, .inl ⟨rfl, HNONE.out⟩⟩
            · have HONE : Hid (OneT H l a b (l ++ [(X.n, Y)])) := hide (one_bind h haH hbH hao hbo HCASE.out HUB.out hfd HOR.out)
              clear hfd k0 k1 k2 o0 o1 o2
              go_upto_region 13 with fail
              refine wp_region_noPanic ?_
              refine region_J 11 (N := 11) (S := (fun W' : World => W'.cell? ⟨nK, 1, none⟩ = some (.int .i64 X.n) ∧ W'.cell? ⟨nO, 0, none⟩ = some (.string (S Y.nm)) ∧ W'.cell? ⟨nO, 1, none⟩ = some (.int .i64 Y.n) ∧ W'.cell? ⟨nO, 2, none⟩ = some (.slice py Y.ar.length cy))) (by kernel_rfl) (by kernel_rfl) ?_
              have HSF0 : Hid (∀ W, Below wn.heap.size wn W → (fun W' : World => W'.cell? ⟨nK, 1, none⟩ = some (.int .i64 X.n) ∧ W'.cell? ⟨nO, 0, none⟩ = some (.string (S Y.nm)) ∧ W'.cell? ⟨nO, 1, none⟩ = some (.int .i64 Y.n) ∧ W'.cell? ⟨nO, 2, none⟩ = some (.slice py Y.ar.length cy)) W) := hide fun W hW => ⟨(HTK2.out.below hW HTK2.out.lt).cell 1, (HTO2.out.below hW HTO2.out.lt).cell 0, (HTO2.out.below hW HTO2.out.lt).cell 1, (HTO2.out.below hW HTO2.out.lt).cell 2⟩
              have HWV : Hid (Below w.heap.size w wn.drew) := hide (HBN.out.trans ((below_drew wn).mono HBN.out.size))
              have HSF : Hid (∀ W, Below wn.drew.heap.size wn.drew W → (fun W' : World => W'.cell? ⟨nK, 1, none⟩ = some (.int .i64 X.n) ∧ W'.cell? ⟨nO, 0, none⟩ = some (.string (S Y.nm)) ∧ W'.cell? ⟨nO, 1, none⟩ = some (.int .i64 Y.n) ∧ W'.cell? ⟨nO, 2, none⟩ = some (.slice py Y.ar.length cy)) W) := hide fun W hW => HSF0.out W ((below_drew wn).trans hW)
              have hS : (fun W' : World => W'.cell? ⟨nK, 1, none⟩ = some (.int .i64 X.n) ∧ W'.cell? ⟨nO, 0, none⟩ = some (.string (S Y.nm)) ∧ W'.cell? ⟨nO, 1, none⟩ = some (.int .i64 Y.n) ∧ W'.cell? ⟨nO, 2, none⟩ = some (.slice py Y.ar.length cy)) wn.drew := HSF.out wn.drew (Below.refl _ _)
              generalize wn.drew = v0 at *
              have HV0 : Hid (Below v0.heap.size v0 v0) := hide (Below.refl _ _)
              refine take_D (i := 1) 76 (.slice pl nl cl) rfl rfl (by kernel_rfl) (by kernel_rfl) (by kernel_rfl) (by kernel_rfl) (fun _ _ _ h => h) (Or.inl ⟨by rfl, fun W' hW => by obtain ⟨s0, s1, s2, s3⟩ := hW; go_simp⟩) hS ?_
              simp only [Act.put, List.setIfInBounds_toArray, List.set_cons_zero, List.set_cons_succ]
              refine take_D (i := 3) 78 (.pointer (some ⟨nK, 1, none⟩)) rfl rfl (by kernel_rfl) (by kernel_rfl) (by kernel_rfl) (by kernel_rfl) (fun _ _ _ h => h) (Or.inl ⟨by rfl, fun W' hW => by obtain ⟨s0, s1, s2, s3⟩ := hW; go_simp⟩) hS ?_
              simp only [Act.put, List.setIfInBounds_toArray, List.set_cons_zero, List.set_cons_succ]
              refine take_D (i := 4) 79 (.int .i64 X.n) rfl rfl (by kernel_rfl) (by kernel_rfl) (by kernel_rfl) (by kernel_rfl) (fun _ _ _ h => h) (Or.inl ⟨by rfl, fun W' hW => by obtain ⟨s0, s1, s2, s3⟩ := hW; go_simp⟩) hS ?_
              simp only [Act.put, List.setIfInBounds_toArray, List.set_cons_zero, List.set_cons_succ]
              refine take_D (i := 5) 80 (.agg #[.string (S Y.nm), .int .i64 Y.n, .slice py Y.ar.length cy]) rfl rfl (by kernel_rfl) (by kernel_rfl) (by kernel_rfl) (by kernel_rfl) (fun _ _ _ h => h) (Or.inl ⟨by rfl, fun W' hW => by obtain ⟨s0, s1, s2, s3⟩ := hW; go_simp⟩) hS ?_
              simp only [Act.put, List.setIfInBounds_toArray, List.set_cons_zero, List.set_cons_succ]
              refine take_D (i := 6) 81 (.agg #[.int .i64 X.n, .string (S Y.nm), .int .i64 Y.n, .slice py Y.ar.length cy]) rfl rfl (by kernel_rfl) (by kernel_rfl) (by kernel_rfl) (by kernel_rfl) (fun _ _ _ h => h) (Or.inl ⟨by rfl, fun W' hW => by obtain ⟨s0, s1, s2, s3⟩ := hW; go_simp⟩) hS ?_
              simp only [Act.put, List.setIfInBounds_toArray, List.set_cons_zero, List.set_cons_succ]
              refine ready_J (rs := [0, 7]) (by kernel_rfl) (by simp) ?_
              intro jj hjj
              have hj2 : jj = 0 ∨ jj = 7 := by simpa using hjj
              clear hjj
              rcases hj2 with rfl | rfl
              · refine op_J rfl rfl fun K' hK => ?_
                go_simp
                have hr : RowO (fun x => x < w.heap.size) v0.heap.size (v0.alloc (.cells #[] 34)) (.slice (some ⟨v0.heap.size, 0, none⟩) 0 0) [] := RowO.new (fun x => x < w.heap.size) v0.heap.size v0 HV0.out.size
                have HV1 : Hid (Below v0.heap.size v0 (v0.alloc (.cells #[] 34))) := hide (HV0.out.alloc HV0.out.size _)
                have hlt1 : v0.heap.size < (v0.alloc (.cells #[] 34)).heap.size := by simp
                have hS2 := HSF.out (v0.alloc (.cells #[] 34)) HV1.out
                clear hS
                have hS := hS2
                clear hS2
                refine hK _ _ ⟨fun _ => hS, ?_⟩
                clear hK K'
                generalize (v0.alloc (.cells #[] 34)) = v1 at *
                refine ready_J (rs := [2, 7]) (by kernel_rfl) (by simp) ?_
                intro jj hjj
                have hj2 : jj = 2 ∨ jj = 7 := by simpa using hjj
                clear hjj
                rcases hj2 with rfl | rfl
                · refine op_J rfl rfl fun K' hK => ?_
                  refine wp_spreadF (P := (fun x => x < w.heap.size)) (Q := (fun x => x < w.heap.size)) _ _ rfl (base := v0.heap.size) (lo := []) (n := 0) (m := nl) rfl rfl hr (l := l) rfl HNL.out (HLW.out v1 (HWV.out.trans (HV1.out.mono HWV.out.size))) hslc (by omega) HV1.out.size (fun x hx => Nat.lt_of_lt_of_le hx HWV.out.size) ?_
                  intro p2 c2 v2 hr2 hbel hgrow
                  rw [List.nil_append, Nat.zero_add] at hr2
                  rw [Nat.zero_add]
                  have HV2 : Hid (Below v0.heap.size v0 v2) := hide (HV1.out.trans hbel)
                  clear hr
                  have hr := hr2
                  clear hr2
                  clear hbel hgrow
                  have hS2 := HSF.out v2 HV2.out
                  clear hS
                  have hS := hS2
                  clear hS2
                  refine hK _ _ ⟨fun _ => hS, ?_⟩
                  clear hK K'
                  refine ready_J (rs := [7]) (by kernel_rfl) (by simp) ?_
                  intro jj hjj
                  obtain rfl := List.mem_singleton.1 hjj
                  clear hjj
                  refine op_J rfl rfl fun K' hK => ?_
                  go_simp
                  have hF : FL (fun x => x < w.heap.size) v2.heap.size (X.n, Y) (v2.alloc (.cells #[.int .i64 X.n, .string (S Y.nm), .int .i64 Y.n, .slice py Y.ar.length cy] 34)) := FL.new v2 (X.n, Y) HKB.out (TyIn.keep (KP.of_below HV2.out fun x hx => Nat.lt_of_lt_of_le hx HWV.out.size) (fun x hx => hx) _ _ (HIY.out v0 HWV.out)) (fun x hx => Nat.lt_of_lt_of_le hx (Nat.le_trans HWV.out.size HV2.out.size))
                  have HV3 : Hid (Below v0.heap.size v0 (v2.alloc (.cells #[.int .i64 X.n, .string (S Y.nm), .int .i64 Y.n, .slice py Y.ar.length cy] 34))) := hide (HV2.out.alloc HV2.out.size _)
                  have hlt3 : v2.heap.size < (v2.alloc (.cells #[.int .i64 X.n, .string (S Y.nm), .int .i64 Y.n, .slice py Y.ar.length cy] 34)).heap.size := by simp
                  have hr2 := hr.keep (fun x hx => Nat.lt_of_lt_of_le hx (Nat.le_trans HWV.out.size HV2.out.size)) ((Below.refl _ v2).alloc (Nat.le_refl _) (.cells #[.int .i64 X.n, .string (S Y.nm), .int .i64 Y.n, .slice py Y.ar.length cy] 34))
                  clear hr
                  have hr := hr2
                  clear hr2
                  have hS2 := HSF.out (v2.alloc (.cells #[.int .i64 X.n, .string (S Y.nm), .int .i64 Y.n, .slice py Y.ar.length cy] 34)) HV3.out
                  clear hS
                  have hS := hS2
                  clear hS2
                  refine hK _ _ ⟨fun _ => hS, ?_⟩
                  clear hK K'
                  generalize (v2.alloc (.cells #[.int .i64 X.n, .string (S Y.nm), .int .i64 Y.n, .slice py Y.ar.length cy] 34)) = v3 at *
                  refine ready_J (rs := [8]) (by kernel_rfl) (by simp) ?_
                  intro jj hjj
                  obtain rfl := List.mem_singleton.1 hjj
                  clear hjj
                  refine op_J rfl rfl fun K' hK => ?_
                  refine wp_spreadF (P := (fun x => x < w.heap.size)) (Q := fun x => x = v2.heap.size) _ _ rfl (base := v0.heap.size) (lo := l) (n := nl) (m := 1) rfl HNL.out hr (l := [(X.n, Y)]) rfl rfl hF.2 (fun h => by cases h) (by omega) HV3.out.size (fun x hx => Nat.lt_of_lt_of_le hx HWV.out.size) ?_
                  intro p4 c4 v4 hr4 hbel _
                  have HV4 : Hid (Below v0.heap.size v0 v4) := hide (HV3.out.trans hbel)
                  clear hbel hr hF
                  have hS2 := HSF.out v4 HV4.out
                  clear hS
                  have hS := hS2
                  clear hS2
                  refine hK _ _ ⟨fun _ => hS, ?_⟩
                  clear hK K'
                  refine ready_J (rs := [9]) (by kernel_rfl) (by simp) ?_
                  intro jj hjj
                  obtain rfl := List.mem_singleton.1 hjj
                  clear hjj
                  refine op_J rfl rfl fun K' hK => ?_
                  go_simp
                  refine hK _ _ ⟨fun _ => hS, ?_⟩
                  clear hK K'
                  refine ready_J (rs := [10]) (by kernel_rfl) (by simp) ?_
                  intro jj hjj
                  obtain rfl := List.mem_singleton.1 hjj
                  clear hjj
                  refine op_J rfl rfl fun K' hK => ?_
                  go_simp
                  refine hK _ _ ⟨fun _ => hS, ?_⟩
                  clear hK K'
                  refine done_J (by kernel_rfl) ?_ _
                  refine NoPanic.normal ?_
                  have hbf : Below w.heap.size w v4 := HWV.out.trans (HV4.out.mono HWV.out.size)
                  have hfm : FM v4 (.slice p4 (nl + 1) c4) (l ++ [(X.n, Y)]) := FM.row hr4 (by rw [List.length_append, HNL.out]; rfl) (fun x hx => Nat.lt_of_lt_of_le hx hbf.size)
                  have HFM := hide hfm; have HBF := hide hbf
                  clear hfm hbf hS hr4
                  go_wp2_with fail
                  exact bodyPost_ret (v := .tuple #[.slice p4 (nl + 1) c4, .bool true]) (by simp only [results, Tryd.results46]; go_simp) rfl ⟨HBF.out, _, .inr ⟨rfl, _, HONE.out, HFM.out⟩⟩
                · refine op_J rfl rfl fun K' hK => ?_
                  go_simp
                  have hF : FL (fun x => x < w.heap.size) v1.heap.size (X.n, Y) (v1.alloc (.cells #[.int .i64 X.n, .string (S Y.nm), .int .i64 Y.n, .slice py Y.ar.length cy] 34)) := FL.new v1 (X.n, Y) HKB.out (TyIn.keep (KP.of_below HV1.out fun x hx => Nat.lt_of_lt_of_le hx HWV.out.size) (fun x hx => hx) _ _ (HIY.out v0 HWV.out)) (fun x hx => Nat.lt_of_lt_of_le hx (Nat.le_trans HWV.out.size HV1.out.size))
                  have HV2 : Hid (Below v0.heap.size v0 (v1.alloc (.cells #[.int .i64 X.n, .string (S Y.nm), .int .i64 Y.n, .slice py Y.ar.length cy] 34))) := hide (HV1.out.alloc HV1.out.size _)
                  have hlt2 : v1.heap.size < (v1.alloc (.cells #[.int .i64 X.n, .string (S Y.nm), .int .i64 Y.n, .slice py Y.ar.length cy] 34)).heap.size := by simp
                  have hr2 := hr.keep (fun x hx => Nat.lt_of_lt_of_le hx (Nat.le_trans HWV.out.size HV1.out.size)) ((Below.refl _ v1).alloc (Nat.le_refl _) (.cells #[.int .i64 X.n, .string (S Y.nm), .int .i64 Y.n, .slice py Y.ar.length cy] 34))
                  clear hr
                  have hr := hr2
                  clear hr2
                  have hS2 := HSF.out (v1.alloc (.cells #[.int .i64 X.n, .string (S Y.nm), .int .i64 Y.n, .slice py Y.ar.length cy] 34)) HV2.out
                  clear hS
                  have hS := hS2
                  clear hS2
                  refine hK _ _ ⟨fun _ => hS, ?_⟩
                  clear hK K'
                  generalize (v1.alloc (.cells #[.int .i64 X.n, .string (S Y.nm), .int .i64 Y.n, .slice py Y.ar.length cy] 34)) = v2 at *
                  refine ready_J (rs := [2]) (by kernel_rfl) (by simp) ?_
                  intro jj hjj
                  obtain rfl := List.mem_singleton.1 hjj
                  clear hjj
                  refine op_J rfl rfl fun K' hK => ?_
                  refine wp_spreadF (P := (fun x => x < w.heap.size)) (Q := (fun x => x < w.heap.size)) _ _ rfl (base := v0.heap.size) (lo := []) (n := 0) (m := nl) rfl rfl hr (l := l) rfl HNL.out (HLW.out v2 (HWV.out.trans (HV2.out.mono HWV.out.size))) hslc (by omega) HV2.out.size (fun x hx => Nat.lt_of_lt_of_le hx HWV.out.size) ?_
                  intro p2 c2 v3 hr2 hbel hgrow
                  rw [List.nil_append, Nat.zero_add] at hr2
                  rw [Nat.zero_add]
                  have HV3 : Hid (Below v0.heap.size v0 v3) := hide (HV2.out.trans hbel)
                  clear hr
                  have hr := hr2
                  clear hr2
                  have hF2 := hF.grown (fun x hx => Nat.lt_of_lt_of_le hx HWV.out.size) hbel hgrow (by simp [Value.ownBlock]; omega)
                  clear hF
                  have hF := hF2
                  clear hF2
                  clear hbel hgrow
                  have hS2 := HSF.out v3 HV3.out
                  clear hS
                  have hS := hS2
                  clear hS2
                  refine hK _ _ ⟨fun _ => hS, ?_⟩
                  clear hK K'
                  refine ready_J (rs := [8]) (by kernel_rfl) (by simp) ?_
                  intro jj hjj
                  obtain rfl := List.mem_singleton.1 hjj
                  clear hjj
                  refine op_J rfl rfl fun K' hK => ?_
                  refine wp_spreadF (P := (fun x => x < w.heap.size)) (Q := fun x => x = v1.heap.size) _ _ rfl (base := v0.heap.size) (lo := l) (n := nl) (m := 1) rfl HNL.out hr (l := [(X.n, Y)]) rfl rfl hF.2 (fun h => by cases h) (by omega) HV3.out.size (fun x hx => Nat.lt_of_lt_of_le hx HWV.out.size) ?_
                  intro p4 c4 v4 hr4 hbel _
                  have HV4 : Hid (Below v0.heap.size v0 v4) := hide (HV3.out.trans hbel)
                  clear hbel hr hF
                  have hS2 := HSF.out v4 HV4.out
                  clear hS
                  have hS := hS2
                  clear hS2
                  refine hK _ _ ⟨fun _ => hS, ?_⟩
                  clear hK K'
                  refine ready_J (rs := [9]) (by kernel_rfl) (by simp) ?_
                  intro jj hjj
                  obtain rfl := List.mem_singleton.1 hjj
                  clear hjj
                  refine op_J rfl rfl fun K' hK => ?_
                  go_simp
                  refine hK _ _ ⟨fun _ => hS, ?_⟩
                  clear hK K'
                  refine ready_J (rs := [10]) (by kernel_rfl) (by simp) ?_
                  intro jj hjj
                  obtain rfl := List.mem_singleton.1 hjj
                  clear hjj
                  refine op_J rfl rfl fun K' hK => ?_
                  go_simp
                  refine hK _ _ ⟨fun _ => hS, ?_⟩
                  clear hK K'
                  refine done_J (by kernel_rfl) ?_ _
                  refine NoPanic.normal ?_
                  have hbf : Below w.heap.size w v4 := HWV.out.trans (HV4.out.mono HWV.out.size)
                  have hfm : FM v4 (.slice p4 (nl + 1) c4) (l ++ [(X.n, Y)]) := FM.row hr4 (by rw [List.length_append, HNL.out]; rfl) (fun x hx => Nat.lt_of_lt_of_le hx hbf.size)
                  have HFM := hide hfm; have HBF := hide hbf
                  clear hfm hbf hS hr4
                  go_wp2_with fail
                  exact bodyPost_ret (v := .tuple #[.slice p4 (nl + 1) c4, .bool true]) (by simp only [results, Tryd.results46]; go_simp) rfl ⟨HBF.out, _, .inr ⟨rfl, _, HONE.out, HFM.out⟩⟩
              · refine op_J rfl rfl fun K' hK => ?_
                go_simp
                have hF : FL (fun x => x < w.heap.size) v0.heap.size (X.n, Y) (v0.alloc (.cells #[.int .i64 X.n, .string (S Y.nm), .int .i64 Y.n, .slice py Y.ar.length cy] 34)) := FL.new v0 (X.n, Y) HKB.out (TyIn.keep (KP.of_below HV0.out fun x hx => Nat.lt_of_lt_of_le hx HWV.out.size) (fun x hx => hx) _ _ (HIY.out v0 HWV.out)) (fun x hx => Nat.lt_of_lt_of_le hx (Nat.le_trans HWV.out.size HV0.out.size))
                have HV1 : Hid (Below v0.heap.size v0 (v0.alloc (.cells #[.int .i64 X.n, .string (S Y.nm), .int .i64 Y.n, .slice py Y.ar.length cy] 34))) := hide (HV0.out.alloc HV0.out.size _)
                have hlt1 : v0.heap.size < (v0.alloc (.cells #[.int .i64 X.n, .string (S Y.nm), .int .i64 Y.n, .slice py Y.ar.length cy] 34)).heap.size := by simp
                have hS2 := HSF.out (v0.alloc (.cells #[.int .i64 X.n, .string (S Y.nm), .int .i64 Y.n, .slice py Y.ar.length cy] 34)) HV1.out
                clear hS
                have hS := hS2
                clear hS2
                refine hK _ _ ⟨fun _ => hS, ?_⟩
                clear hK K'
                generalize (v0.alloc (.cells #[.int .i64 X.n, .string (S Y.nm), .int .i64 Y.n, .slice py Y.ar.length cy] 34)) = v1 at *
                refine ready_J (rs := [0]) (by kernel_rfl) (by simp) ?_
                intro jj hjj
                obtain rfl := List.mem_singleton.1 hjj
                clear hjj
                refine op_J rfl rfl fun K' hK => ?_
                go_simp
                have hr : RowO (fun x => x < w.heap.size) v0.heap.size (v1.alloc (.cells #[] 34)) (.slice (some ⟨v1.heap.size, 0, none⟩) 0 0) [] := RowO.new (fun x => x < w.heap.size) v0.heap.size v1 HV1.out.size
                have HV2 : Hid (Below v0.heap.size v0 (v1.alloc (.cells #[] 34))) := hide (HV1.out.alloc HV1.out.size _)
                have hlt2 : v1.heap.size < (v1.alloc (.cells #[] 34)).heap.size := by simp
                have hF2 := hF.alloc (fun x hx => Nat.lt_of_lt_of_le hx (Nat.le_trans HWV.out.size HV1.out.size)) (.cells #[] 34)
                clear hF
                have hF := hF2
                clear hF2
                have hS2 := HSF.out (v1.alloc (.cells #[] 34)) HV2.out
                clear hS
                have hS := hS2
                clear hS2
                refine hK _ _ ⟨fun _ => hS, ?_⟩
                clear hK K'
                generalize (v1.alloc (.cells #[] 34)) = v2 at *
                refine ready_J (rs := [2]) (by kernel_rfl) (by simp) ?_
                intro jj hjj
                obtain rfl := List.mem_singleton.1 hjj
                clear hjj
                refine op_J rfl rfl fun K' hK => ?_
                refine wp_spreadF (P := (fun x => x < w.heap.size)) (Q := (fun x => x < w.heap.size)) _ _ rfl (base := v0.heap.size) (lo := []) (n := 0) (m := nl) rfl rfl hr (l := l) rfl HNL.out (HLW.out v2 (HWV.out.trans (HV2.out.mono HWV.out.size))) hslc (by omega) HV2.out.size (fun x hx => Nat.lt_of_lt_of_le hx HWV.out.size) ?_
                intro p2 c2 v3 hr2 hbel hgrow
                rw [List.nil_append, Nat.zero_add] at hr2
                rw [Nat.zero_add]
                have HV3 : Hid (Below v0.heap.size v0 v3) := hide (HV2.out.trans hbel)
                clear hr
                have hr := hr2
                clear hr2
                have hF2 := hF.grown (fun x hx => Nat.lt_of_lt_of_le hx HWV.out.size) hbel hgrow (by simp [Value.ownBlock]; omega)
                clear hF
                have hF := hF2
                clear hF2
                clear hbel hgrow
                have hS2 := HSF.out v3 HV3.out
                clear hS
                have hS := hS2
                clear hS2
                refine hK _ _ ⟨fun _ => hS, ?_⟩
                clear hK K'
                refine ready_J (rs := [8]) (by kernel_rfl) (by simp) ?_
                intro jj hjj
                obtain rfl := List.mem_singleton.1 hjj
                clear hjj
                refine op_J rfl rfl fun K' hK => ?_
                refine wp_spreadF (P := (fun x => x < w.heap.size)) (Q := fun x => x = v0.heap.size) _ _ rfl (base := v0.heap.size) (lo := l) (n := nl) (m := 1) rfl HNL.out hr (l := [(X.n, Y)]) rfl rfl hF.2 (fun h => by cases h) (by omega) HV3.out.size (fun x hx => Nat.lt_of_lt_of_le hx HWV.out.size) ?_
                intro p4 c4 v4 hr4 hbel _
                have HV4 : Hid (Below v0.heap.size v0 v4) := hide (HV3.out.trans hbel)
                clear hbel hr hF
                have hS2 := HSF.out v4 HV4.out
                clear hS
                have hS := hS2
                clear hS2
                refine hK _ _ ⟨fun _ => hS, ?_⟩
                clear hK K'
                refine ready_J (rs := [9]) (by kernel_rfl) (by simp) ?_
                intro jj hjj
                obtain rfl := List.mem_singleton.1 hjj
                clear hjj
                refine op_J rfl rfl fun K' hK => ?_
                go_simp
                refine hK _ _ ⟨fun _ => hS, ?_⟩
                clear hK K'
                refine ready_J (rs := [10]) (by kernel_rfl) (by simp) ?_
                intro jj hjj
                obtain rfl := List.mem_singleton.1 hjj
                clear hjj
                refine op_J rfl rfl fun K' hK => ?_
                go_simp
                refine hK _ _ ⟨fun _ => hS, ?_⟩
                clear hK K'
                refine done_J (by kernel_rfl) ?_ _
                refine NoPanic.normal ?_
                have hbf : Below w.heap.size w v4 := HWV.out.trans (HV4.out.mono HWV.out.size)
                have hfm : FM v4 (.slice p4 (nl + 1) c4) (l ++ [(X.n, Y)]) := FM.row hr4 (by rw [List.length_append, HNL.out]; rfl) (fun x hx => Nat.lt_of_lt_of_le hx hbf.size)
                have HFM := hide hfm; have HBF := hide hbf
                clear hfm hbf hS hr4
                go_wp2_with fail
                exact bodyPost_ret (v := .tuple #[.slice p4 (nl + 1) c4, .bool true]) (by simp only [results, Tryd.results46]; go_simp) rfl ⟨HBF.out, _, .inr ⟨rfl, _, HONE.out, HFM.out⟩⟩
        | false =>
          rw [hY] at HHY
          go_wp2_with fail
          refine (HHY.out w10).mono ?_
          rintro r w11 ⟨rfl, hb⟩
          have HX11 := hide (HX10.out.below hb); have HB11 := hide (HB10.out.trans (hb.mono HB10.out.size))
          clear hb
          clear x0 x1 x2 y0 y1 y2
          have hhx := Bx.at HX11.out 1 rfl
          dsimp only at hhx
          have x0 := hhx.cell 0; have x1 := hhx.cell 1; have x2 := hhx.cell 2
          simp only [List.getElem?_toArray, List.getElem?_cons_succ, List.getElem?_cons_zero] at x0 x1 x2
          clear hhx
          have hhy := Bx.at HX11.out 0 rfl
          dsimp only at hhy
          have y0 := hhy.cell 0; have y1 := hhy.cell 1; have y2 := hhy.cell 2
          simp only [List.getElem?_toArray, List.getElem?_cons_succ, List.getElem?_cons_zero] at y0 y1 y2
          clear hhy
          have HUB : Hid (∀ f ∈ l, f.1 ≠ X.n) := hide HXU.out hX
          have HOR : Hid (Y.nm.isEmpty = false ∨ ∃ j, Y = hole j ∧ (∀ f ∈ l, f.1 ≠ j) ∧ j < X.n) := hide (.inl hY)
          have HCASE : Hid ((walkT l e a = hole X.n ∧ walkT l e b = Y) ∨ (walkT l e b = hole X.n ∧ walkT l e a = Y)) := hide (.inl ⟨by rw [HXE.out]; exact HXH.out hX, HYE.out⟩)
          have HOH : Hid (allT ok1 Y = true ∧ ∀ m ∈ hls Y, m ∈ H) := hide ⟨HYO.out, HYH.out⟩
          go_upto_region 10 with fail
          have HTK := hide (HX11.out (n10, #[.string (S X.nm), .int .i64 X.n, .slice px X.ar.length cx]) (by simp)); have HTO := hide (HX11.out (n11, #[.string (S Y.nm), .int .i64 Y.n, .slice py Y.ar.length cy]) (by simp))
          have HBT := HB11
          generalize n10 = nK at *
          generalize n11 = nO at *
          have HKB := hide ((HIX.out w (Below.refl _ _)).bds.2)
          have hwn := rwithin_any h (n := X.n) HUB.out hHl (by have := HNL.out; omega) (P := fun x => x < w.heap.size) (pl := pl) (cl := cl) Y w11 py cy (.slice none 0 0) [] w11.heap.size (fun x hx => Nat.lt_of_lt_of_le hx HBT.out.size) (HLW.out w11 HBT.out) (HIY.out w11 HBT.out) (World.ownsRow_nil _ _ _ _) (Nat.le_refl _) List.nodup_nil (by simp) (fun m hm => by cases hm) HOH.out.2 HOH.out.1
          rw [HNL.out] at hwn
          have HWN := hide hwn
          clear hwn
          unfold cs3 at HWN
          have k0 := HTK.out.cell 0; have k1 := HTK.out.cell 1; have k2 := HTK.out.cell 2
          simp only [List.getElem?_toArray, List.getElem?_cons_succ, List.getElem?_cons_zero] at k0 k1 k2
          have o0 := HTO.out.cell 0; have o1 := HTO.out.cell 1; have o2 := HTO.out.cell 2
          simp only [List.getElem?_toArray, List.getElem?_cons_succ, List.getElem?_cons_zero] at o0 o1 o2
          go_wp2_with fail
          refine HWN.out.mono ?_
          rintro r wn ⟨hb, vn, hor⟩
          have HBN := hide (HBT.out.trans (hb.mono HBT.out.size))
          have HTK2 := hide (HTK.out.below hb HTK.out.lt)
          have HTO2 := hide (HTO.out.below hb HTO.out.lt)
          clear hb
          rcases hor with ⟨hfd, rfl⟩ | ⟨hfd, rfl, _⟩
          · have HNONE : Hid (OneN l a b) := hide (one_occurs h HCASE.out HOR.out hfd)
            clear hfd
            go_wp2_with fail
            exact bodyPost_ret (v := .tuple #[.slice pl nl cl, .bool false]) (by simp only [results, Tryd.results46]; go_simp) rfl ⟨HBN.out, _, .inl ⟨rfl, HNONE.out⟩⟩
          · have HONE : Hid (OneT H l a b (l ++ [(X.n, Y)])) := hide (one_bind h haH hbH hao hbo HCASE.out HUB.out hfd HOR.out)
            clear hfd k0 k1 k2 o0 o1 o2
            go_upto_region 13 with fail
            refine wp_region_noPanic ?_
            refine region_J 11 (N := 11) (S := (fun W' : World => W'.cell? ⟨nK, 1, none⟩ = some (.int .i64 X.n) ∧ W'.cell? ⟨nO, 0, none⟩ = some (.string (S Y.nm)) ∧ W'.cell? ⟨nO, 1, none⟩ = some (.int .i64 Y.n) ∧ W'.cell? ⟨nO, 2, none⟩ = some (.slice py Y.ar.length cy))) (by kernel_rfl) (by kernel_rfl) ?_
            have HSF0 : Hid (∀ W, Below wn.heap.size wn W → (fun W' : World => W'.cell? ⟨nK, 1, none⟩ = some (.int .i64 X.n) ∧ W'.cell? ⟨nO, 0, none⟩ = some (.string (S Y.nm)) ∧ W'.cell? ⟨nO, 1, none⟩ = some (.int .i64 Y.n) ∧ W'.cell? ⟨nO, 2, none⟩ = some (.slice py Y.ar.length cy)) W) := hide fun W hW => ⟨(HTK2.out.below hW HTK2.out.lt).cell 1, (HTO2.out.below hW HTO2.out.lt).cell 0, (HTO2.out.below hW HTO2.out.lt).cell 1, (HTO2.out.below hW HTO2.out.lt).cell 2⟩
            have HWV : Hid (Below w.heap.size w wn.drew) := hide (HBN.out.trans ((below_drew wn).mono HBN.out.size))
            have HSF : Hid (∀ W, Below wn.drew.heap.size wn.drew W → (fun W' : World => W'.cell? ⟨nK, 1, none⟩ = some (.int .i64 X.n) ∧ W'.cell? ⟨nO, 0, none⟩ = some (.string (S Y.nm)) ∧ W'.cell? ⟨nO, 1, none⟩ = some (.int .i64 Y.n) ∧ W'.cell? ⟨nO, 2, none⟩ = some (.slice py Y.ar.length cy)) W) := hide fun W hW => HSF0.out W ((below_drew wn).trans hW)
            have hS : (fun W' : World => W'.cell? ⟨nK, 1, none⟩ = some (.int .i64 X.n) ∧ W'.cell? ⟨nO, 0, none⟩ = some (.string (S Y.nm)) ∧ W'.cell? ⟨nO, 1, none⟩ = some (.int .i64 Y.n) ∧ W'.cell? ⟨nO, 2, none⟩ = some (.slice py Y.ar.length cy)) wn.drew := HSF.out wn.drew (Below.refl _ _)
            generalize wn.drew = v0 at *
            have HV0 : Hid (Below v0.heap.size v0 v0) := hide (Below.refl _ _)
            refine take_D (i := 1) 76 (.slice pl nl cl) rfl rfl (by kernel_rfl) (by kernel_rfl) (by kernel_rfl) (by kernel_rfl) (fun _ _ _ h => h) (Or.inl ⟨by rfl, fun W' hW => by obtain ⟨s0, s1, s2, s3⟩ := hW; go_simp⟩) hS ?_
            simp only [Act.put, List.setIfInBounds_toArray, List.set_cons_zero, List.set_cons_succ]
            refine take_D (i := 3) 78 (.pointer (some ⟨nK, 1, none⟩)) rfl rfl (by kernel_rfl) (by kernel_rfl) (by kernel_rfl) (by kernel_rfl) (fun _ _ _ h => h) (Or.inl ⟨by rfl, fun W' hW => by obtain ⟨s0, s1, s2, s3⟩ := hW; go_simp⟩) hS ?_
            simp only [Act.put, List.setIfInBounds_toArray, List.set_cons_zero, List.set_cons_succ]
            refine take_D (i := 4) 79 (.int .i64 X.n) rfl rfl (by kernel_rfl) (by kernel_rfl) (by kernel_rfl) (by kernel_rfl) (fun _ _ _ h => h) (Or.inl ⟨by rfl, fun W' hW => by obtain ⟨s0, s1, s2, s3⟩ := hW; go_simp⟩) hS ?_
            simp only [Act.put, List.setIfInBounds_toArray, List.set_cons_zero, List.set_cons_succ]
            refine take_D (i := 5) 80 (.agg #[.string (S Y.nm), .int .i64 Y.n, .slice py Y.ar.length cy]) rfl rfl (by kernel_rfl) (by kernel_rfl) (by kernel_rfl) (by kernel_rfl) (fun _ _ _ h => h) (Or.inl ⟨by rfl, fun W' hW => by obtain ⟨s0, s1, s2, s3⟩ := hW; go_simp⟩) hS ?_
            simp only [Act.put, List.setIfInBounds_toArray, List.set_cons_zero, List.set_cons_succ]
            refine take_D (i := 6) 81 (.agg #[.int .i64 X.n, .string (S Y.nm), .int .i64 Y.n, .slice py Y.ar.length cy]) rfl rfl (by kernel_rfl) (by kernel_rfl) (by kernel_rfl) (by kernel_rfl) (fun _ _ _ h => h) (Or.inl ⟨by rfl, fun W' hW => by obtain ⟨s0, s1, s2, s3⟩ := hW; go_simp⟩) hS ?_
            simp only [Act.put, List.setIfInBounds_toArray, List.set_cons_zero, List.set_cons_succ]
            refine ready_J (rs := [0, 7]) (by kernel_rfl) (by simp) ?_
            intro jj hjj
            have hj2 : jj = 0 ∨ jj = 7 := by simpa using hjj
            clear hjj
            rcases hj2 with rfl | rfl
            · refine op_J rfl rfl fun K' hK => ?_
              go_simp
              have hr : RowO (fun x => x < w.heap.size) v0.heap.size (v0.alloc (.cells #[] 34)) (.slice (some ⟨v0.heap.size, 0, none⟩) 0 0) [] := RowO.new (fun x => x < w.heap.size) v0.heap.size v0 HV0.out.size
              have HV1 : Hid (Below v0.heap.size v0 (v0.alloc (.cells #[] 34))) := hide (HV0.out.alloc HV0.out.size _)
              have hlt1 : v0.heap.size < (v0.alloc (.cells #[] 34)).heap.size := by simp
              have hS2 := HSF.out (v0.alloc (.cells #[] 34)) HV1.out
              clear hS
              have hS := hS2
              clear hS2
              refine hK _ _ ⟨fun _ => hS, ?_⟩
              clear hK K'
              generalize (v0.alloc (.cells #[] 34)) = v1 at *
              refine ready_J (rs := [2, 7]) (by kernel_rfl) (by simp) ?_
              intro jj hjj
              have hj2 : jj = 2 ∨ jj = 7 := by simpa using hjj
              clear hjj
              rcases hj2 with rfl | rfl
              · refine op_J rfl rfl fun K' hK => ?_
                refine wp_spreadF (P := (fun x => x < w.heap.size)) (Q := (fun x => x < w.heap.size)) _ _ rfl (base := v0.heap.size) (lo := []) (n := 0) (m := nl) rfl rfl hr (l := l) rfl HNL.out (HLW.out v1 (HWV.out.trans (HV1.out.mono HWV.out.size))) hslc (by omega) HV1.out.size (fun x hx => Nat.lt_of_lt_of_le hx HWV.out.size) ?_
                intro p2 c2 v2 hr2 hbel hgrow
                rw [List.nil_append, Nat.zero_add] at hr2
                rw [Nat.zero_add]
                have HV2 : Hid (Below v0.heap.size v0 v2) := hide (HV1.out.trans hbel)
                clear hr
                have hr := hr2
                clear hr2
                clear hbel hgrow
                have hS2 := HSF.out v2 HV2.out
                clear hS
                have hS := hS2
                clear hS2
                refine hK _ _ ⟨fun _ => hS, ?_⟩
                clear hK K'
                refine ready_J (rs := [7]) (by kernel_rfl) (by simp) ?_
                intro jj hjj
                obtain rfl := List.mem_singleton.1 hjj
                clear hjj
                refine op_J rfl rfl fun K' hK => ?_
                go_simp
                have hF : FL (fun x => x < w.heap.size) v2.heap.size (X.n, Y) (v2.alloc (.cells #[.int .i64 X.n, .string (S Y.nm), .int .i64 Y.n, .slice py Y.ar.length cy] 34)) := FL.new v2 (X.n, Y) HKB.out (TyIn.keep (KP.of_below HV2.out fun x hx => Nat.lt_of_lt_of_le hx HWV.out.size) (fun x hx => hx) _ _ (HIY.out v0 HWV.out)) (fun x hx => Nat.lt_of_lt_of_le hx (Nat.le_trans HWV.out.size HV2.out.size))
                have HV3 : Hid (Below v0.heap.size v0 (v2.alloc (.cells #[.int .i64 X.n, .string (S Y.nm), .int .i64 Y.n, .slice py Y.ar.length cy] 34))) := hide (HV2.out.alloc HV2.out.size _)
                have hlt3 : v2.heap.size < (v2.alloc (.cells #[.int .i64 X.n, .string (S Y.nm), .int .i64 Y.n, .slice py Y.ar.length cy] 34)).heap.size := by simp
                have hr2 := hr.keep (fun x hx => Nat.lt_of_lt_of_le hx (Nat.le_trans HWV.out.size HV2.out.size)) ((Below.refl _ v2).alloc (Nat.le_refl _) (.cells #[.int .i64 X.n, .string (S Y.nm), .int .i64 Y.n, .slice py Y.ar.length cy] 34))
                clear hr
                have hr := hr2
                clear hr2
                have hS2 := HSF.out (v2.alloc (.cells #[.int .i64 X.n, .string (S Y.nm), .int .i64 Y.n, .slice py Y.ar.length cy] 34)) HV3.out
                clear hS
                have hS := hS2
                clear hS2
                refine hK _ _ ⟨fun _ => hS, ?_⟩
                clear hK K'
                generalize (v2.alloc (.cells #[.int .i64 X.n, .string (S Y.nm), .int .i64 Y.n, .slice py Y.ar.length cy] 34)) = v3 at *
                refine ready_J (rs := [8]) (by kernel_rfl) (by simp) ?_
                intro jj hjj
                obtain rfl := List.mem_singleton.1 hjj
                clear hjj
                refine op_J rfl rfl fun K' hK => ?_
                refine wp_spreadF (P := (fun x => x < w.heap.size)) (Q := fun x => x = v2.heap.size) _ _ rfl (base := v0.heap.size) (lo := l) (n := nl) (m := 1) rfl HNL.out hr (l := [(X.n, Y)]) rfl rfl hF.2 (fun h => by cases h) (by omega) HV3.out.size (fun x hx => Nat.lt_of_lt_of_le hx HWV.out.size) ?_
                intro p4 c4 v4 hr4 hbel _
                have HV4 : Hid (Below v0.heap.size v0 v4) := hide (HV3.out.trans hbel)
                clear hbel hr hF
                have hS2 := HSF.out v4 HV4.out
                clear hS
                have hS := hS2
                clear hS2
                refine hK _ _ ⟨fun _ => hS, ?_⟩
                clear hK K'
                refine ready_J (rs := [9]) (by kernel_rfl) (by simp) ?_
                intro jj hjj
                obtain rfl := List.mem_singleton.1 hjj
                clear hjj
                refine op_J rfl rfl fun K' hK => ?_
                go_simp
                refine hK _ _ ⟨fun _ => hS, ?_⟩
                clear hK K'
                refine ready_J (rs := [10]) (by kernel_rfl) (by simp) ?_
                intro jj hjj
                obtain rfl := List.mem_singleton.1 hjj
                clear hjj
                refine op_J rfl rfl fun K' hK => ?_
                go_simp
                refine hK _ _ ⟨fun _ => hS, ?_⟩
                clear hK K'
                refine done_J (by kernel_rfl) ?_ _
                refine NoPanic.normal ?_
                have hbf : Below w.heap.size w v4 := HWV.out.trans (HV4.out.mono HWV.out.size)
                have hfm : FM v4 (.slice p4 (nl + 1) c4) (l ++ [(X.n, Y)]) := FM.row hr4 (by rw [List.length_append, HNL.out]; rfl) (fun x hx => Nat.lt_of_lt_of_le hx hbf.size)
                have HFM := hide hfm; have HBF := hide hbf
                clear hfm hbf hS hr4
                go_wp2_with fail
                exact bodyPost_ret (v := .tuple #[.slice p4 (nl + 1) c4, .bool true]) (by simp only [results, Tryd.results46]; go_simp) rfl ⟨HBF.out, _, .inr ⟨rfl, _, HONE.out, HFM.out⟩⟩
              · refine op_J rfl rfl fun K' hK => ?_
                go_simp
                have hF : FL (fun x => x < w.heap.size) v1.heap.size (X.n, Y) (v1.alloc (.cells #[.int .i64 X.n, .string (S Y.nm), .int .i64 Y.n, .slice py Y.ar.length cy] 34)) := FL.new v1 (X.n, Y) HKB.out (TyIn.keep (KP.of_below HV1.out fun x hx => Nat.lt_of_lt_of_le hx HWV.out.size) (fun x hx => hx) _ _ (HIY.out v0 HWV.out)) (fun x hx => Nat.lt_of_lt_of_le hx (Nat.le_trans HWV.out.size HV1.out.size))
                have HV2 : Hid (Below v0.heap.size v0 (v1.alloc (.cells #[.int .i64 X.n, .string (S Y.nm), .int .i64 Y.n, .slice py Y.ar.length cy] 34))) := hide (HV1.out.alloc HV1.out.size _)
                have hlt2 : v1.heap.size < (v1.alloc (.cells #[.int .i64 X.n, .string (S Y.nm), .int .i64 Y.n, .slice py Y.ar.length cy] 34)).heap.size := by simp
                have hr2 := hr.keep (fun x hx => Nat.lt_of_lt_of_le hx (Nat.le_trans HWV.out.size HV1.out.size)) ((Below.refl _ v1).alloc (Nat.le_refl _) (.cells #[.int .i64 X.n, .string (S Y.nm), .int .i64 Y.n, .slice py Y.ar.length cy] 34))
                clear hr
                have hr := hr2
                clear hr2
                have hS2 := HSF.out (v1.alloc (.cells #[.int .i64 X.n, .string (S Y.nm), .int .i64 Y.n, .slice py Y.ar.length cy] 34)) HV2.out
                clear hS
                have hS := hS2
                clear hS2
                refine hK _ _ ⟨fun _ => hS, ?_⟩
                clear hK K'
                generalize (v1.alloc (.cells #[.int .i64 X.n, .string (S Y.nm), .int .i64 Y.n, .slice py Y.ar.length cy] 34)) = v2 at *
                refine ready_J (rs := [2]) (by kernel_rfl) (by simp) ?_
                intro jj hjj
                obtain rfl := List.mem_singleton.1 hjj
                clear hjj
                refine op_J rfl rfl fun K' hK => ?_
                refine wp_spreadF (P := (fun x => x < w.heap.size)) (Q := (fun x => x < w.heap.size)) _ _ rfl (base := v0.heap.size) (lo := []) (n := 0) (m := nl) rfl rfl hr (l := l) rfl HNL.out (HLW.out v2 (HWV.out.trans (HV2.out.mono HWV.out.size))) hslc (by omega) HV2.out.size (fun x hx => Nat.lt_of_lt_of_le hx HWV.out.size) ?_
                intro p2 c2 v3 hr2 hbel hgrow
                rw [List.nil_append, Nat.zero_add] at hr2
                rw [Nat.zero_add]
                have HV3 : Hid (Below v0.heap.size v0 v3) := hide (HV2.out.trans hbel)
                clear hr
                have hr := hr2
                clear hr2
                have hF2 := hF.grown (fun x hx => Nat.lt_of_lt_of_le hx HWV.out.size) hbel hgrow (by simp [Value.ownBlock]; omega)
                clear hF
                have hF := hF2
                clear hF2
                clear hbel hgrow
                have hS2 := HSF.out v3 HV3.out
                clear hS
                have hS := hS2
                clear hS2
                refine hK _ _ ⟨fun _ => hS, ?_⟩
                clear hK K'
                refine ready_J (rs := [8]) (by kernel_rfl) (by simp) ?_
                intro jj hjj
                obtain rfl := List.mem_singleton.1 hjj
                clear hjj
                refine op_J rfl rfl fun K' hK => ?_
                refine wp_spreadF (P := (fun x => x < w.heap.size)) (Q := fun x => x = v1.heap.size) _ _ rfl (base := v0.heap.size) (lo := l) (n := nl) (m := 1) rfl HNL.out hr (l := [(X.n, Y)]) rfl rfl hF.2 (fun h => by cases h) (by omega) HV3.out.size (fun x hx => Nat.lt_of_lt_of_le hx HWV.out.size) ?_
                intro p4 c4 v4 hr4 hbel _
                have HV4 : Hid (Below v0.heap.size v0 v4) := hide (HV3.out.trans hbel)
                clear hbel hr hF
                have hS2 := HSF.out v4 HV4.out
                clear hS
                have hS := hS2
                clear hS2
                refine hK _ _ ⟨fun _ => hS, ?_⟩
                clear hK K'
                refine ready_J (rs := [9]) (by kernel_rfl) (by simp) ?_
                intro jj hjj
                obtain rfl := List.mem_singleton.1 hjj
                clear hjj
                refine op_J rfl rfl fun K' hK => ?_
                go_simp
                refine hK _ _ ⟨fun _ => hS, ?_⟩
                clear hK K'
                refine ready_J (rs := [10]) (by kernel_rfl) (by simp) ?_
                intro jj hjj
                obtain rfl := List.mem_singleton.1 hjj
                clear hjj
                refine op_J rfl rfl fun K' hK => ?_
                go_simp
                refine hK _ _ ⟨fun _ => hS, ?_⟩
                clear hK K'
                refine done_J (by kernel_rfl) ?_ _
                refine NoPanic.normal ?_
                have hbf : Below w.heap.size w v4 := HWV.out.trans (HV4.out.mono HWV.out.size)
                have hfm : FM v4 (.slice p4 (nl + 1) c4) (l ++ [(X.n, Y)]) := FM.row hr4 (by rw [List.length_append, HNL.out]; rfl) (fun x hx => Nat.lt_of_lt_of_le hx hbf.size)
                have HFM := hide hfm; have HBF := hide hbf
                clear hfm hbf hS hr4
                go_wp2_with fail
                exact bodyPost_ret (v := .tuple #[.slice p4 (nl + 1) c4, .bool true]) (by simp only [results, Tryd.results46]; go_simp) rfl ⟨HBF.out, _, .inr ⟨rfl, _, HONE.out, HFM.out⟩⟩
            · refine op_J rfl rfl fun K' hK => ?_
              go_simp
              have hF : FL (fun x => x < w.heap.size) v0.heap.size (X.n, Y) (v0.alloc (.cells #[.int .i64 X.n, .string (S Y.nm), .int .i64 Y.n, .slice py Y.ar.length cy] 34)) := FL.new v0 (X.n, Y) HKB.out (TyIn.keep (KP.of_below HV0.out fun x hx => Nat.lt_of_lt_of_le hx HWV.out.size) (fun x hx => hx) _ _ (HIY.out v0 HWV.out)) (fun x hx => Nat.lt_of_lt_of_le hx (Nat.le_trans HWV.out.size HV0.out.size))
              have HV1 : Hid (Below v0.heap.size v0 (v0.alloc (.cells #[.int .i64 X.n, .string (S Y.nm), .int .i64 Y.n, .slice py Y.ar.length cy] 34))) := hide (HV0.out.alloc HV0.out.size _)
              have hlt1 : v0.heap.size < (v0.alloc (.cells #[.int .i64 X.n, .string (S Y.nm), .int .i64 Y.n, .slice py Y.ar.length cy] 34)).heap.size := by simp
              have hS2 := HSF.out (v0.alloc (.cells #[.int .i64 X.n, .string (S Y.nm), .int .i64 Y.n, .slice py Y.ar.length cy] 34)) HV1.out
              clear hS
              have hS := hS2
              clear hS2
              refine hK _ _ ⟨fun _ => hS, ?_⟩
              clear hK K'
              generalize (v0.alloc (.cells #[.int .i64 X.n, .string (S Y.nm), .int .i64 Y.n, .slice py Y.ar.length cy] 34)) = v1 at *
              refine ready_J (rs := [0]) (by kernel_rfl) (by simp) ?_
              intro jj hjj
              obtain rfl := List.mem_singleton.1 hjj
              clear hjj
              refine op_J rfl rfl fun K' hK => ?_
              go_simp
              have hr : RowO (fun x => x < w.heap.size) v0.heap.size (v1.alloc (.cells #[] 34)) (.slice (some ⟨v1.heap.size, 0, none⟩) 0 0) [] := RowO.new (fun x => x < w.heap.size) v0.heap.size v1 HV1.out.size
              have HV2 : Hid (Below v0.heap.size v0 (v1.alloc (.cells #[] 34))) := hide (HV1.out.alloc HV1.out.size _)
              have hlt2 : v1.heap.size < (v1.alloc (.cells #[] 34)).heap.size := by simp
              have hF2 := hF.alloc (fun x hx => Nat.lt_of_lt_of_le hx (Nat.le_trans HWV.out.size HV1.out.size)) (.cells #[] 34)
              clear hF
              have hF := hF2
              clear hF2
              have hS2 := HSF.out (v1.alloc (.cells #[] 34)) HV2.out
              clear hS
              have hS := hS2
              clear hS2
              refine hK _ _ ⟨fun _ => hS, ?_⟩
              clear hK K'
              generalize (v1.alloc (.cells #[] 34)) = v2 at *
              refine ready_J (rs := [2]) (by kernel_rfl) (by simp) ?_
              intro jj hjj
              obtain rfl := List.mem_singleton.1 hjj
              clear hjj
              refine op_J rfl rfl fun K' hK => ?_
              refine wp_spreadF (P := (fun x => x < w.heap.size)) (Q := (fun x => x < w.heap.size)) _ _ rfl (base := v0.heap.size) (lo := []) (n := 0) (m := nl) rfl rfl hr (l := l) rfl HNL.out (HLW.out v2 (HWV.out.trans (HV2.out.mono HWV.out.size))) hslc (by omega) HV2.out.size (fun x hx => Nat.lt_of_lt_of_le hx HWV.out.size) ?_
              intro p2 c2 v3 hr2 hbel hgrow
              rw [List.nil_append, Nat.zero_add] at hr2
              rw [Nat.zero_add]
              have HV3 : Hid (Below v0.heap.size v0 v3) := hide (HV2.out.trans hbel)
              clear hr
              have hr := hr2
              clear hr2
              have hF2 := hF.grown (fun x hx => Nat.lt_of_lt_of_le hx HWV.out.size) hbel hgrow (by simp [Value.ownBlock]; omega)
              clear hF
              have hF := hF2
              clear hF2
              clear hbel hgrow
              have hS2 := HSF.out v3 HV3.out
              clear hS
              have hS := hS2
              clear hS2
              refine hK _ _ ⟨fun _ => hS, ?_⟩
              clear hK K'
              refine ready_J (rs := [8]) (by kernel_rfl) (by simp) ?_
              intro jj hjj
              obtain rfl := List.mem_singleton.1 hjj
              clear hjj
              refine op_J rfl rfl fun K' hK => ?_
              refine wp_spreadF (P := (fun x => x < w.heap.size)) (Q := fun x => x = v0.heap.size) _ _ rfl (base := v0.heap.size) (lo := l) (n := nl) (m := 1) rfl HNL.out hr (l := [(X.n, Y)]) rfl rfl hF.2 (fun h => by cases h) (by omega) HV3.out.size (fun x hx => Nat.lt_of_lt_of_le hx HWV.out.size) ?_
              intro p4 c4 v4 hr4 hbel _
              have HV4 : Hid (Below v0.heap.size v0 v4) := hide (HV3.out.trans hbel)
              clear hbel hr hF
              have hS2 := HSF.out v4 HV4.out
              clear hS
              have hS := hS2
              clear hS2
              refine hK _ _ ⟨fun _ => hS, ?_⟩
              clear hK K'
              refine ready_J (rs := [9]) (by kernel_rfl) (by simp) ?_
              intro jj hjj
              obtain rfl := List.mem_singleton.1 hjj
              clear hjj
              refine op_J rfl rfl fun K' hK => ?_
              go_simp
              refine hK _ _ ⟨fun _ => hS, ?_⟩
              clear hK K'
              refine ready_J (rs := [10]) (by kernel_rfl) (by simp) ?_
              intro jj hjj
              obtain rfl := List.mem_singleton.1 hjj
              clear hjj
              refine op_J rfl rfl fun K' hK => ?_
              go_simp
              refine hK _ _ ⟨fun _ => hS, ?_⟩
              clear hK K'
              refine done_J (by kernel_rfl) ?_ _
              refine NoPanic.normal ?_
              have hbf : Below w.heap.size w v4 := HWV.out.trans (HV4.out.mono HWV.out.size)
              have hfm : FM v4 (.slice p4 (nl + 1) c4) (l ++ [(X.n, Y)]) := FM.row hr4 (by rw [List.length_append, HNL.out]; rfl) (fun x hx => Nat.lt_of_lt_of_le hx hbf.size)
              have HFM := hide hfm; have HBF := hide hbf
              clear hfm hbf hS hr4
              go_wp2_with fail
              exact bodyPost_ret (v := .tuple #[.slice p4 (nl + 1) c4, .bool true]) (by simp only [results, Tryd.results46]; go_simp) rfl ⟨HBF.out, _, .inr ⟨rfl, _, HONE.out, HFM.out⟩⟩
      | false =>
        rw [hX] at HHX
        have hhx := Bx.at HX8.out 1 rfl
        dsimp only at hhx
        have x0 := hhx.cell 0; have x1 := hhx.cell 1; have x2 := hhx.cell 2
        simp only [List.getElem?_toArray, List.getElem?_cons_succ, List.getElem?_cons_zero] at x0 x1 x2
        clear hhx
        have hhy := Bx.at HX8.out 0 rfl
        dsimp only at hhy
        have y0 := hhy.cell 0; have y1 := hhy.cell 1; have y2 := hhy.cell 2
        simp only [List.getElem?_toArray, List.getElem?_cons_succ, List.getElem?_cons_zero] at y0 y1 y2
        clear hhy
        go_wp2_with fail
        refine (HHX.out w8).mono ?_
        rintro r w9 ⟨rfl, hb⟩
        have HX9 := hide (HX8.out.below hb); have HB9 := hide (HB8.out.trans (hb.mono HB8.out.size))
        clear hb
        clear x0 x1 x2 y0 y1 y2
        have hhx := Bx.at HX9.out 1 rfl
        dsimp only at hhx
        have x0 := hhx.cell 0; have x1 := hhx.cell 1; have x2 := hhx.cell 2
        simp only [List.getElem?_toArray, List.getElem?_cons_succ, List.getElem?_cons_zero] at x0 x1 x2
        clear hhx
        have hhy := Bx.at HX9.out 0 rfl
        dsimp only at hhy
        have y0 := hhy.cell 0; have y1 := hhy.cell 1; have y2 := hhy.cell 2
        simp only [List.getElem?_toArray, List.getElem?_cons_succ, List.getElem?_cons_zero] at y0 y1 y2
        clear hhy
        cases hY : Y.nm.isEmpty with
        | true =>
          rw [hY] at HHY
          go_wp2_with fail
          refine (HHY.out w9).mono ?_
          rintro r w10 ⟨rfl, hb⟩
          have HX10 := hide (HX9.out.below hb); have HB10 := hide (HB9.out.trans (hb.mono HB9.out.size))
          clear hb
          clear x0 x1 x2 y0 y1 y2
          have hhx := Bx.at HX10.out 1 rfl
          dsimp only at hhx
          have x0 := hhx.cell 0; have x1 := hhx.cell 1; have x2 := hhx.cell 2
          simp only [List.getElem?_toArray, List.getElem?_cons_succ, List.getElem?_cons_zero] at x0 x1 x2
          clear hhx
          have hhy := Bx.at HX10.out 0 rfl
          dsimp only at hhy
          have y0 := hhy.cell 0; have y1 := hhy.cell 1; have y2 := hhy.cell 2
          simp only [List.getElem?_toArray, List.getElem?_cons_succ, List.getElem?_cons_zero] at y0 y1 y2
          clear hhy
          go_wp2_with fail
          refine (HHX.out w10).mono ?_
          rintro r w11 ⟨rfl, hb⟩
          have HX11 := hide (HX10.out.below hb); have HB11 := hide (HB10.out.trans (hb.mono HB10.out.size))
          clear hb
          clear x0 x1 x2 y0 y1 y2
          have hhx := Bx.at HX11.out 1 rfl
          dsimp only at hhx
          have x0 := hhx.cell 0; have x1 := hhx.cell 1; have x2 := hhx.cell 2
          simp only [List.getElem?_toArray, List.getElem?_cons_succ, List.getElem?_cons_zero] at x0 x1 x2
          clear hhx
          have hhy := Bx.at HX11.out 0 rfl
          dsimp only at hhy
          have y0 := hhy.cell 0; have y1 := hhy.cell 1; have y2 := hhy.cell 2
          simp only [List.getElem?_toArray, List.getElem?_cons_succ, List.getElem?_cons_zero] at y0 y1 y2
          clear hhy
          have HUB : Hid (∀ f ∈ l, f.1 ≠ Y.n) := hide HYU.out hY
          have HOR : Hid (X.nm.isEmpty = false ∨ ∃ j, X = hole j ∧ (∀ f ∈ l, f.1 ≠ j) ∧ j < Y.n) := hide (.inl hX)
          have HCASE : Hid ((walkT l e a = hole Y.n ∧ walkT l e b = X) ∨ (walkT l e b = hole Y.n ∧ walkT l e a = X)) := hide (.inr ⟨by rw [HYE.out]; exact HYH2.out hY, HXE.out⟩)
          have HOH : Hid (allT ok1 X = true ∧ ∀ m ∈ hls X, m ∈ H) := hide ⟨HXO.out, HXH2.out⟩
          have H10 := hide (HX11.out (n10, #[.string (S X.nm), .int .i64 X.n, .slice px X.ar.length cx]) (by simp)); have H11 := hide (HX11.out (n11, #[.string (S Y.nm), .int .i64 Y.n, .slice py Y.ar.length cy]) (by simp))
          have q0 := H10.out.frozen 0; have q1 := H10.out.frozen 1; have q2 := H10.out.frozen 2
          have t0 := H11.out.frozen 0; have t1 := H11.out.frozen 1; have t2 := H11.out.frozen 2
          have h10l := H10.out.lt
          have h11l := H11.out.lt
          go_upto_region 10 with fail
          have H10b := hold3 H10.out (.string (S Y.nm)) (.int .i64 Y.n) (.slice py Y.ar.length cy)
          have H11b := ((H11.out.other (show n11 ≠ n10 by omega) 0 (.string (S Y.nm))).other (show n11 ≠ n10 by omega) 1 (.int .i64 Y.n)).other (show n11 ≠ n10 by omega) 2 (.slice py Y.ar.length cy)
          have H11c := hold3 H11b (.string (S X.nm)) (.int .i64 X.n) (.slice px X.ar.length cx)
          have H10c := ((H10b.other (show n10 ≠ n11 by omega) 0 (.string (S X.nm))).other (show n10 ≠ n11 by omega) 1 (.int .i64 X.n)).other (show n10 ≠ n11 by omega) 2 (.slice px X.ar.length cx)
          have hBs : Below w.heap.size w ((((((w11.setCell ⟨n10, 0, none⟩ (.string (S Y.nm))).setCell ⟨n10, 1, none⟩ (.int .i64 Y.n)).setCell ⟨n10, 2, none⟩ (.slice py Y.ar.length cy)).setCell ⟨n11, 0, none⟩ (.string (S X.nm))).setCell ⟨n11, 1, none⟩ (.int .i64 X.n)).setCell ⟨n11, 2, none⟩ (.slice px X.ar.length cx)) := (((((HB11.out.setCell (p := ⟨n10, 0, none⟩) hn10 _).setCell (p := ⟨n10, 1, none⟩) hn10 _).setCell (p := ⟨n10, 2, none⟩) hn10 _).setCell (p := ⟨n11, 0, none⟩) hn11 _).setCell (p := ⟨n11, 1, none⟩) hn11 _).setCell (p := ⟨n11, 2, none⟩) hn11 _
          generalize (((((w11.setCell ⟨n10, 0, none⟩ (.string (S Y.nm))).setCell ⟨n10, 1, none⟩ (.int .i64 Y.n)).setCell ⟨n10, 2, none⟩ (.slice py Y.ar.length cy)).setCell ⟨n11, 0, none⟩ (.string (S X.nm))).setCell ⟨n11, 1, none⟩ (.int .i64 X.n)).setCell ⟨n11, 2, none⟩ (.slice px X.ar.length cx) = wt at *
          have HTK := hide H10c; have HTO := hide H11c; have HBT := hide hBs
          clear H10b H11b H10c H11c hBs q0 q1 q2 t0 t1 t2 h10l h11l
          clear x0 x1 x2 y0 y1 y2
          generalize n10 = nK at *
          generalize n11 = nO at *
          have HKB := hide ((HIY.out w (Below.refl _ _)).bds.2)
          have hwn := rwithin_any h (n := Y.n) HUB.out hHl (by have := HNL.out; omega) (P := fun x => x < w.heap.size) (pl := pl) (cl := cl) X wt px cx (.slice none 0 0) [] wt.heap.size (fun x hx => Nat.lt_of_lt_of_le hx HBT.out.size) (HLW.out wt HBT.out) (HIX.out wt HBT.out) (World.ownsRow_nil _ _ _ _) (Nat.le_refl _) List.nodup_nil (by simp) (fun m hm => by cases hm) HOH.out.2 HOH.out.1
          rw [HNL.out] at hwn
          have HWN := hide hwn
          clear hwn
          unfold cs3 at HWN
          have k0 := HTK.out.cell 0; have k1 := HTK.out.cell 1; have k2 := HTK.out.cell 2
          simp only [List.getElem?_toArray, List.getElem?_cons_succ, List.getElem?_cons_zero] at k0 k1 k2
          have o0 := HTO.out.cell 0; have o1 := HTO.out.cell 1; have o2 := HTO.out.cell 2
          simp only [List.getElem?_toArray, List.getElem?_cons_succ, List.getElem?_cons_zero] at o0 o1 o2
          go_wp2_with fail
          refine HWN.out.mono ?_
          rintro r wn ⟨hb, vn, hor⟩
          have HBN := hide (HBT.out.trans (hb.mono HBT.out.size))
          have HTK2 := hide (HTK.out.below hb HTK.out.lt)
          have HTO2 := hide (HTO.out.below hb HTO.out.lt)
          clear hb
          rcases hor with ⟨hfd, rfl⟩ | ⟨hfd, rfl, _⟩
          · have HNONE : Hid (OneN l a b) := hide (one_occurs h HCASE.out HOR.out hfd)
            clear hfd
            go_wp2_with fail
            exact bodyPost_ret (v := .tuple #[.slice pl nl cl, .bool false]) (by simp only [results, Tryd.results46]; go_simp) rfl ⟨HBN.out, _, .inl ⟨rfl, HNONE.out⟩⟩
          · have HONE : Hid (OneT H l a b (l ++ [(Y.n, X)])) := hide (one_bind h haH hbH hao hbo HCASE.out HUB.out hfd HOR.out)
            clear hfd k0 k1 k2 o0 o1 o2
            go_upto_region 13 with fail
            refine wp_region_noPanic ?_
            refine region_J 11 (N := 11) (S := (fun W' : World => W'.cell? ⟨nK, 1, none⟩ = some (.int .i64 Y.n) ∧ W'.cell? ⟨nO, 0, none⟩ = some (.string (S X.nm)) ∧ W'.cell? ⟨nO, 1, none⟩ = some (.int .i64 X.n) ∧ W'.cell? ⟨nO, 2, none⟩ = some (.slice px X.ar.length cx))) (by kernel_rfl) (by kernel_rfl) ?_
            have HSF0 : Hid (∀ W, Below wn.heap.size wn W → (fun W' : World => W'.cell? ⟨nK, 1, none⟩ = some (.int .i64 Y.n) ∧ W'.cell? ⟨nO, 0, none⟩ = some (.string (S X.nm)) ∧ W'.cell? ⟨nO, 1, none⟩ = some (.int .i64 X.n) ∧ W'.cell? ⟨nO, 2, none⟩ = some (.slice px X.ar.length cx)) W) := hide fun W hW => ⟨(HTK2.out.below hW HTK2.out.lt).cell 1, (HTO2.out.below hW HTO2.out.lt).cell 0, (HTO2.out.below hW HTO2.out.lt).cell 1, (HTO2.out.below hW HTO2.out.lt).cell 2⟩
            have HWV : Hid (Below w.heap.size w wn.drew) := hide (HBN.out.trans ((below_drew wn).mono HBN.out.size))
            have HSF : Hid (∀ W, Below wn.drew.heap.size wn.drew W → (fun W' : World => W'.cell? ⟨nK, 1, none⟩ = some (.int .i64 Y.n) ∧ W'.cell? ⟨nO, 0, none⟩ = some (.string (S X.nm)) ∧ W'.cell? ⟨nO, 1, none⟩ = some (.int .i64 X.n) ∧ W'.cell? ⟨nO, 2, none⟩ = some (.slice px X.ar.length cx)) W) := hide fun W hW => HSF0.out W ((below_drew wn).trans hW)
            have hS : (fun W' : World => W'.cell? ⟨nK, 1, none⟩ = some (.int .i64 Y.n) ∧ W'.cell? ⟨nO, 0, none⟩ = some (.string (S X.nm)) ∧ W'.cell? ⟨nO, 1, none⟩ = some (.int .i64 X.n) ∧ W'.cell? ⟨nO, 2, none⟩ = some (.slice px X.ar.length cx)) wn.drew := HSF.out wn.drew (Below.refl _ _)
            generalize wn.drew = v0 at *
            have HV0 : Hid (Below v0.heap.size v0 v0) := hide (Below.refl _ _)
            refine take_D (i := 1) 76 (.slice pl nl cl) rfl rfl (by kernel_rfl) (by kernel_rfl) (by kernel_rfl) (by kernel_rfl) (fun _ _ _ h => h) (Or.inl ⟨by rfl, fun W' hW => by obtain ⟨s0, s1, s2, s3⟩ := hW; go_simp⟩) hS ?_
            simp only [Act.put, List.setIfInBounds_toArray, List.set_cons_zero, List.set_cons_succ]
            refine take_D (i := 3) 78 (.pointer (some ⟨nK, 1, none⟩)) rfl rfl (by kernel_rfl) (by kernel_rfl) (by kernel_rfl) (by kernel_rfl) (fun _ _ _ h => h) (Or.inl ⟨by rfl, fun W' hW => by obtain ⟨s0, s1, s2, s3⟩ := hW; go_simp⟩) hS ?_
            simp only [Act.put, List.setIfInBounds_toArray, List.set_cons_zero, List.set_cons_succ]
            refine take_D (i := 4) 79 (.int .i64 Y.n) rfl rfl (by kernel_rfl) (by kernel_rfl) (by kernel_rfl) (by kernel_rfl) (fun _ _ _ h => h) (Or.inl ⟨by rfl, fun W' hW => by obtain ⟨s0, s1, s2, s3⟩ := hW; go_simp⟩) hS ?_
            simp only [Act.put, List.setIfInBounds_toArray, List.set_cons_zero, List.set_cons_succ]
            refine take_D (i := 5) 80 (.agg #[.string (S X.nm), .int .i64 X.n, .slice px X.ar.length cx]) rfl rfl (by kernel_rfl) (by kernel_rfl) (by kernel_rfl) (by kernel_rfl) (fun _ _ _ h => h) (Or.inl ⟨by rfl, fun W' hW => by obtain ⟨s0, s1, s2, s3⟩ := hW; go_simp⟩) hS ?_
            simp only [Act.put, List.setIfInBounds_toArray, List.set_cons_zero, List.set_cons_succ]
            refine take_D (i := 6) 81 (.agg #[.int .i64 Y.n, .string (S X.nm), .int .i64 X.n, .slice px X.ar.length cx]) rfl rfl (by kernel_rfl) (by kernel_rfl) (by kernel_rfl) (by kernel_rfl) (fun _ _ _ h => h) (Or.inl ⟨by rfl, fun W' hW => by obtain ⟨s0, s1, s2, s3⟩ := hW; go_simp⟩) hS ?_
            simp only [Act.put, List.setIfInBounds_toArray, List.set_cons_zero, List.set_cons_succ]
            refine ready_J (rs := [0, 7]) (by kernel_rfl) (by simp) ?_
            intro jj hjj
            have hj2 : jj = 0 ∨ jj = 7 := by simpa using hjj
            clear hjj
            rcases hj2 with rfl | rfl
            · refine op_J rfl rfl fun K' hK => ?_
              go_simp
              have hr : RowO (fun x => x < w.heap.size) v0.heap.size (v0.alloc (.cells #[] 34)) (.slice (some ⟨v0.heap.size, 0, none⟩) 0 0) [] := RowO.new (fun x => x < w.heap.size) v0.heap.size v0 HV0.out.size
              have HV1 : Hid (Below v0.heap.size v0 (v0.alloc (.cells #[] 34))) := hide (HV0.out.alloc HV0.out.size _)
              have hlt1 : v0.heap.size < (v0.alloc (.cells #[] 34)).heap.size := by simp
              have hS2 := HSF.out (v0.alloc (.cells #[] 34)) HV1.out
              clear hS
              have hS := hS2
              clear hS2
              refine hK _ _ ⟨fun _ => hS, ?_⟩
              clear hK K'
              generalize (v0.alloc (.cells #[] 34)) = v1 at *
              refine ready_J (rs := [2, 7]) (by kernel_rfl) (by simp) ?_
              intro jj hjj
              have hj2 : jj = 2 ∨ jj = 7 := by simpa using hjj
              clear hjj
              rcases hj2 with rfl | rfl
              · refine op_J rfl rfl fun K' hK => ?_
                refine wp_spreadF (P := (fun x => x < w.heap.size)) (Q := (fun x => x < w.heap.size)) _ _ rfl (base := v0.heap.size) (lo := []) (n := 0) (m := nl) rfl rfl hr (l := l) rfl HNL.out (HLW.out v1 (HWV.out.trans (HV1.out.mono HWV.out.size))) hslc (by omega) HV1.out.size (fun x hx => Nat.lt_of_lt_of_le hx HWV.out.size) ?_
                intro p2 c2 v2 hr2 hbel hgrow
                rw [List.nil_append, Nat.zero_add] at hr2
                rw [Nat.zero_add]
                have HV2 : Hid (Below v0.heap.size v0 v2) := hide (HV1.out.trans hbel)
                clear hr
                have hr := hr2
                clear hr2
                clear hbel hgrow
                have hS2 := HSF.out v2 HV2.out
                clear hS
                have hS := hS2
                clear hS2
                refine hK _ _ ⟨fun _ => hS, ?_⟩
                clear hK K'
                refine ready_J (rs := [7]) (by kernel_rfl) (by simp) ?_
                intro jj hjj
                obtain rfl := List.mem_singleton.1 hjj
                clear hjj
                refine op_J rfl rfl fun K' hK => ?_
                go_simp
                have hF : FL (fun x => x < w.heap.size) v2.heap.size (Y.n, X) (v2.alloc (.cells #[.int .i64 Y.n, .string (S X.nm), .int .i64 X.n, .slice px X.ar.length cx] 34)) := FL.new v2 (Y.n, X) HKB.out (TyIn.keep (KP.of_below HV2.out fun x hx => Nat.lt_of_lt_of_le hx HWV.out.size) (fun x hx => hx) _ _ (HIX.out v0 HWV.out)) (fun x hx => Nat.lt_of_lt_of_le hx (Nat.le_trans HWV.out.size HV2.out.size))
                have HV3 : Hid (Below v0.heap.size v0 (v2.alloc (.cells #[.int .i64 Y.n, .string (S X.nm), .int .i64 X.n, .slice px X.ar.length cx] 34))) := hide (HV2.out.alloc HV2.out.size _)
                have hlt3 : v2.heap.size < (v2.alloc (.cells #[.int .i64 Y.n, .string (S X.nm), .int .i64 X.n, .slice px X.ar.length cx] 34)).heap.size := by simp
                have hr2 := hr.keep (fun x hx => Nat.lt_of_lt_of_le hx (Nat.le_trans HWV.out.size HV2.out.size)) ((Below.refl _ v2).alloc (Nat.le_refl _) (.cells #[.int .i64 Y.n, .string (S X.nm), .int .i64 X.n, .slice px X.ar.length cx] 34))
                clear hr
                have hr := hr2
                clear hr2
                have hS2 := HSF.out (v2.alloc (.cells #[.int .i64 Y.n, .string (S X.nm), .int .i64 X.n, .slice px X.ar.length cx] 34)) HV3.out
                clear hS
                have hS := hS2
                clear hS2
                refine hK _ _ ⟨fun _ => hS, ?_⟩
                clear hK K'
                generalize (v2.alloc (.cells #[.int .i64 Y.n, .string (S X.nm), .int .i64 X.n, .slice px X.ar.length cx] 34)) = v3 at *
                refine ready_J (rs := [8]) (by kernel_rfl) (by simp) ?_
                intro jj hjj
                obtain rfl := List.mem_singleton.1 hjj
                clear hjj
                refine op_J rfl rfl fun K' hK => ?_
                refine wp_spreadF (P := (fun x => x < w.heap.size)) (Q := fun x => x = v2.heap.size) _ _ rfl (base := v0.heap.size) (lo := l) (n := nl) (m := 1) rfl HNL.out hr (l := [(Y.n, X)]) rfl rfl hF.2 (fun h => by cases h) (by omega) HV3.out.size (fun x hx => Nat.lt_of_lt_of_le hx HWV.out.size) ?_
                intro p4 c4 v4 hr4 hbel _
                have HV4 : Hid (Below v0.heap.size v0 v4) := hide (HV3.out.trans hbel)
                clear hbel hr hF
                have hS2 := HSF.out v4 HV4.out
                clear hS
                have hS := hS2
                clear hS2
                refine hK _ _ ⟨fun _ => hS, ?_⟩
                clear hK K'
                refine ready_J (rs := [9]) (by kernel_rfl) (by simp) ?_
                intro jj hjj
                obtain rfl := List.mem_singleton.1 hjj
                clear hjj
                refine op_J rfl rfl fun K' hK => ?_
                go_simp
                refine hK _ _ ⟨fun _ => hS, ?_⟩
                clear hK K'
                refine ready_J (rs := [10]) (by kernel_rfl) (by simp) ?_
                intro jj hjj
                obtain rfl := List.mem_singleton.1 hjj
                clear hjj
                refine op_J rfl rfl fun K' hK => ?_
                go_simp
                refine hK _ _ ⟨fun _ => hS, ?_⟩
                clear hK K'
                refine done_J (by kernel_rfl) ?_ _
                refine NoPanic.normal ?_
                have hbf : Below w.heap.size w v4 := HWV.out.trans (HV4.out.mono HWV.out.size)
                have hfm : FM v4 (.slice p4 (nl + 1) c4) (l ++ [(Y.n, X)]) := FM.row hr4 (by rw [List.length_append, HNL.out]; rfl) (fun x hx => Nat.lt_of_lt_of_le hx hbf.size)
                have HFM := hide hfm; have HBF := hide hbf
                clear hfm hbf hS hr4
                go_wp2_with fail
                exact bodyPost_ret (v := .tuple #[.slice p4 (nl + 1) c4, .bool true]) (by simp only [results, Tryd.results46]; go_simp) rfl ⟨HBF.out, _, .inr ⟨rfl, _, HONE.out, HFM.out⟩⟩
              · refine op_J rfl rfl fun K' hK => ?_
                go_simp
                have hF : FL (fun x => x < w.heap.size) v1.heap.size (Y.n, X) (v1.alloc (.cells #[.int .i64 Y.n, .string (S X.nm), .int .i64 X.n, .slice px X.ar.length cx] 34)) := FL.new v1 (Y.n, X) HKB.out (TyIn.keep (KP.of_below HV1.out fun x hx => Nat.lt_of_lt_of_le hx HWV.out.size) (fun x hx => hx) _ _ (HIX.out v0 HWV.out)) (fun x hx => Nat.lt_of_lt_of_le hx (Nat.le_trans HWV.out.size HV1.out.size))
                have HV2 : Hid (Below v0.heap.size v0 (v1.alloc (.cells #[.int .i64 Y.n, .string (S X.nm), .int .i64 X.n, .slice px X.ar.length cx] 34))) := hide (HV1.out.alloc HV1.out.size _)
                have hlt2 : v1.heap.size < (v1.alloc (.cells #[.int .i64 Y.n, .string (S X.nm), .int .i64 X.n, .slice px X.ar.length cx] 34)).heap.size := by simp
                have hr2 := hr.keep (fun x hx => Nat.lt_of_lt_of_le hx (Nat.le_trans HWV.out.size HV1.out.size)) ((Below.refl _ v1).alloc (Nat.le_refl _) (.cells #[.int .i64 Y.n, .string (S X.nm), .int .i64 X.n, .slice px X.ar.length cx] 34))
                clear hr
                have hr := hr2
                clear hr2
                have hS2 := HSF.out (v1.alloc (.cells #[.int .i64 Y.n, .string (S X.nm), .int .i64 X.n, .slice px X.ar.length cx] 34)) HV2.out
                clear hS
                have hS := hS2
                clear hS2
                refine hK _ _ ⟨fun _ => hS, ?_⟩
                clear hK K'
                generalize (v1.alloc (.cells #[.int .i64 Y.n, .string (S X.nm), .int .i64 X.n, .slice px X.ar.length cx] 34)) = v2 at *
                refine ready_J (rs := [2]) (by kernel_rfl) (by simp) ?_
                intro jj hjj
                obtain rfl := List.mem_singleton.1 hjj
                clear hjj
                refine op_J rfl rfl fun K' hK => ?_
                refine wp_spreadF (P := (fun x => x < w.heap.size)) (Q := (fun x => x < w.heap.size)) _ _ rfl (base := v0.heap.size) (lo := []) (n := 0) (m := nl) rfl rfl hr (l := l) rfl HNL.out (HLW.out v2 (HWV.out.trans (HV2.out.mono HWV.out.size))) hslc (by omega) HV2.out.size (fun x hx => Nat.lt_of_lt_of_le hx HWV.out.size) ?_
                intro p2 c2 v3 hr2 hbel hgrow
                rw [List.nil_append, Nat.zero_add] at hr2
                rw [Nat.zero_add]
                have HV3 : Hid (Below v0.heap.size v0 v3) := hide (HV2.out.trans hbel)
                clear hr
                have hr := hr2
                clear hr2
                have hF2 := hF.grown (fun x hx => Nat.lt_of_lt_of_le hx HWV.out.size) hbel hgrow (by simp [Value.ownBlock]; omega)
                clear hF
                have hF := hF2
                clear hF2
                clear hbel hgrow
                have hS2 := HSF.out v3 HV3.out
                clear hS
                have hS := hS2
                clear hS2
                refine hK _ _ ⟨fun _ => hS, ?_⟩
                clear hK K'
                refine ready_J (rs := [8]) (by kernel_rfl) (by simp) ?_
                intro jj hjj
                obtain rfl := List.mem_singleton.1 hjj
                clear hjj
                refine op_J rfl rfl fun K' hK => ?_
                refine wp_spreadF (P := (fun x => x < w.heap.size)) (Q := fun x => x = v1.heap.size) _ _ rfl (base := v0.heap.size) (lo := l) (n := nl) (m := 1) rfl HNL.out hr (l := [(Y.n, X)]) rfl rfl hF.2 (fun h => by cases h) (by omega) HV3.out.size (fun x hx => Nat.lt_of_lt_of_le hx HWV.out.size) ?_
                intro p4 c4 v4 hr4 hbel _
                have HV4 : Hid (Below v0.heap.size v0 v4) := hide (HV3.out.trans hbel)
                clear hbel hr hF
                have hS2 := HSF.out v4 HV4.out
                clear hS
                have hS := hS2
                clear hS2
                refine hK _ _ ⟨fun _ => hS, ?_⟩
                clear hK K'
                refine ready_J (rs := [9]) (by kernel_rfl) (by simp) ?_
                intro jj hjj
                obtain rfl := List.mem_singleton.1 hjj
                clear hjj
                refine op_J rfl rfl fun K' hK => ?_
                go_simp
                refine hK _ _ ⟨fun _ => hS, ?_⟩
                clear hK K'
                refine ready_J (rs := [10]) (by kernel_rfl) (by simp) ?_
                intro jj hjj
                obtain rfl := List.mem_singleton.1 hjj
                clear hjj
                refine op_J rfl rfl fun K' hK => ?_
                go_simp
                refine hK _ _ ⟨fun _ => hS, ?_⟩
                clear hK K'
                refine done_J (by kernel_rfl) ?_ _
                refine NoPanic.normal ?_
                have hbf : Below w.heap.size w v4 := HWV.out.trans (HV4.out.mono HWV.out.size)
                have hfm : FM v4 (.slice p4 (nl + 1) c4) (l ++ [(Y.n, X)]) := FM.row hr4 (by rw [List.length_append, HNL.out]; rfl) (fun x hx => Nat.lt_of_lt_of_le hx hbf.size)
                have HFM := hide hfm; have HBF := hide hbf
                clear hfm hbf hS hr4
                go_wp2_with fail
                exact bodyPost_ret (v := .tuple #[.slice p4 (nl + 1) c4, .bool true]) (by simp only [results, Tryd.results46]; go_simp) rfl ⟨HBF.out, _, .inr ⟨rfl, _, HONE.out, HFM.out⟩⟩
            · refine op_J rfl rfl fun K' hK => ?_
              go_simp
              have hF : FL (fun x => x < w.heap.size) v0.heap.size (Y.n, X) (v0.alloc (.cells #[.int .i64 Y.n, .string (S X.nm), .int .i64 X.n, .slice px X.ar.length cx] 34)) := FL.new v0 (Y.n, X) HKB.out (TyIn.keep (KP.of_below HV0.out fun x hx => Nat.lt_of_lt_of_le hx HWV.out.size) (fun x hx => hx) _ _ (HIX.out v0 HWV.out)) (fun x hx => Nat.lt_of_lt_of_le hx (Nat.le_trans HWV.out.size HV0.out.size))
              have HV1 : Hid (Below v0.heap.size v0 (v0.alloc (.cells #[.int .i64 Y.n, .string (S X.nm), .int .i64 X.n, .slice px X.ar.length cx] 34))) := hide (HV0.out.alloc HV0.out.size _)
              have hlt1 : v0.heap.size < (v0.alloc (.cells #[.int .i64 Y.n, .string (S X.nm), .int .i64 X.n, .slice px X.ar.length cx] 34)).heap.size := by simp
              have hS2 := HSF.out (v0.alloc (.cells #[.int .i64 Y.n, .string (S X.nm), .int .i64 X.n, .slice px X.ar.length cx] 34)) HV1.out
              clear hS
              have hS := hS2
              clear hS2
              refine hK _ _ ⟨fun _ => hS, ?_⟩
              clear hK K'
              generalize (v0.alloc (.cells #[.int .i64 Y.n, .string (S X.nm), .int .i64 X.n, .slice px X.ar.length cx] 34)) = v1 at *
              refine ready_J (rs := [0]) (by kernel_rfl) (by simp) ?_
              intro jj hjj
              obtain rfl := List.mem_singleton.1 hjj
              clear hjj
              refine op_J rfl rfl fun K' hK => ?_
              go_simp
              have hr : RowO (fun x => x < w.heap.size) v0.heap.size (v1.alloc (.cells #[] 34)) (.slice (some ⟨v1.heap.size, 0, none⟩) 0 0) [] := RowO.new (fun x => x < w.heap.size) v0.heap.size v1 HV1.out.size
              have HV2 : Hid (Below v0.heap.size v0 (v1.alloc (.cells #[] 34))) := hide (HV1.out.alloc HV1.out.size _)
              have hlt2 : v1.heap.size < (v1.alloc (.cells #[] 34)).heap.size := by simp
              have hF2 := hF.alloc (fun x hx => Nat.lt_of_lt_of_le hx (Nat.le_trans HWV.out.size HV1.out.size)) (.cells #[] 34)
              clear hF
              have hF := hF2
              clear hF2
              have hS2 := HSF.out (v1.alloc (.cells #[] 34)) HV2.out
              clear hS
              have hS := hS2
              clear hS2
              refine hK _ _ ⟨fun _ => hS, ?_⟩
              clear hK K'
              generalize (v1.alloc (.cells #[] 34)) = v2 at *
              refine ready_J (rs := [2]) (by kernel_rfl) (by simp) ?_
              intro jj hjj
              obtain rfl := List.mem_singleton.1 hjj
              clear hjj
              refine op_J rfl rfl fun K' hK => ?_
              refine wp_spreadF (P := (fun x => x < w.heap.size)) (Q := (fun x => x < w.heap.size)) _ _ rfl (base := v0.heap.size) (lo := []) (n := 0) (m := nl) rfl rfl hr (l := l) rfl HNL.out (HLW.out v2 (HWV.out.trans (HV2.out.mono HWV.out.size))) hslc (by omega) HV2.out.size (fun x hx => Nat.lt_of_lt_of_le hx HWV.out.size) ?_
              intro p2 c2 v3 hr2 hbel hgrow
              rw [List.nil_append, Nat.zero_add] at hr2
              rw [Nat.zero_add]
              have HV3 : Hid (Below v0.heap.size v0 v3) := hide (HV2.out.trans hbel)
              clear hr
              have hr := hr2
              clear hr2
              have hF2 := hF.grown (fun x hx => Nat.lt_of_lt_of_le hx HWV.out.size) hbel hgrow (by simp [Value.ownBlock]; omega)
              clear hF
              have hF := hF2
              clear hF2
              clear hbel hgrow
              have hS2 := HSF.out v3 HV3.out
              clear hS
              have hS := hS2
              clear hS2
              refine hK _ _ ⟨fun _ => hS, ?_⟩
              clear hK K'
              refine ready_J (rs := [8]) (by kernel_rfl) (by simp) ?_
              intro jj hjj
              obtain rfl := List.mem_singleton.1 hjj
              clear hjj
              refine op_J rfl rfl fun K' hK => ?_
              refine wp_spreadF (P := (fun x => x < w.heap.size)) (Q := fun x => x = v0.heap.size) _ _ rfl (base := v0.heap.size) (lo := l) (n := nl) (m := 1) rfl HNL.out hr (l := [(Y.n, X)]) rfl rfl hF.2 (fun h => by cases h) (by omega) HV3.out.size (fun x hx => Nat.lt_of_lt_of_le hx HWV.out.size) ?_
              intro p4 c4 v4 hr4 hbel _
              have HV4 : Hid (Below v0.heap.size v0 v4) := hide (HV3.out.trans hbel)
              clear hbel hr hF
              have hS2 := HSF.out v4 HV4.out
              clear hS
              have hS := hS2
              clear hS2
              refine hK _ _ ⟨fun _ => hS, ?_⟩
              clear hK K'
              refine ready_J (rs := [9]) (by kernel_rfl) (by simp) ?_
              intro jj hjj
              obtain rfl := List.mem_singleton.1 hjj
              clear hjj
              refine op_J rfl rfl fun K' hK => ?_
              go_simp
              refine hK _ _ ⟨fun _ => hS, ?_⟩
              clear hK K'
              refine ready_J (rs := [10]) (by kernel_rfl) (by simp) ?_
              intro jj hjj
              obtain rfl := List.mem_singleton.1 hjj
              clear hjj
              refine op_J rfl rfl fun K' hK => ?_
              go_simp
              refine hK _ _ ⟨fun _ => hS, ?_⟩
              clear hK K'
              refine done_J (by kernel_rfl) ?_ _
              refine NoPanic.normal ?_
              have hbf : Below w.heap.size w v4 := HWV.out.trans (HV4.out.mono HWV.out.size)
              have hfm : FM v4 (.slice p4 (nl + 1) c4) (l ++ [(Y.n, X)]) := FM.row hr4 (by rw [List.length_append, HNL.out]; rfl) (fun x hx => Nat.lt_of_lt_of_le hx hbf.size)
              have HFM := hide hfm; have HBF := hide hbf
              clear hfm hbf hS hr4
              go_wp2_with fail
              exact bodyPost_ret (v := .tuple #[.slice p4 (nl + 1) c4, .bool true]) (by simp only [results, Tryd.results46]; go_simp) rfl ⟨HBF.out, _, .inr ⟨rfl, _, HONE.out, HFM.out⟩⟩
        | false =>
          rw [hY] at HHY
          go_wp2_with fail
          refine (HHY.out w9).mono ?_
          rintro r w10 ⟨rfl, hb⟩
          have HX10 := hide (HX9.out.below hb); have HB10 := hide (HB9.out.trans (hb.mono HB9.out.size))
          clear hb
          clear x0 x1 x2 y0 y1 y2
          have hhx := Bx.at HX10.out 1 rfl
          dsimp only at hhx
          have x0 := hhx.cell 0; have x1 := hhx.cell 1; have x2 := hhx.cell 2
          simp only [List.getElem?_toArray, List.getElem?_cons_succ, List.getElem?_cons_zero] at x0 x1 x2
          clear hhx
          have hhy := Bx.at HX10.out 0 rfl
          dsimp only at hhy
          have y0 := hhy.cell 0; have y1 := hhy.cell 1; have y2 := hhy.cell 2
          simp only [List.getElem?_toArray, List.getElem?_cons_succ, List.getElem?_cons_zero] at y0 y1 y2
          clear hhy
          have hX' := hX
          have HK := HB10
          by_cases hnm : X.nm = Y.nm
          · by_cases hln : X.ar.length = Y.ar.length
            · have HNMQ := hide hnm
              have HTX : Hid (∀ W, Below w.heap.size w W → TM (fun x => x < w.heap.size) W px X.ar) := hide fun W hW => tm_of (HIX.out W hW)
              have HTYY : Hid (∀ W, Below w.heap.size w W → TM (fun x => x < w.heap.size) W py Y.ar) := hide fun W hW => tm_of (HIY.out W hW)
              have hnxb := (HIX.out w (Below.refl _ _)).len
              generalize hnx : X.ar.length = nx at *
              have HNX := hide hnx
              have hny : Y.ar.length = nx := hln.symm
              have HLNQ : Hid (X.ar.length = Y.ar.length) := hide (hnx.trans hny.symm)
              rw [hny] at HX10 y2
              rw [← hnm] at y0
              clear hnm hln hnx
              have hk2 : ((nx : Int) != (nx : Int)) = false := by simp
              rw [hny]
              have HNY := hide hny
              clear hny
              go_wp2_with fail
              go_loopg [0, 14, 15, 16, 106] nx (fun k s0 s14 s15 s16 s106 wr => ∃ (i : Nat) (li : List (Int × Ty)) (pi : Option Addr) (ci : Nat), i ≤ nx ∧ k = nx - i ∧ s14 = .int .i64 i ∧ s0 = .slice pi li.length ci ∧ FM wr (.slice pi li.length ci) li ∧ LoopT H l X Y i li ∧ Below w10.heap.size w10 wr)
              case atStart => exact ⟨0, l, pl, cl, Nat.zero_le _, by omega, rfl, by rw [HNL.out], by have h9 := HFM0.out.below HB10.out; rw [← HNL.out] at h9; exact h9, loop_start h X Y, Below.refl _ _⟩
              case round =>
                obtain ⟨i, li, pi, ci, hi1, rfl, rfl, rfl, hfm, hlt', hbr⟩ := hrel
                have HFM := hide hfm; have HLT := hide hlt'; have HBR := hide hbr
                have HBW := hide (HB10.out.trans (hbr.mono HB10.out.size))
                have HXr := hide (HX10.out.below hbr)
                clear hfm hlt' hbr x0 x1 x2 y0 y1 y2
                have hhx := Bx.at HXr.out 1 rfl
                dsimp only at hhx
                have x0 := hhx.cell 0; have x1 := hhx.cell 1; have x2 := hhx.cell 2
                simp only [List.getElem?_toArray, List.getElem?_cons_succ, List.getElem?_cons_zero] at x0 x1 x2
                clear hhx
                have hhy := Bx.at HXr.out 0 rfl
                dsimp only at hhy
                have y0 := hhy.cell 0; have y1 := hhy.cell 1; have y2 := hhy.cell 2
                simp only [List.getElem?_toArray, List.getElem?_cons_succ, List.getElem?_cons_zero] at y0 y1 y2
                clear hhy
                by_cases hlt : i < nx
                · have hilx : i < X.ar.length := by rw [HNX.out]; exact hlt
                  have hily : i < Y.ar.length := by rw [HNY.out]; exact hlt
                  obtain ⟨bx, ox, qx, dx, hpx, hPx, hInx, gx0, gx1, gx2⟩ := tm_at (HTX.out w (Below.refl _ _)) hilx
                  obtain ⟨by', oy, qy, dy, hpy, hPy, hIny, gy0, gy1, gy2⟩ := tm_at (HTYY.out w (Below.refl _ _)) hily
                  have HXI0 : X.ar[i]? = some X.ar[i] := List.getElem?_eq_getElem hilx
                  have HYI0 : Y.ar[i]? = some Y.ar[i] := List.getElem?_eq_getElem hily
                  have hmx := List.getElem_mem hilx
                  have hmy := List.getElem_mem hily
                  have hxo := (allT_kid HXO.out).2 _ hmx
                  have hyo := (allT_kid HYO.out).2 _ hmy
                  have hxH : ∀ m ∈ hls X.ar[i], m ∈ H := fun m hm => HXH2.out m (by rw [hls_node _ hX]; exact List.mem_flatMap.2 ⟨_, hmx, hm⟩)
                  have hyH : ∀ m ∈ hls Y.ar[i], m ∈ H := fun m hm => HYH.out m (by rw [hls_node _ hY]; exact List.mem_flatMap.2 ⟨_, hmy, hm⟩)
                  obtain ⟨⟨s', e', p', hIi⟩, _⟩ := HLT.out
                  have hok := HIH.out li X.ar[i] Y.ar[i] ⟨s', e', p', hIi, loop_meas h haH HXE.out HLT.out hIi hX HXI0⟩ hxH hyH hxo hyo
                  subst hpx
                  subst hpy
                  generalize X.ar[i] = x at *
                  generalize Y.ar[i] = y at *
                  have HXI := hide HXI0; have HYI := hide HYI0
                  have hii : (i : Int) < nx := by omega
                  have HSF : Hid (∀ W, Below w10.heap.size w10 W → Below w.heap.size w W → (fun W' : World => W'.cell? ⟨n10, 2, none⟩ = some (.slice (some ⟨bx, ox, none⟩) nx cx) ∧ W'.cell? ⟨n11, 2, none⟩ = some (.slice (some ⟨by', oy, none⟩) nx cy) ∧ W'.cell? ⟨bx, ox + i * 3, none⟩ = some (.string (S x.nm)) ∧ W'.cell? ⟨bx, ox + i * 3 + 1, none⟩ = some (.int .i64 x.n) ∧ W'.cell? ⟨bx, ox + i * 3 + 2, none⟩ = some (.slice qx x.ar.length dx) ∧ W'.cell? ⟨by', oy + i * 3, none⟩ = some (.string (S y.nm)) ∧ W'.cell? ⟨by', oy + i * 3 + 1, none⟩ = some (.int .i64 y.n) ∧ W'.cell? ⟨by', oy + i * 3 + 2, none⟩ = some (.slice qy y.ar.length dy)) W) := hide fun W hW hW2 => ⟨((HX10.out.below hW) (n10, #[.string (S X.nm), .int .i64 X.n, .slice (some ⟨bx, ox, none⟩) nx cx]) (by simp)).cell 2, ((HX10.out.below hW) (n11, #[.string (S Y.nm), .int .i64 Y.n, .slice (some ⟨by', oy, none⟩) nx cy]) (by simp)).cell 2, (hW2.cell (p := ⟨bx, ox + i * 3, none⟩) hPx).trans gx0, (hW2.cell (p := ⟨bx, ox + i * 3 + 1, none⟩) hPx).trans gx1, (hW2.cell (p := ⟨bx, ox + i * 3 + 2, none⟩) hPx).trans gx2, (hW2.cell (p := ⟨by', oy + i * 3, none⟩) hPy).trans gy0, (hW2.cell (p := ⟨by', oy + i * 3 + 1, none⟩) hPy).trans gy1, (hW2.cell (p := ⟨by', oy + i * 3 + 2, none⟩) hPy).trans gy2⟩
                  have HWV : Hid (Below w.heap.size w wr.drew) := hide (HBW.out.trans ((below_drew wr).mono HBW.out.size))
                  have hcall := hok wr.drew (.slice pi li.length ci) qx qy dx dy (HFM.out.below (below_drew wr)) (TyIn.keep (KP.of_below HWV.out fun x hx => hx) (fun x hx => Nat.lt_of_lt_of_le hx HWV.out.size) _ _ hInx) (TyIn.keep (KP.of_below HWV.out fun x hx => hx) (fun x hx => Nat.lt_of_lt_of_le hx HWV.out.size) _ _ hIny)
                  have HC := hide hcall
                  unfold cs3 at HC
                  clear hcall hok hInx hIny gx0 gx1 gx2 gy0 gy1 gy2 HXI0 HYI0 hmx hmy hxo hyo hxH hyH hIi
                  go_upto_region 19 with fail
                  clear x0 x1 x2 y0 y1 y2
                  refine wp_region_noPanic ?_
                  refine region_J 17 (N := 17) (S := (fun W' : World => W'.cell? ⟨n10, 2, none⟩ = some (.slice (some ⟨bx, ox, none⟩) nx cx) ∧ W'.cell? ⟨n11, 2, none⟩ = some (.slice (some ⟨by', oy, none⟩) nx cy) ∧ W'.cell? ⟨bx, ox + i * 3, none⟩ = some (.string (S x.nm)) ∧ W'.cell? ⟨bx, ox + i * 3 + 1, none⟩ = some (.int .i64 x.n) ∧ W'.cell? ⟨bx, ox + i * 3 + 2, none⟩ = some (.slice qx x.ar.length dx) ∧ W'.cell? ⟨by', oy + i * 3, none⟩ = some (.string (S y.nm)) ∧ W'.cell? ⟨by', oy + i * 3 + 1, none⟩ = some (.int .i64 y.n) ∧ W'.cell? ⟨by', oy + i * 3 + 2, none⟩ = some (.slice qy y.ar.length dy))) (by kernel_rfl) (by kernel_rfl) ?_
                  have hS : (fun W' : World => W'.cell? ⟨n10, 2, none⟩ = some (.slice (some ⟨bx, ox, none⟩) nx cx) ∧ W'.cell? ⟨n11, 2, none⟩ = some (.slice (some ⟨by', oy, none⟩) nx cy) ∧ W'.cell? ⟨bx, ox + i * 3, none⟩ = some (.string (S x.nm)) ∧ W'.cell? ⟨bx, ox + i * 3 + 1, none⟩ = some (.int .i64 x.n) ∧ W'.cell? ⟨bx, ox + i * 3 + 2, none⟩ = some (.slice qx x.ar.length dx) ∧ W'.cell? ⟨by', oy + i * 3, none⟩ = some (.string (S y.nm)) ∧ W'.cell? ⟨by', oy + i * 3 + 1, none⟩ = some (.int .i64 y.n) ∧ W'.cell? ⟨by', oy + i * 3 + 2, none⟩ = some (.slice qy y.ar.length dy)) wr.drew := HSF.out wr.drew (HBR.out.trans ((below_drew wr).mono HBR.out.size)) HWV.out
                  refine take_D (i := 0) 107 (.slice pi li.length ci) rfl rfl (by kernel_rfl) (by kernel_rfl) (by kernel_rfl) (by kernel_rfl) (fun _ _ _ h => h) (Or.inl ⟨by rfl, fun W' hW => by obtain ⟨s0, s1, s2, s3, s4, s5, s6, s7⟩ := hW; go_simp⟩) hS ?_
                  simp only [Act.put, List.setIfInBounds_toArray, List.set_cons_zero, List.set_cons_succ]
                  refine take_D (i := 1) 108 (.pointer (some ⟨n10, 2, none⟩)) rfl rfl (by kernel_rfl) (by kernel_rfl) (by kernel_rfl) (by kernel_rfl) (fun _ _ _ h => h) (Or.inl ⟨by rfl, fun W' hW => by obtain ⟨s0, s1, s2, s3, s4, s5, s6, s7⟩ := hW; go_simp⟩) hS ?_
                  simp only [Act.put, List.setIfInBounds_toArray, List.set_cons_zero, List.set_cons_succ]
                  refine take_D (i := 2) 109 (.slice (some ⟨bx, ox, none⟩) nx cx) rfl rfl (by kernel_rfl) (by kernel_rfl) (by kernel_rfl) (by kernel_rfl) (fun _ _ _ h => h) (Or.inl ⟨by rfl, fun W' hW => by obtain ⟨s0, s1, s2, s3, s4, s5, s6, s7⟩ := hW; go_simp⟩) hS ?_
                  simp only [Act.put, List.setIfInBounds_toArray, List.set_cons_zero, List.set_cons_succ]
                  refine take_D (i := 3) 110 (.int .i64 i) rfl rfl (by kernel_rfl) (by kernel_rfl) (by kernel_rfl) (by kernel_rfl) (fun _ _ _ h => h) (Or.inl ⟨by rfl, fun W' hW => by obtain ⟨s0, s1, s2, s3, s4, s5, s6, s7⟩ := hW; go_simp⟩) hS ?_
                  simp only [Act.put, List.setIfInBounds_toArray, List.set_cons_zero, List.set_cons_succ]
                  refine take_D (i := 4) 111 (.pointer (some ⟨bx, ox + i * 3, none⟩)) rfl rfl (by kernel_rfl) (by kernel_rfl) (by kernel_rfl) (by kernel_rfl) (fun _ _ _ h => h) (Or.inl ⟨by rfl, fun W' hW => by obtain ⟨s0, s1, s2, s3, s4, s5, s6, s7⟩ := hW; go_simp⟩) hS ?_
                  simp only [Act.put, List.setIfInBounds_toArray, List.set_cons_zero, List.set_cons_succ]
                  refine take_D (i := 5) 112 (.agg #[.string (S x.nm), .int .i64 x.n, .slice qx x.ar.length dx]) rfl rfl (by kernel_rfl) (by kernel_rfl) (by kernel_rfl) (by kernel_rfl) (fun _ _ _ h => h) (Or.inl ⟨by rfl, fun W' hW => by obtain ⟨s0, s1, s2, s3, s4, s5, s6, s7⟩ := hW; go_simp⟩) hS ?_
                  simp only [Act.put, List.setIfInBounds_toArray, List.set_cons_zero, List.set_cons_succ]
                  refine take_D (i := 6) 113 (.pointer (some ⟨n11, 2, none⟩)) rfl rfl (by kernel_rfl) (by kernel_rfl) (by kernel_rfl) (by kernel_rfl) (fun _ _ _ h => h) (Or.inl ⟨by rfl, fun W' hW => by obtain ⟨s0, s1, s2, s3, s4, s5, s6, s7⟩ := hW; go_simp⟩) hS ?_
                  simp only [Act.put, List.setIfInBounds_toArray, List.set_cons_zero, List.set_cons_succ]
                  refine take_D (i := 7) 114 (.slice (some ⟨by', oy, none⟩) nx cy) rfl rfl (by kernel_rfl) (by kernel_rfl) (by kernel_rfl) (by kernel_rfl) (fun _ _ _ h => h) (Or.inl ⟨by rfl, fun W' hW => by obtain ⟨s0, s1, s2, s3, s4, s5, s6, s7⟩ := hW; go_simp⟩) hS ?_
                  simp only [Act.put, List.setIfInBounds_toArray, List.set_cons_zero, List.set_cons_succ]
                  refine take_D (i := 8) 115 (.int .i64 i) rfl rfl (by kernel_rfl) (by kernel_rfl) (by kernel_rfl) (by kernel_rfl) (fun _ _ _ h => h) (Or.inl ⟨by rfl, fun W' hW => by obtain ⟨s0, s1, s2, s3, s4, s5, s6, s7⟩ := hW; go_simp⟩) hS ?_
                  simp only [Act.put, List.setIfInBounds_toArray, List.set_cons_zero, List.set_cons_succ]
                  refine take_D (i := 9) 116 (.pointer (some ⟨by', oy + i * 3, none⟩)) rfl rfl (by kernel_rfl) (by kernel_rfl) (by kernel_rfl) (by kernel_rfl) (fun _ _ _ h => h) (Or.inl ⟨by rfl, fun W' hW => by obtain ⟨s0, s1, s2, s3, s4, s5, s6, s7⟩ := hW; go_simp⟩) hS ?_
                  simp only [Act.put, List.setIfInBounds_toArray, List.set_cons_zero, List.set_cons_succ]
                  refine take_D (i := 10) 117 (.agg #[.string (S y.nm), .int .i64 y.n, .slice qy y.ar.length dy]) rfl rfl (by kernel_rfl) (by kernel_rfl) (by kernel_rfl) (by kernel_rfl) (fun _ _ _ h => h) (Or.inl ⟨by rfl, fun W' hW => by obtain ⟨s0, s1, s2, s3, s4, s5, s6, s7⟩ := hW; go_simp⟩) hS ?_
                  simp only [Act.put, List.setIfInBounds_toArray, List.set_cons_zero, List.set_cons_succ]
                  refine ready_J (rs := [11]) (by kernel_rfl) (by simp) ?_
                  intro jj hjj
                  obtain rfl := List.mem_singleton.1 hjj
                  clear hjj
                  refine op_J rfl rfl fun K' hK => ?_
                  go_simp
                  refine HC.out.mono ?_
                  rintro r v1 ⟨hb, vv, hor⟩
                  have HV1 := hide (HWV.out.trans (hb.mono HWV.out.size))
                  have HBV := hide (HBR.out.trans ((below_drew wr).mono HBR.out.size |>.trans (hb.mono (Nat.le_trans HBR.out.size (Nat.le_refl _)))))
                  clear hb
                  have hS2 := HSF.out v1 HBV.out HV1.out
                  clear hS
                  have hS := hS2
                  clear hS2
                  rcases hor with ⟨rfl, hnone⟩ | ⟨rfl, l2, hone, hfm2⟩
                  · have HNONE : Hid (OneN l a b) := hide (loop_none h HXE.out HYE.out hX' HNMQ.out HLNQ.out (by rw [HNX.out]; exact hlt) HLT.out HXI.out HYI.out hnone)
                    clear hnone
                    refine hK _ _ ⟨fun _ => hS, ?_⟩
                    clear hK K'
                    refine take_D (i := 12) 106 (.tuple #[vv, .bool false]) rfl rfl (by kernel_rfl) (by kernel_rfl) (by kernel_rfl) (by kernel_rfl) (fun _ _ _ h => h) (Or.inl ⟨by rfl, fun W' hW => by obtain ⟨s0, s1, s2, s3, s4, s5, s6, s7⟩ := hW; go_simp⟩) hS ?_
                    simp only [Act.put, List.setIfInBounds_toArray, List.set_cons_zero, List.set_cons_succ]
                    refine take_D (i := 13) 119 (vv) rfl rfl (by kernel_rfl) (by kernel_rfl) (by kernel_rfl) (by kernel_rfl) (fun _ _ _ h => h) (Or.inl ⟨by rfl, fun W' hW => by obtain ⟨s0, s1, s2, s3, s4, s5, s6, s7⟩ := hW; go_simp⟩) hS ?_
                    simp only [Act.put, List.setIfInBounds_toArray, List.set_cons_zero, List.set_cons_succ]
                    refine take_D (i := 14) 120 (.bool false) rfl rfl (by kernel_rfl) (by kernel_rfl) (by kernel_rfl) (by kernel_rfl) (fun _ _ _ h => h) (Or.inl ⟨by rfl, fun W' hW => by obtain ⟨s0, s1, s2, s3, s4, s5, s6, s7⟩ := hW; go_simp⟩) hS ?_
                    simp only [Act.put, List.setIfInBounds_toArray, List.set_cons_zero, List.set_cons_succ]
                    refine take_D (i := 15) 15 (vv) rfl rfl (by kernel_rfl) (by kernel_rfl) (by kernel_rfl) (by kernel_rfl) (fun _ _ _ h => h) (Or.inl ⟨by rfl, fun W' hW => by obtain ⟨s0, s1, s2, s3, s4, s5, s6, s7⟩ := hW; go_simp⟩) hS ?_
                    simp only [Act.put, List.setIfInBounds_toArray, List.set_cons_zero, List.set_cons_succ]
                    refine take_D (i := 16) 16 (.bool false) rfl rfl (by kernel_rfl) (by kernel_rfl) (by kernel_rfl) (by kernel_rfl) (fun _ _ _ h => h) (Or.inl ⟨by rfl, fun W' hW => by obtain ⟨s0, s1, s2, s3, s4, s5, s6, s7⟩ := hW; go_simp⟩) hS ?_
                    simp only [Act.put, List.setIfInBounds_toArray, List.set_cons_zero, List.set_cons_succ]
                    refine done_J (by kernel_rfl) ?_ _
                    refine NoPanic.normal ?_
                    clear hS
                    go_wp2_with fail
                    exact bodyPost_ret (v := .tuple #[vv, .bool false]) (by simp only [results, Tryd.results46]; go_simp) rfl ⟨HV1.out, _, .inl ⟨rfl, HNONE.out⟩⟩
                  · obtain ⟨p3, c3, rfl, _, _⟩ := hfm2.shape
                    have HLT2 := hide (loop_step HLT.out HXI.out HYI.out hone)
                    have HFM2 := hide hfm2
                    clear hone hfm2
                    refine hK _ _ ⟨fun _ => hS, ?_⟩
                    clear hK K'
                    refine take_D (i := 12) 106 (.tuple #[.slice p3 l2.length c3, .bool true]) rfl rfl (by kernel_rfl) (by kernel_rfl) (by kernel_rfl) (by kernel_rfl) (fun _ _ _ h => h) (Or.inl ⟨by rfl, fun W' hW => by obtain ⟨s0, s1, s2, s3, s4, s5, s6, s7⟩ := hW; go_simp⟩) hS ?_
                    simp only [Act.put, List.setIfInBounds_toArray, List.set_cons_zero, List.set_cons_succ]
                    refine take_D (i := 13) 119 (.slice p3 l2.length c3) rfl rfl (by kernel_rfl) (by kernel_rfl) (by kernel_rfl) (by kernel_rfl) (fun _ _ _ h => h) (Or.inl ⟨by rfl, fun W' hW => by obtain ⟨s0, s1, s2, s3, s4, s5, s6, s7⟩ := hW; go_simp⟩) hS ?_
                    simp only [Act.put, List.setIfInBounds_toArray, List.set_cons_zero, List.set_cons_succ]
                    refine take_D (i := 14) 120 (.bool true) rfl rfl (by kernel_rfl) (by kernel_rfl) (by kernel_rfl) (by kernel_rfl) (fun _ _ _ h => h) (Or.inl ⟨by rfl, fun W' hW => by obtain ⟨s0, s1, s2, s3, s4, s5, s6, s7⟩ := hW; go_simp⟩) hS ?_
                    simp only [Act.put, List.setIfInBounds_toArray, List.set_cons_zero, List.set_cons_succ]
                    refine take_D (i := 15) 15 (.slice p3 l2.length c3) rfl rfl (by kernel_rfl) (by kernel_rfl) (by kernel_rfl) (by kernel_rfl) (fun _ _ _ h => h) (Or.inl ⟨by rfl, fun W' hW => by obtain ⟨s0, s1, s2, s3, s4, s5, s6, s7⟩ := hW; go_simp⟩) hS ?_
                    simp only [Act.put, List.setIfInBounds_toArray, List.set_cons_zero, List.set_cons_succ]
                    refine take_D (i := 16) 16 (.bool true) rfl rfl (by kernel_rfl) (by kernel_rfl) (by kernel_rfl) (by kernel_rfl) (fun _ _ _ h => h) (Or.inl ⟨by rfl, fun W' hW => by obtain ⟨s0, s1, s2, s3, s4, s5, s6, s7⟩ := hW; go_simp⟩) hS ?_
                    simp only [Act.put, List.setIfInBounds_toArray, List.set_cons_zero, List.set_cons_succ]
                    refine done_J (by kernel_rfl) ?_ _
                    refine NoPanic.normal ?_
                    clear hS
                    go_wp2_with fail
                    go_roundg (nx - (i + 1))
                    case measure => omega
                    case rel => exact ⟨i + 1, l2, p3, c3, by omega, rfl, by go_num, rfl, HFM2.out, HLT2.out, HBV.out⟩
                · have hii : ¬ (i : Int) < nx := by omega
                  go_upto_region 23 with fail
                  have HLT3 : Hid (LoopT H l X Y X.ar.length li) := hide (by
                    have h7 : X.ar.length = i := by have := HNX.out; omega
                    rw [h7]
                    exact HLT.out)
                  have HONE := hide (loop_end h HXE.out HYE.out hX' HNMQ.out HLNQ.out HLT3.out)
                  have HXR : Hid (Bx [(n11, #[.string (S Y.nm), .int .i64 Y.n, .slice py nx cy]), (n10, #[.string (S X.nm), .int .i64 X.n, .slice px nx cx]), (n9, #[.string (S vb.nm), .int .i64 vb.n, .slice pw vb.ar.length cw]), (n8, #[.string (S va.nm), .int .i64 va.n, .slice pv va.ar.length cv])] wr) := HXr
                  clear x0 x1 x2 y0 y1 y2
                  cases hvh : va.nm.isEmpty with
                  | false =>
                    rw [hvh] at HHva
                    have hhx := Bx.at HXR.out 3 rfl
                    dsimp only at hhx
                    have x0 := hhx.cell 0; have x1 := hhx.cell 1; have x2 := hhx.cell 2
                    simp only [List.getElem?_toArray, List.getElem?_cons_succ, List.getElem?_cons_zero] at x0 x1 x2
                    clear hhx
                    go_wp2_with fail
                    refine (HHva.out wr).mono ?_
                    rintro r w12 ⟨rfl, hb⟩
                    have HB12 := hide (HBW.out.trans (hb.mono HBW.out.size))
                    have HFM12 := hide (HFM.out.below hb)
                    clear hb
                    go_wp2_with fail
                    exact bodyPost_ret (v := .tuple #[.slice pi li.length ci, .bool true]) (by simp only [results, Tryd.results46]; go_simp) rfl ⟨HB12.out, _, .inr ⟨rfl, _, HONE.out, HFM12.out⟩⟩
                  | true =>
                    rw [hvh] at HHva
                    have hhx := Bx.at HXR.out 3 rfl
                    dsimp only at hhx
                    have x0 := hhx.cell 0; have x1 := hhx.cell 1; have x2 := hhx.cell 2
                    simp only [List.getElem?_toArray, List.getElem?_cons_succ, List.getElem?_cons_zero] at x0 x1 x2
                    clear hhx
                    go_wp2_with fail
                    refine (HHva.out wr).mono ?_
                    rintro r w12 ⟨rfl, hb⟩
                    have HB12 := hide (HBW.out.trans (hb.mono HBW.out.size))
                    have HFM12 := hide (HFM.out.below hb)
                    have HX12 := hide (HXR.out.below hb)
                    clear hb x0 x1 x2
                    have hhx := Bx.at HX12.out 3 rfl
                    dsimp only at hhx
                    have x0 := hhx.cell 0; have x1 := hhx.cell 1; have x2 := hhx.cell 2
                    simp only [List.getElem?_toArray, List.getElem?_cons_succ, List.getElem?_cons_zero] at x0 x1 x2
                    clear hhx
                    have hhy := Bx.at HX12.out 2 rfl
                    dsimp only at hhy
                    have y0 := hhy.cell 0; have y1 := hhy.cell 1; have y2 := hhy.cell 2
                    simp only [List.getElem?_toArray, List.getElem?_cons_succ, List.getElem?_cons_zero] at y0 y1 y2
                    clear hhy
                    cases hwh : vb.nm.isEmpty with
                    | false =>
                      rw [hwh] at HHvb
                      go_wp2_with fail
                      refine (HHvb.out w12).mono ?_
                      rintro r w13 ⟨rfl, hb⟩
                      have HB13 := hide (HB12.out.trans (hb.mono HB12.out.size))
                      have HFM13 := hide (HFM12.out.below hb)
                      clear hb
                      go_wp2_with fail
                      exact bodyPost_ret (v := .tuple #[.slice pi li.length ci, .bool true]) (by simp only [results, Tryd.results46]; go_simp) rfl ⟨HB13.out, _, .inr ⟨rfl, _, HONE.out, HFM13.out⟩⟩
                    | true =>
                      rw [hwh] at HHvb
                      have hah := HVH.out.1 hvh
                      have hbh := HVH.out.2 hwh
                      have hva : va = hole (e a.n) := by rw [← HVE.out]; unfold rootT; rw [if_pos hah]
                      have hvb : vb = hole (e b.n) := by rw [← HWE.out]; unfold rootT; rw [if_pos hbh]
                      have hne : e a.n ≠ e b.n := fun e1 => by
                        have := HEE.out
                        rw [hva, hvb, e1] at this
                        simp [hole] at this
                      obtain ⟨⟨s', e', p', hIi⟩, _⟩ := HLT.out
                      have hlen : li.length ≤ 500000 := by
                        have h1 := nodup_len hIi.nd (H := H) (fun m hm => by obtain ⟨f, hf, rfl⟩ := List.mem_map.1 hm; exact (hIi.ok f hf).2.1)
                        rw [List.length_map] at h1
                        omega
                      have HTURN : Hid (OneT H l a b (li.map fun f => if f.1 = va.n then (va.n, vb) else f)) := hide (by
                        rw [hva, hvb]
                        exact loop_turn h haH hbH HXE.out HYE.out hX' HNMQ.out HLNQ.out hah hbh hne HLT3.out rfl)
                      have HSAME := hide (fun W (hW : Below w12.heap.size w12 W) => rsameF_any hIi.nd hlen (n := va.n) (HIva.out w (Below.refl _ _)).bds.2 (t := vb) (pk := pw) (ck := cw) (HFM12.out.below hW) (TyIn.keep (KP.refl _ _) (fun x hx => Nat.lt_of_lt_of_le hx (Nat.le_trans HB12.out.size hW.size)) _ _ (HIvb.out W (HB12.out.trans (hW.mono HB12.out.size)))))
                      unfold cs3 at HSAME
                      clear hah hbh hva hvb hne hIi hlen
                      go_wp2_with fail
                      refine (HHvb.out w12).mono ?_
                      rintro r w13 ⟨rfl, hb⟩
                      have HB13 := hide (HB12.out.trans (hb.mono HB12.out.size))
                      have HX13 := hide (HX12.out.below hb)
                      have HB123 := hide hb
                      clear hb x0 x1 x2 y0 y1 y2
                      have hhx := Bx.at HX13.out 3 rfl
                      dsimp only at hhx
                      have x0 := hhx.cell 0; have x1 := hhx.cell 1; have x2 := hhx.cell 2
                      simp only [List.getElem?_toArray, List.getElem?_cons_succ, List.getElem?_cons_zero] at x0 x1 x2
                      clear hhx
                      have hhy := Bx.at HX13.out 2 rfl
                      dsimp only at hhy
                      have y0 := hhy.cell 0; have y1 := hhy.cell 1; have y2 := hhy.cell 2
                      simp only [List.getElem?_toArray, List.getElem?_cons_succ, List.getElem?_cons_zero] at y0 y1 y2
                      clear hhy
                      go_wp2_with fail
                      refine (HSAME.out w13 HB123.out).mono ?_
                      rintro r w14 ⟨v9, rfl, hfm9, hb⟩
                      have HB14 := hide (HB13.out.trans (hb.mono HB13.out.size))
                      have HFM9 := hide hfm9
                      clear hb hfm9
                      go_wp2_with fail
                      exact bodyPost_ret (v := .tuple #[v9, .bool true]) (by simp only [results, Tryd.results46]; go_simp) rfl ⟨HB14.out, _, .inr ⟨rfl, _, HTURN.out, HFM9.out⟩⟩
            · have HNONE : Hid (OneN l a b) := hide (one_clash h (by rw [HXE.out]; exact hX) (by rw [HYE.out]; exact hY) (.inr (by rw [HXE.out, HYE.out]; exact hln)))
              rw [← hnm] at y0
              have hk2 : ((X.ar.length : Int) != (Y.ar.length : Int)) = true := by simp; omega
              clear hnm
              go_wp2_with fail
              exact bodyPost_ret (v := .tuple #[.slice pl nl cl, .bool false]) (by simp only [results, Tryd.results46]; go_simp) rfl ⟨HB10.out, _, .inl ⟨rfl, HNONE.out⟩⟩
          · have HNONE : Hid (OneN l a b) := hide (one_clash h (by rw [HXE.out]; exact hX) (by rw [HYE.out]; exact hY) (.inl (by rw [HXE.out, HYE.out]; exact hnm)))
            have hk0 : ¬ (S X.nm).toList = (S Y.nm).toList := by rw [S_list, S_list]; exact hnm
            have hk1 : ((S X.nm).toList != (S Y.nm).toList) = true := by simpa using hk0
            have hk3 : ((S X.nm).toList == (S Y.nm).toList) = false := by simpa using hk0
            clear hnm
            go_wp2_with fail
            exact bodyPost_ret (v := .tuple #[.slice pl nl cl, .bool false]) (by simp only [results, Tryd.results46]; go_simp) rfl ⟨HB10.out, _, .inl ⟨rfl, HNONE.out⟩⟩
theorem rone_any (hHl : H.length ≤ 100000) : ∀ (u z : Nat) (l : List (Int × Ty)) (s : Int → Ty) (e : Int → Int) (p : Int → Nat), Inv H l s e p → ∀ a b : Ty, openN H l ≤ u → tsz (sub s a) ≤ z → (∀ m ∈ hls a, m ∈ H) → (∀ m ∈ hls b, m ∈ H) → allT ok1 a = true → allT ok1 b = true → OOK H l a b := by
  intro u
  induction u using Nat.strongRecOn with
  | _ u ihu =>
    intro z
    induction z using Nat.strongRecOn with
    | _ z ihz =>
      intro l s e p h a b hu hz haH hbH hao hbo
      refine one_step h hHl a b haH hbH hao hbo fun l' a' b' hx ha' hb' hao' hbo' => ?_
      obtain ⟨s', e', p', h', hm⟩ := hx
      rcases hm with hm | ⟨hm, hm2⟩
      · exact ihu (openN H l') (by omega) _ l' s' e' p' h' a' b' (Nat.le_refl _) (Nat.le_refl _) ha' hb' hao' hbo'
      · exact ihz (tsz (sub s' a')) (by omega) l' s' e' p' h' a' b' (by omega) (Nat.le_refl _) ha' hb' hao' hbo'
end
end Go.Proofs.YteoflpalmckikaaDoor
