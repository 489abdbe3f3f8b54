/-
  LexSpaces's walk.
-/
import Derived.Test.YtnajffpllhckkaaDoorBackWalk
namespace Go.Proofs.YtnajffpllhckkaaDoor
open Go.RowKit
set_option linter.unusedVariables false

theorem spaces_long (p p2 : Option Addr) (m c m2 c2 : Nat) (w : World) (hg : Glob w) (h : 2000 < (m : Int) ∨ m2 = 0 ∨ 100 < (m2 : Int)) :
    Calls Tryd.prog 9 #[.slice p m c, .slice p2 m2 c2] w fun e w' => e = .returned (.bool true) ∧ Below w.heap.size w w' := by
  by_cases h1 : 2000 < (m : Int)
  · go_enter Tryd.func9, Tryd.ntmps9
    go_wp2_with fail
    refine (awake_any w hg).mono ?_
    rintro e w1 ⟨rfl, hb⟩
    go_wp2_with fail
    go_ret
    exact ⟨rfl, hb⟩
  · by_cases h2 : m2 = 0
    · subst h2
      clear h
      go_enter Tryd.func9, Tryd.ntmps9
      go_wp2_with fail
      refine (awake_any w hg).mono ?_
      rintro e w1 ⟨rfl, hb⟩
      go_wp2_with fail
      go_ret
      exact ⟨rfl, hb⟩
    · have h3 : 100 < (m2 : Int) := by omega
      have h4 : ((m2 : Int) == 0) = false := by rw [beq_eq_false_iff_ne]; omega
      clear h h2
      go_enter Tryd.func9, Tryd.ntmps9
      go_wp2_with fail
      refine (awake_any w hg).mono ?_
      rintro e w1 ⟨rfl, hb⟩
      go_wp2_with fail
      go_ret
      exact ⟨rfl, hb⟩
/-- The gaps behind the token of a place. -/
def gX (gs : List UInt8) (i : Nat) : UInt8 := gs.getD (i % gs.length) 0
def gC (x : UInt8) : UInt8 := if 99 < x.toNat then 10 else 32
def gG (gs : List UInt8) (i : Nat) : List UInt8 := List.replicate ((gX gs i).toNat % 4) (gC (gX gs i))
theorem gG_ok (gs : List UInt8) : ∀ i, ∀ x ∈ gG gs i, x = 32 ∨ x = 10 := by
  intro i x hx
  rw [(List.mem_replicate.1 hx).2]
  unfold gC; split
  · exact .inr rfl
  · exact .inl rfl
theorem sp_len (gs : List UInt8) (M : Nat) : ∀ (ts : List Tok) (i : Nat), (∀ t ∈ ts, t.tx.length ≤ M) → (sp (gG gs) i ts).length ≤ ts.length * (M + 4)
  | [], i, _ => by simp [sp]
  | t :: r, i, h => by
    have h1 := h t (List.mem_cons_self ..)
    have h2 := sp_len gs M r (i + 1) (fun u hu => h u (List.mem_cons_of_mem _ hu))
    have h3 : (gG gs i).length ≤ 3 := by unfold gG; rw [List.length_replicate]; omega
    rw [sp, List.length_append, List.length_cons, List.length_append, List.length_cons, Nat.add_mul]; omega
theorem sp_take (gs : List UInt8) (ts : List Tok) (k : Nat) (h : k < ts.length) : sp (gG gs) 0 (ts.take (k + 1)) = ((sp (gG gs) 0 (ts.take k) ++ ts[k].tx) ++ [32]) ++ gG gs k := by
  rw [List.take_succ_eq_append_getElem h, sp_snoc, List.length_take, Nat.min_eq_left (by omega), Nat.zero_add]
  simp
set_option maxRecDepth 20000 in
set_option maxHeartbeats 4000000 in
theorem spaces_walk (p p2 : Option Addr) (m c m2 c2 : Nat) (l gs : List UInt8) (w : World) (hg : Glob w) (hl : l.length = m) (h : m ≤ 2000) (hmc : m ≤ c) (hM : Mem w p l) (hp : p = none → c = 0)
    (hl2 : gs.length = m2) (h2 : m2 ≤ 100) (h20 : 1 ≤ m2) (hM2 : Mem w p2 gs) :
    Calls Tryd.prog 9 #[.slice p m c, .slice p2 m2 c2] w fun e w' => e = .returned (.bool true) ∧ Below w.heap.size w w' := by
  have HL := hide (fun w1 hM hg => lex_told p m c l w1 hl (by omega) hmc hM hp hg)
  have hm0 : ((m2 : Int) == 0) = false := by rw [beq_eq_false_iff_ne]; omega
  have htl : (lexM l).1.length ≤ 2000 := by
    cases hq : (lexM l).2 with
    | some e => rw [lexM_err hq]; simp
    | none => exact (lexM_ok hq).2
  have hlen := len_lexM l
  rw [hl] at hlen
  have HSP := hide (lexM_sp (gG gs) (gG_ok gs) (lexM l).1 (vt_lexM l) htl)
  have HLN := hide hlen
  clear hlen
  go_enter Tryd.func9, Tryd.ntmps9
  go_wp2_with fail
  refine (awake_any w hg).mono ?_
  rintro e w1 ⟨rfl, hb1⟩
  have g1 := hg.below (Nat.le_refl _) hb1
  go_wp2_with fail
  refine (HL.out w1 (hM.below (Nat.le_refl _) hb1) g1).mono ?_
  rintro e w2 ⟨pa, cpa, rfl, hTa, hca, hb2⟩
  have B2 : Below w.heap.size w w2 := hb1.trans (hb2.mono hb1.size)
  have N2 := B2.size
  clear hb1 hb2 HL g1 hM
  cases hq : (lexM l).2 with
  | some ab =>
    have h0 := lexM_err hq
    have e2 : ern l = 20 := by unfold ern; rw [hq]; rfl
    rw [e2, h0]
    simp only [List.length_nil]
    clear hq h0 e2 HSP HLN htl hTa
    go_wp2_with fail
    go_ret
    exact ⟨rfl, B2.alloc N2 _⟩
  | none =>
    have e2 : ern l = 0 := by unfold ern; rw [hq]; rfl
    have e3 : plc l = (0, 0) := by unfold plc; rw [hq]; rfl
    rw [e2, e3]
    clear hq e2 e3
    generalize (lexM l).1 = ts at *
    have B3 : Below w2.heap.size w2 (w2.alloc (.cells #[.int .i64 0, .int .i64 0] 26)) := (Below.refl _ w2).alloc (Nat.le_refl _) _
    have T3 := hTa.below (Nat.le_refl _) B3
    have B4 : Below w.heap.size w (w2.alloc (.cells #[.int .i64 0, .int .i64 0] 26)) := B2.trans (B3.mono N2)
    have M4 := hM2.below (Nat.le_refl _) B4
    clear B2 B3 hTa hM2 N2
    go_wp2_with fail
    generalize w2.alloc (.cells #[.int .i64 0, .int .i64 0] 26) = W0 at *
    have N0 := B4.size
    go_loopw [9, 10] (fun v i wr => ∃ (j : Nat) (pb : Option Addr) (cb : Nat), i = .int .i64 j ∧ j ≤ ts.length ∧ v = .slice pb (sp (gG gs) 0 (ts.take j)).length cb ∧ wr.ownsRow W0.heap.size 5 1 (.slice pb (sp (gG gs) 0 (ts.take j)).length cb) (sp (gG gs) 0 (ts.take j)).length ((sp (gG gs) 0 (ts.take j)).map cl) ∧ Below W0.heap.size W0 wr) (fun _ i _ => ts.length - (intOf i).toNat)
    case atStart => exact ⟨0, none, 0, rfl, Nat.zero_le _, rfl, World.ownsRow_nil _ _ _ _, Below.refl _ _⟩
    case round =>
      obtain ⟨j, pb, cb, rfl, hj, rfl, hown, hB⟩ := hrel
      have hBz := hB.size
      have hspl := sp_len gs m (ts.take j) 0 (fun t ht => HLN.out t (List.mem_of_mem_take ht))
      have hsp2 : (sp (gG gs) 0 (ts.take j)).length ≤ 4008000 := by
        have : (ts.take j).length * (m + 4) ≤ 2000 * 2004 := Nat.mul_le_mul (by rw [List.length_take]; omega) (by omega)
        omega
      by_cases hlt : j < ts.length
      · have A1 := T3.below (Nat.le_refl _) hB
        rcases A1 with he | ⟨ba, oa, rfl, hba, hma⟩
        · rw [he] at hlt; simp at hlt
        have a1 := (hma j ts[j] (by simp)).2.1
        have HST := hide (sp_take gs ts j hlt)
        have hxl := HLN.out ts[j] (List.getElem_mem hlt)
        have A2 := M4.below (Nat.le_refl _) hB
        have cv := conv_sb wr ts[j].tx
        clear hma hspl
        generalize ts[j] = t at *
        generalize hsq : sp (gG gs) 0 (ts.take j) = q at *
        have mB := bw_mem wr t.tx
        have bB := (bw_below wr t.tx).mono hBz
        have oB := ownsRow_keep (Keep.of_below (bw_below wr t.tx) hBz) hown
        have kB : W0.heap.size ≤ (Lib.bytesWorld wr 5 (S t.tx)).heap.size := Nat.le_trans hBz (bw_below wr t.tx).size
        go_wp2_with (first
          | (at_builtin; refine wpList_app rfl _ _ rfl W0.heap.size pb q.length cb q rfl oB (some ⟨wr.heap.size, 0, none⟩) t.tx.length (grownCap wr t.tx.length 0 5) t.tx rfl rfl mB (fun h => by cases h) (by omega) kB ?_; intro pb1 cb1 wA hA gA; have bA := (hB.trans bB).trans (grown_below oB kB gA); clear oB gA)
          | (at_builtin; refine wpList_app rfl _ _ rfl W0.heap.size pb1 (q.length + t.tx.length) cb1 (q ++ t.tx) rfl (hA.alloc _) (some ⟨wA.heap.size, 0, none⟩) 1 1 [32] rfl rfl (mem_const wA [32] #[.int .u8 32] (0, 0) rfl) (fun h => by cases h) (by omega) (by have := bA.size; simp; omega) ?_; intro pb2 cb2 wC hC gC; have bC := bA.trans (((Below.refl W0.heap.size wA).alloc bA.size (.cells #[.int .u8 32] 5)).trans (grown_below (hA.alloc _) (by have := bA.size; simp; omega) gC)); clear hA gC))
        have hjm : j % m2 < m2 := Nat.mod_lt _ (by omega)
        have hx : gX gs j = gs[j % m2]'(by omega) := by unfold gX; simp [List.getD, hl2, hjm]
        have HG : Hid (gG gs j = List.replicate ((gX gs j).toNat % 4) (gC (gX gs j))) := rfl
        rcases A2 with he | ⟨bg, og, rfl, hbg, hmg⟩
        · rw [he] at hl2; simp at hl2; omega
        have HGM : Hid (∀ wr2, Below W0.heap.size W0 wr2 → wr2.cell? ⟨bg, og + j % m2, none⟩ = some (.int .u8 (gX gs j).toNat)) := by
          intro wr2 hb
          rcases M4.below (Nat.le_refl _) hb with he | ⟨b', o', he, _, hm'⟩
          · rw [he] at hl2; simp at hl2; omega
          · cases he
            rw [hx]
            exact hm' (j % m2) _ (by simp)
        clear hmg hx
        have hmod : (j : Int) % (m2 : Int) = ((j % m2 : Nat) : Int) := (Int.natCast_emod j m2).symm
        have hmod2 : (j : Int).tmod (m2 : Int) = ((j % m2 : Nat) : Int) := by rw [Int.ofNat_tmod]
        generalize gX gs j = x at *
        generalize j % m2 = jj at *
        have hx256 : x.toNat < 256 := x.toNat_lt
        have hq4 : (x.toNat : Int) % 4 = ((x.toNat % 4 : Nat) : Int) := by omega
        have hq5 : (x.toNat : Int).tmod 4 = ((x.toNat % 4 : Nat) : Int) := by rw [show (4 : Int) = ((4 : Nat) : Int) from rfl, Int.ofNat_tmod]
        have hc4 : x.toNat % 4 ≤ 3 := by omega
        generalize x.toNat % 4 = nn at *
        clear kB bB mB cv
        go_loopw [9, 11] (fun v k wr2 => ∃ (kk : Nat) (pb3 : Option Addr) (cb3 : Nat), k = .int .i64 kk ∧ kk ≤ nn ∧ v = .slice pb3 (q.length + t.tx.length + 1 + kk) cb3 ∧ wr2.ownsRow W0.heap.size 5 1 (.slice pb3 (q.length + t.tx.length + 1 + kk) cb3) (q.length + t.tx.length + 1 + kk) (((q ++ t.tx ++ [32]) ++ List.replicate kk (gC x)).map cl) ∧ Below W0.heap.size W0 wr2) (fun _ k _ => nn - (intOf k).toNat)
        case atStart => exact ⟨0, pb2, cb2, rfl, Nat.zero_le _, rfl, by rw [List.replicate_zero, List.append_nil]; exact hC, bC⟩
        case round =>
          obtain ⟨kk, pb3, cb3, rfl, hkk, rfl, hown3, hB3⟩ := hrel
          have hgc := HGM.out _ hB3
          have z3 := hB3.size
          clear hC bC
          by_cases hk : kk < nn
          · have hrep : ∀ y : UInt8, gC x = y → ((q ++ t.tx ++ [32]) ++ List.replicate kk (gC x)) ++ [y] = (q ++ t.tx ++ [32]) ++ List.replicate (kk + 1) (gC x) := by
              intro y hy
              rw [List.replicate_succ', hy, List.append_assoc]
            have HRP := hide hrep
            clear hrep
            by_cases h99 : 99 < x.toNat
            · have hgx : gC x = 10 := by unfold gC; rw [if_pos h99]
              have HGX := hide hgx
              clear hgx
              generalize ((q ++ t.tx ++ [32]) ++ List.replicate kk (gC x)) = Q at *
              go_wp2_with (at_builtin; refine wpList_app rfl _ _ rfl W0.heap.size pb3 (q.length + t.tx.length + 1 + kk) cb3 Q rfl (hown3.alloc _) (some ⟨wr.heap.size, 0, none⟩) 1 1 [10] rfl rfl (mem_const wr [10] #[.int .u8 10] (0, 0) rfl) (fun h => by cases h) (by omega) (by simp; omega) ?_; intro pb4 cb4 wD hD gD; have bD := hB3.trans (((Below.refl W0.heap.size wr).alloc z3 (.cells #[.int .u8 10] 5)).trans (grown_below (hown3.alloc _) (by simp; omega) gD)); rw [HRP.out _ HGX.out] at hD; clear hown3 gD)
              go_roundw
              case rel => exact ⟨kk + 1, pb4, cb4, by go_num, by omega, rfl, hD, bD⟩
              case measure => simp [intOf]; omega
            · have hgx : gC x = 32 := by unfold gC; rw [if_neg h99]
              have HGX := hide hgx
              clear hgx
              generalize ((q ++ t.tx ++ [32]) ++ List.replicate kk (gC x)) = Q at *
              go_wp2_with (at_builtin; refine wpList_app rfl _ _ rfl W0.heap.size pb3 (q.length + t.tx.length + 1 + kk) cb3 Q rfl (hown3.alloc _) (some ⟨wr.heap.size, 0, none⟩) 1 1 [32] rfl rfl (mem_const wr [32] #[.int .u8 32] (0, 0) rfl) (fun h => by cases h) (by omega) (by simp; omega) ?_; intro pb4 cb4 wD hD gD; have bD := hB3.trans (((Below.refl W0.heap.size wr).alloc z3 (.cells #[.int .u8 32] 5)).trans (grown_below (hown3.alloc _) (by simp; omega) gD)); rw [HRP.out _ HGX.out] at hD; clear hown3 gD)
              go_roundw
              case rel => exact ⟨kk + 1, pb4, cb4, by go_num, by omega, rfl, hD, bD⟩
              case measure => simp [intOf]; omega
          · have hke : kk = nn := by omega
            have hst := HST.out
            rw [HG.out, ← hke] at hst
            have HST2 := hide hst
            clear HST HG hst
            go_wp2_with fail
            go_roundw
            case rel =>
              have hst := HST2.out
              refine ⟨j + 1, pb3, cb3, by go_num, by omega, ?_, ?_, hB3⟩
              · rw [hst]; simp; omega
              · have hn : List.length (q ++ t.tx ++ [32] ++ List.replicate kk (gC x)) = q.length + t.tx.length + 1 + kk := by simp; omega
                rw [hst, hn]
                exact hown3
            case measure => simp [intOf]; omega
      · have hje : j = ts.length := by omega
        subst hje
        rw [List.take_length] at *
        obtain ⟨hl3, hc3, hM3, hp3⟩ := row_args hown
        obtain ⟨x1, x2⟩ := HSP.out
        have B5 := B4.trans (hB.mono N0)
        have HL3 := hide (lex_told pb _ cb (sp (gG gs) 0 ts) wr rfl (by omega) hc3 hM3 hp3 (hg.below (Nat.le_refl _) B5))
        have e3 : plc (sp (gG gs) 0 ts) = (0, 0) := by unfold plc; rw [x1]; rfl
        have e4 : ern (sp (gG gs) 0 ts) = 0 := by unfold ern; rw [x1]; rfl
        have hml : (lexM (sp (gG gs) 0 ts)).1.length = ts.length := by have := congrArg List.length x2; simpa using this
        rw [e3, e4, hml] at HL3
        generalize (lexM (sp (gG gs) 0 ts)).1 = ms at *
        have X2 := hide x2
        clear x1 x2 e3 e4 HSP hM3 hl3 hp3 hspl hown
        go_wp2_with fail
        refine HL3.out.mono ?_
        rintro e w6 ⟨pm, cpm, rfl, hTm, hcm, hb6⟩
        have T6 := (T3.below (Nat.le_refl _) hB).below (Nat.le_refl _) hb6
        have BW := B5.trans (hb6.mono B5.size)
        have N6 := BW.size
        have B7 : Below w6.heap.size w6 (w6.alloc (.cells #[.int .i64 0, .int .i64 0] 26)) := (Below.refl _ w6).alloc (Nat.le_refl _) _
        have T7 := T6.below (Nat.le_refl _) B7
        have M7 := hTm.below (Nat.le_refl _) B7
        have BW7 := BW.trans (B7.mono N6)
        clear T6 hTm BW B7 hb6 HL3 T3 M4 B4 B5 hB
        go_wp2_with fail
        generalize w6.alloc (.cells #[.int .i64 0, .int .i64 0] 26) = W7 at *
        go_loopw [15] (fun i wr => ∃ j : Nat, j ≤ ts.length ∧ i = .int .i64 j ∧ Below W7.heap.size W7 wr) (fun i _ => ts.length - (intOf i).toNat)
        case atStart => exact ⟨0, Nat.zero_le _, rfl, Below.refl _ _⟩
        case round =>
          obtain ⟨j, hj, rfl, hBr⟩ := hrel
          by_cases hlt : j < ts.length
          · have A1 := T7.below (Nat.le_refl _) hBr
            have A2 := M7.below (Nat.le_refl _) hBr
            rcases A1 with he | ⟨ba, oa, rfl, hba, hma⟩
            · rw [he] at hlt; simp at hlt
            rcases A2 with he | ⟨bb, ob, rfl, hbb, hmb⟩
            · rw [he] at hml; simp at hml; omega
            have hmj : j < ms.length := by omega
            have hkey : key3 ms[j] = key3 ts[j] := by
              have := congrArg (fun (z : List (Int × List UInt8 × Int)) => z[j]?) X2.out
              simp only [List.getElem?_map, List.getElem?_eq_getElem hlt, List.getElem?_eq_getElem hmj, Option.map_some, Option.some.injEq] at this
              exact this
            unfold key3 at hkey
            simp only [Prod.mk.injEq] at hkey
            obtain ⟨a0, a1, a2, a3, a4⟩ := hma j ts[j] (by simp)
            obtain ⟨q0, q1, q2, q3, q4⟩ := hmb j ms[j] (by simp)
            rw [hkey.1] at q0
            rw [hkey.2.1] at q1
            rw [hkey.2.2] at q2
            clear hkey hma hmb a3 a4 q3 q4
            generalize ts[j] = t at *
            generalize S t.tx = s at *
            go_wp2_with fail
            go_quiet (fail)
            go_wp2_with fail
            go_roundw
            case rel => exact ⟨j + 1, by omega, by go_num, hBr.trans ⟨rfl, rfl, rfl, Nat.le_refl _, fun _ _ => rfl⟩⟩
            case measure => simp [intOf]; omega
          · go_wp2_with fail
            go_ret
            exact ⟨rfl, BW7.trans (hBr.mono BW7.size)⟩
end Go.Proofs.YtnajffpllhckkaaDoor
