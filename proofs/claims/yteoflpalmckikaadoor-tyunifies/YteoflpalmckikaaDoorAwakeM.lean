/-
  THE TYPES at the head of the statements of layer 8, and what is told of them. No walk in it.
-/
import Derived.Test.YteoflpalmckikaaDoorLawM
namespace Go.Proofs.YteoflpalmckikaaDoor
set_option linter.unusedVariables false
set_option linter.unusedSimpArgs false
def tA : Ty := ⟨[], 1, []⟩
def tZ : Ty := ⟨[], 0, []⟩
def tK : Ty := ⟨[84], 0, [tZ]⟩
def tH : Ty := ⟨[84], 0, [tA]⟩
def tF : Ty := ⟨[45, 62], 0, [tK, tA]⟩
def tN : Ty := ⟨[], -1, []⟩
def tS : Ty := ⟨[], 7, []⟩
theorem chk_A : chk tA = true := chk_hole (m := 1) (by decide)
theorem chk_S : chk tS = true := chk_hole (m := 7) (by decide)
theorem chk_N : chk tN = false := by
  cases h : chk tN with
  | false => rfl
  | true =>
    have := (chk_iff tN).1 h
    rw [allT_eq] at this
    simp [tN, ok1] at this
theorem chk_K : chk tK = true := by
  rw [chk_iff, tsz_eq, allT_eq]
  refine ⟨?_, (tdp_le _ _).2 fun k hk => ?_, ?_⟩
  · simp [tK, tZ, ok1, allT_eq]
  · simp [tK] at hk
    subst hk
    exact (tdp_le _ _).2 fun k hk => by simp [tZ] at hk
  · simp [tK, tZ, tsz_eq]
theorem chk_H : chk tH = true := by
  rw [chk_iff, tsz_eq, allT_eq]
  refine ⟨?_, (tdp_le _ _).2 fun k hk => ?_, ?_⟩
  · simp [tH, tA, ok1, allT_eq]
  · simp [tH] at hk
    subst hk
    exact (tdp_le _ _).2 fun k hk => by simp [tA] at hk
  · simp [tH, tA, tsz_eq]
theorem chk_F : chk tF = true := by
  rw [chk_iff, tsz_eq, allT_eq]
  refine ⟨?_, (tdp_le _ _).2 fun k hk => ?_, ?_⟩
  · simp [tF, tK, tZ, tA, ok1, allT_eq]
  · simp [tF] at hk
    rcases hk with rfl | rfl
    · refine (tdp_le _ _).2 fun k hk => ?_
      simp [tK] at hk
      subst hk
      exact (tdp_le _ _).2 fun k hk => by simp [tZ] at hk
    · exact (tdp_le _ _).2 fun k hk => by simp [tA] at hk
  · simp [tF, tK, tZ, tA, tsz_eq]
theorem hls_K : hls tK = [0] := by rw [hls_node tK rfl]; simp [tK, tZ, hls_eq]
theorem hls_A : hls tA = [1] := hls_at tA rfl
theorem sub_A (r : Int → Ty) : sub r tA = r 1 := sub_hole r 1
theorem sub_K (r : Int → Ty) : sub r tK = ⟨[84], 0, [r 0]⟩ := by rw [sub_node r tK rfl]; simp [tK]; exact sub_hole r 0
theorem sub_H (r : Int → Ty) : sub r tH = ⟨[84], 0, [r 1]⟩ := by rw [sub_node r tH rfl]; simp [tH]; exact sub_hole r 1
theorem look_K : look [(1, tK)] 1 = tK ∧ look [(1, tK)] 0 = tZ := ⟨rfl, rfl⟩
theorem told_AK : Told tA tK [(1, tK)] := by
  refine ⟨by simp, ?_, fun f hf => ?_, fun f hf m hm g hg => ?_, fun f hf m e => ?_, fun r hr f hf => ?_⟩
  · rw [sub_A, sub_K, look_K.1, look_K.2]; rfl
  · obtain rfl := List.mem_singleton.1 hf
    left; rw [hls_A]; simp
  · obtain rfl := List.mem_singleton.1 hf
    obtain rfl := List.mem_singleton.1 hg
    rw [hls_K] at hm
    obtain rfl := List.mem_singleton.1 hm
    decide
  · obtain rfl := List.mem_singleton.1 hf
    cases e
  · obtain rfl := List.mem_singleton.1 hf
    rw [sub_A] at hr
    exact hr.symm
theorem aw_one {l : List (Int × Ty)} {e : Int} (h : UnifyQ tA tK l e) : l = [(1, tK)] ∧ e = 0 := by
  have h2 : UnifyQ tA tK [(1, tK)] 0 := .inl ⟨rfl, told_AK, fun f hf => by obtain rfl := List.mem_singleton.1 hf; exact chk_K⟩
  obtain ⟨h3, h4⟩ := h.uniq chk_A chk_K h2
  exact ⟨h4, h3⟩
theorem aw_two {l : List (Int × Ty)} {e : Int} (h : UnifyQ tA tH l e) : l = [] ∧ e = 80 := by
  rcases h with ⟨_, h1, _⟩ | ⟨h1, h2, _⟩
  · exfalso
    have h3 := h1.one
    rw [sub_A, sub_H] at h3
    have h4 := congrArg tsz h3
    rw [tsz_eq ⟨[84], 0, [look l 1]⟩] at h4
    simp at h4
  · exact ⟨h2, h1⟩
theorem hs_F : hs tF = [0, 1] := by
  have : hls tF = [0, 1] := by rw [hls_node tF rfl]; simp [tF, hls_K, hls_A]
  unfold hs hsA
  rw [this]
  rfl
theorem canon_S : canon tS = tZ := by
  have : hls tS = [7] := hls_at tS rfl
  unfold canon
  rw [show tS = hole 7 from rfl, sub_hole]
  have h2 : hs (hole 7) = [7] := by unfold hs hsA; rw [hls_hole]; rfl
  rw [h2]
  rfl
theorem apply_K : applyM [(1, tK)] tA = tK := by
  rw [applyM_ok chk_A (fun f hf => by obtain rfl := List.mem_singleton.1 hf; exact ⟨by decide, chk_K⟩), sub_A]
  exact look_K.1
theorem txt_F : txT tF = [40, 84, 32, 97, 41, 32, 45, 62, 32, 98] := by
  have hZ : txT tZ = [97] := by rw [txT_let tZ rfl (by decide)]; rfl
  have hA : txT tA = [98] := by rw [txT_let tA rfl (by decide)]; rfl
  have hK : txT tK = [84, 32, 97] := by
    rw [txT_app tK rfl (by simp [tK])]
    simp [tK, atT, tZ]
    exact hZ
  rw [txT_fun tF rfl tK tA rfl]
  unfold atT
  rw [hK, hA]
  rfl
end Go.Proofs.YteoflpalmckikaaDoor
