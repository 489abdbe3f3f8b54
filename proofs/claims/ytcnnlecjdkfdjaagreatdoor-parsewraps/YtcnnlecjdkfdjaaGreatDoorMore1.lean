/- Parts of the proof. -/
import Derived.Test.YtcnnlecjdkfdjaaGreatDoorNamesP
set_option linter.unusedVariables false
set_option linter.unusedSimpArgs false
set_option maxRecDepth 100000
set_option maxHeartbeats 8000000
namespace Go.Proofs.YtcnnlecjdkfdjaaGreatDoor
open Go.RowKit
theorem mem2 (l:List Tk) (i:Nat) (k m:Int):decide ((tkAt l i).kd ∈ [k,m])=(isD l i k || isD l i m):=by
 unfold isD
 rw [Bool.eq_iff_iff]
 simp
theorem alt_rule {c:Nat→Nat} {B:Nat} {l:List Tk} {p:Ps} {w:World} (hx:p.ex.length≤1000000000) (hP:PM c B l p w) (hn:p.ru.length≤1000000000) :
 Calls Tryz.prog 118 #[.pointer (some ⟨B,0,none⟩)] w (RQ c B l w (altR l p)):=by
 have hmf:=mkf
 have HP0:=zz (PW.start hP)
 have h0:0<w.heap.size:=Nat.lt_of_le_of_lt (Nat.zero_le _) HP0.out.ltB
 have hz0:w.heap.size≤w.heap.size:=Nat.le_refl _
 obtain ⟨X,HX0⟩:∃ X,Hid (X=altR l p):=⟨_,rfl⟩
 rw [← HX0.out]
 clear hP
 go_enter Tryz.func118,Tryz.ntmps118
 have ht:=(HP0.out).token
 go_wp2_with fail
 refine (conX HP0.out).mono ?_
 rintro r w1 (⟨rfl,hk,hp⟩ | ⟨rfl,hk,hp,hf⟩)
 ·have HR:Hid (RQ c B l w X (.panicked stuckV) w1):=by
   show RQ c B l w X (.panicked stuckV) w1
   rw [HX0.out.trans (take_st hk)]
   exact hp.stuck rfl
  clear hk hp
  unfold stuckV at *
  go_wp2_with fail
  exact ⟨rfl,HR.out⟩
 have HX1:=zz (HX0.out.trans (take_go hk))
 have HP1:=zz hp
 have hz1:w.heap.size≤w1.heap.size:=HP1.out.size
 have hy1:=hf.size
 clear hk hp hf
 go_wp2_with fail
 refine (namesX HP1.out).mono ?_
 rintro r w2 ⟨pn,cn,rfl,hso,hsm,hp,hf⟩
 have HP2:=zz hp
 have hz2:w.heap.size≤w2.heap.size:=HP2.out.size
 have hy2:=hf.size
 clear hp hf
 have HSO:=zz hso
 have HSM:=zz hsm
 clear hso hsm
 go_wp2_with fail
 refine (makingX HP2.out (pn:=pn) (cn:=cn) (⟨8,(tkAt l p.tk).tx,0,(namesN (l.drop (p.tk+1))),[]⟩:Tr) 0 (Nat.zero_le _) hx (ht _).1 (by simp) HSO.out HSM.out).mono ?_
 rintro r w3 ⟨e,bp3,bf3,rfl,hc,hlt,hle,hp,hf⟩
 have HP3:=zz hp
 have hz3:w.heap.size≤w3.heap.size:=HP3.out.size
 have hy3:=hf.size
 have HM_3:=zz hc
 clear hp hf hc
 go_wp2_with fail
 refine (keyX HP3.out sArrow).mono ?_
 rintro r w4 (⟨rfl,hk,hp⟩ | ⟨rfl,hk,hp,hf⟩)
 ·have HR:Hid (RQ c B l w X (.panicked stuckV) w4):=by
   show RQ c B l w X (.panicked stuckV) w4
   rw [HX1.out.trans (key_st hk)]
   exact hp.stuck rfl
  clear hk hp
  unfold stuckV at *
  go_wp2_with fail
  exact ⟨rfl,HR.out⟩
 have HX4:=zz (HX1.out.trans (key_go hk))
 have HP4:=zz hp
 have hz4:w.heap.size≤w4.heap.size:=HP4.out.size
 have hy4:=hf.size
 have HM_4:=zz (HM_3.out.keep hf)
 clear hk hp hf
 go_wp2_with fail
 refine (thenX (m:=2) HP4.out [r0 10,rMake ⟨8,(tkAt l p.tk).tx,0,(namesN (l.drop (p.tk+1))),[]⟩ p.ex.length] e (10+(p.ru.length+0)) hn rfl (by decide) (by omega) ?rus).mono ?_
 case rus=>exact ⟨⟨by decide,by decide,rfl⟩,HM_4.out.ruv rfl,trivial⟩
 rintro r w5 ⟨rfl,hq⟩
 have HQ:=zz hq
 clear hq
 go_wp2_with fail
 go_end0
 rw [HX4.out]
 exact ⟨rfl,HQ.out⟩
theorem applied_rule {c:Nat→Nat} {B:Nat} {l:List Tk} {p:Ps} {w:World} (h1:1≤p.ex.length) (hx:p.ex.length≤1000000000) (hP:PM c B l p w) (hn:p.ru.length≤1000000000) :
 Calls Tryz.prog 233 #[.pointer (some ⟨B,0,none⟩)] w (RQ c B l w (appliedR l p)):=by
 have hmf:=mkf
 have HP0:=zz (PW.start hP)
 have h0:0<w.heap.size:=Nat.lt_of_le_of_lt (Nat.zero_le _) HP0.out.ltB
 have hz0:w.heap.size≤w.heap.size:=Nat.le_refl _
 obtain ⟨X,HX0⟩:∃ X,Hid (X=appliedR l p):=⟨_,rfl⟩
 rw [← HX0.out]
 clear hP
 go_enter Tryz.func233,Tryz.ntmps233
 go_wp2_with fail
 refine (isAtomX HP0.out).mono ?_
 rintro r w1 ⟨hr,hp,hf⟩
 have HP1:=zz hp
 have hz1:w.heap.size≤w1.heap.size:=HP1.out.size
 have hy1:=hf.size
 clear hp hf
 cases hb:isAtm l p.tk
 ·rw [hb] at hr
  subst hr
  have HX2:=zz (HX0.out.trans (if_neg (by simp [hb])))
  clear hb
  go_wp2_with fail
  go_end0
  rw [HX2.out]
  exact HP1.out.done
 ·rw [hb] at hr
  subst hr
  have HX3:=zz (HX0.out.trans (if_pos hb))
  clear hb
  go_wp2_with fail
  refine (makingX HP1.out (pn:=none) (cn:=0) (kindT 5) 1 h1 hx (by simp [kindT]) (by simp [kindT]) ⟨Nat.le_refl _,by simp [kindT],fun _=>rfl⟩ (.inl rfl)).mono ?_
  rintro r w4 ⟨e,bp4,bf4,rfl,hc,hlt,hle,hp,hf⟩
  have HP4:=zz hp
  have hz4:w.heap.size≤w4.heap.size:=HP4.out.size
  have hy4:=hf.size
  have HM_4:=zz hc
  clear hp hf hc
  go_wp2_with fail
  refine (thenX (m:=3) HP4.out [r0 21,rMake (kindT 5) (p.ex.length - 1),r0 20] e (10+(p.ru.length+1)) hn rfl (by decide) (by omega) ?rus).mono ?_
  case rus=>exact ⟨⟨by decide,by decide,rfl⟩,HM_4.out.ruv rfl,⟨by decide,by decide,rfl⟩,trivial⟩
  rintro r w5 ⟨rfl,hq⟩
  have HQ:=zz hq
  clear hq
  go_wp2_with fail
  go_end0
  rw [HX3.out]
  exact ⟨rfl,HQ.out⟩
theorem sigAtoms_rule {c:Nat→Nat} {B:Nat} {l:List Tk} {p:Ps} {w:World} (hP:PM c B l p w) (hn:p.ru.length≤1000000000) :
 Calls Tryz.prog 236 #[.pointer (some ⟨B,0,none⟩)] w (RQ c B l w (sigAtomsR l p)):=by
 have hmf:=mkf
 have HP0:=zz (PW.start hP)
 have h0:0<w.heap.size:=Nat.lt_of_le_of_lt (Nat.zero_le _) HP0.out.ltB
 have hz0:w.heap.size≤w.heap.size:=Nat.le_refl _
 obtain ⟨X,HX0⟩:∃ X,Hid (X=sigAtomsR l p):=⟨_,rfl⟩
 rw [← HX0.out]
 clear hP
 go_enter Tryz.func236,Tryz.ntmps236
 go_wp2_with fail
 refine (isX HP0.out [3,2] rfl (by decide)).mono ?_
 rintro r w1 ⟨hr,hp,hf⟩
 have HP1:=zz hp
 have hz1:w.heap.size≤w1.heap.size:=HP1.out.size
 have hy1:=hf.size
 clear hp hf
 rw [mem2] at hr
 cases hb:(isD l p.tk 3 || isD l p.tk 2)
 ·rw [hb] at hr
  subst hr
  have hb1:=hb
  clear hb
  go_wp2_with fail
  refine (isKeyX HP1.out [sLeft] rfl (by decide)).mono ?_
  rintro r w2 ⟨hr,hp,hf⟩
  have HP2:=zz hp
  have hz2:w.heap.size≤w2.heap.size:=HP2.out.size
  have hy2:=hf.size
  clear hp hf
  rw [any1] at hr
  cases hb:isK l p.tk sLeft
  ·rw [hb] at hr
   subst hr
   have HX90:=zz (HX0.out.trans (if_neg (by simp [hb1,hb])))
   clear hb hb1
   go_wp2_with fail
   go_end0
   rw [HX90.out]
   exact HP2.out.done
  ·rw [hb] at hr
   subst hr
   have HX91:=zz (HX0.out.trans (if_pos (by simp [hb])))
   clear hb hb1
   go_wp2_with fail
   refine (thenX (m:=2) HP2.out [r0 9,r0 8] 0 (0) hn rfl (by decide) (by omega) ?rus).mono ?_
   case rus=>exact ⟨⟨by decide,by decide,rfl⟩,⟨by decide,by decide,rfl⟩,trivial⟩
   rintro r w3 ⟨rfl,hq⟩
   have HQ:=zz hq
   clear hq
   go_wp2_with fail
   go_end0
   rw [HX91.out]
   exact ⟨rfl,HQ.out⟩
 ·rw [hb] at hr
  subst hr
  have HX92:=zz (HX0.out.trans (if_pos (by simp [hb])))
  clear hb
  go_wp2_with fail
  refine (thenX (m:=2) HP1.out [r0 9,r0 8] 0 (0) hn rfl (by decide) (by omega) ?rus).mono ?_
  case rus=>exact ⟨⟨by decide,by decide,rfl⟩,⟨by decide,by decide,rfl⟩,trivial⟩
  rintro r w4 ⟨rfl,hq⟩
  have HQ:=zz hq
  clear hq
  go_wp2_with fail
  go_end0
  rw [HX92.out]
  exact ⟨rfl,HQ.out⟩
theorem expr_rule {c:Nat→Nat} {B:Nat} {l:List Tk} {p:Ps} {w:World} (hx:p.ex.length≤1000000000) (hP:PM c B l p w) (hn:p.ru.length≤1000000000) :
 Calls Tryz.prog 26 #[.pointer (some ⟨B,0,none⟩)] w (RQ c B l w (exprR l p)):=by
 have hmf:=mkf
 have HP0:=zz (PW.start hP)
 have h0:0<w.heap.size:=Nat.lt_of_le_of_lt (Nat.zero_le _) HP0.out.ltB
 have hz0:w.heap.size≤w.heap.size:=Nat.le_refl _
 obtain ⟨X,HX0⟩:∃ X,Hid (X=exprR l p):=⟨_,rfl⟩
 rw [← HX0.out]
 clear hP
 go_enter Tryz.func26,Tryz.ntmps26
 go_wp2_with fail
 refine (isKeyX HP0.out [sLam] rfl (by decide)).mono ?_
 rintro r w1 ⟨hr,hp,hf⟩
 have HP1:=zz hp
 have hz1:w.heap.size≤w1.heap.size:=HP1.out.size
 have hy1:=hf.size
 clear hp hf
 rw [any1] at hr
 cases hb:isK l p.tk sLam
 ·rw [hb] at hr
  subst hr
  have HX2:=zz (HX0.out.trans (if_neg (by simp [hb])))
  clear hb
  go_wp2_with fail
  refine (isKeyX HP1.out [sLet] rfl (by decide)).mono ?_
  rintro r w3 ⟨hr,hp,hf⟩
  have HP3:=zz hp
  have hz3:w.heap.size≤w3.heap.size:=HP3.out.size
  have hy3:=hf.size
  clear hp hf
  rw [any1] at hr
  cases hb:isK l p.tk sLet
  ·rw [hb] at hr
   subst hr
   have HX4:=zz (HX2.out.trans (if_neg (by simp [hb])))
   clear hb
   go_wp2_with fail
   refine (isKeyX HP3.out [sCase] rfl (by decide)).mono ?_
   rintro r w5 ⟨hr,hp,hf⟩
   have HP5:=zz hp
   have hz5:w.heap.size≤w5.heap.size:=HP5.out.size
   have hy5:=hf.size
   clear hp hf
   rw [any1] at hr
   cases hb:isK l p.tk sCase
   ·rw [hb] at hr
    subst hr
    have HX6:=zz (HX4.out.trans (if_neg (by simp [hb])))
    clear hb
    go_wp2_with fail
    refine (isKeyX HP5.out [sIf] rfl (by decide)).mono ?_
    rintro r w7 ⟨hr,hp,hf⟩
    have HP7:=zz hp
    have hz7:w.heap.size≤w7.heap.size:=HP7.out.size
    have hy7:=hf.size
    clear hp hf
    rw [any1] at hr
    cases hb:isK l p.tk sIf
    ·rw [hb] at hr
     subst hr
     have HX8:=zz (HX6.out.trans (if_neg (by simp [hb])))
     clear hb
     go_wp2_with fail
     refine (isKeyX HP7.out [sDo] rfl (by decide)).mono ?_
     rintro r w9 ⟨hr,hp,hf⟩
     have HP9:=zz hp
     have hz9:w.heap.size≤w9.heap.size:=HP9.out.size
     have hy9:=hf.size
     clear hp hf
     rw [any1] at hr
     cases hb:isK l p.tk sDo
     ·rw [hb] at hr
      subst hr
      have HX10:=zz (HX8.out.trans (if_neg (by simp [hb])))
      clear hb
      go_wp2_with fail
      refine (isKeyX HP9.out [sDos] rfl (by decide)).mono ?_
      rintro r w11 ⟨hr,hp,hf⟩
      have HP11:=zz hp
      have hz11:w.heap.size≤w11.heap.size:=HP11.out.size
      have hy11:=hf.size
      clear hp hf
      rw [any1] at hr
      cases hb:isK l p.tk sDos
      ·rw [hb] at hr
       subst hr
       have HX12:=zz (HX10.out.trans (if_neg (by simp [hb])))
       clear hb
       go_wp2_with fail
       refine (callW HP11.out (fun c' hp'=>comp_any hp' hn)).mono ?_
       intro r w13 hq
       rw [← HX12.out] at hq
       have HQ:=zz hq
       clear hq
       cases X with
       | inl n=>
        obtain ⟨rfl,h⟩:=HQ.out
        unfold stuckV at *
        go_wp2_with fail
        exact ⟨rfl,HQ.out⟩
       | inr q=>
        obtain ⟨rfl,h⟩:=HQ.out
        go_wp2_with fail
        go_end0
        exact HQ.out
      ·rw [hb] at hr
       subst hr
       have HX14:=zz (HX10.out.trans (if_pos hb))
       clear hb
       go_wp2_with fail
       refine (callW HP11.out (fun c' hp'=>block_rule (s:=sDos) (k:=12) hx hp' hn)).mono ?_
       intro r w15 hq
       rw [← HX14.out] at hq
       have HQ:=zz hq
       clear hq
       cases X with
       | inl n=>
        obtain ⟨rfl,h⟩:=HQ.out
        unfold stuckV at *
        go_wp2_with fail
        exact ⟨rfl,HQ.out⟩
       | inr q=>
        obtain ⟨rfl,h⟩:=HQ.out
        go_wp2_with fail
        go_end0
        exact HQ.out
     ·rw [hb] at hr
      subst hr
      have HX16:=zz (HX8.out.trans (if_pos hb))
      clear hb
      go_wp2_with fail
      refine (callW HP9.out (fun c' hp'=>block_rule (s:=sDo) (k:=11) hx hp' hn)).mono ?_
      intro r w17 hq
      rw [← HX16.out] at hq
      have HQ:=zz hq
      clear hq
      cases X with
      | inl n=>
       obtain ⟨rfl,h⟩:=HQ.out
       unfold stuckV at *
       go_wp2_with fail
       exact ⟨rfl,HQ.out⟩
      | inr q=>
       obtain ⟨rfl,h⟩:=HQ.out
       go_wp2_with fail
       go_end0
       exact HQ.out
    ·rw [hb] at hr
     subst hr
     have HX18:=zz (HX6.out.trans (if_pos hb))
     clear hb
     go_wp2_with fail
     refine (callW HP7.out (fun c' hp'=>choice_rule hx hp' hn)).mono ?_
     intro r w19 hq
     rw [← HX18.out] at hq
     have HQ:=zz hq
     clear hq
     cases X with
     | inl n=>
      obtain ⟨rfl,h⟩:=HQ.out
      unfold stuckV at *
      go_wp2_with fail
      exact ⟨rfl,HQ.out⟩
     | inr q=>
      obtain ⟨rfl,h⟩:=HQ.out
      go_wp2_with fail
      go_end0
      exact HQ.out
   ·rw [hb] at hr
    subst hr
    have HX20:=zz (HX4.out.trans (if_pos hb))
    clear hb
    go_wp2_with fail
    refine (callW HP5.out (fun c' hp'=>ways_rule hx hp' hn)).mono ?_
    intro r w21 hq
    rw [← HX20.out] at hq
    have HQ:=zz hq
    clear hq
    cases X with
    | inl n=>
     obtain ⟨rfl,h⟩:=HQ.out
     unfold stuckV at *
     go_wp2_with fail
     exact ⟨rfl,HQ.out⟩
    | inr q=>
     obtain ⟨rfl,h⟩:=HQ.out
     go_wp2_with fail
     go_end0
     exact HQ.out
  ·rw [hb] at hr
   subst hr
   have HX22:=zz (HX2.out.trans (if_pos hb))
   clear hb
   go_wp2_with fail
   refine (callW HP3.out (fun c' hp'=>let_rule hx hp' hn)).mono ?_
   intro r w23 hq
   rw [← HX22.out] at hq
   have HQ:=zz hq
   clear hq
   cases X with
   | inl n=>
    obtain ⟨rfl,h⟩:=HQ.out
    unfold stuckV at *
    go_wp2_with fail
    exact ⟨rfl,HQ.out⟩
   | inr q=>
    obtain ⟨rfl,h⟩:=HQ.out
    go_wp2_with fail
    go_end0
    exact HQ.out
 ·rw [hb] at hr
  subst hr
  have HX24:=zz (HX0.out.trans (if_pos hb))
  clear hb
  go_wp2_with fail
  refine (callW HP1.out (fun c' hp'=>lam_rule hx hp' hn)).mono ?_
  intro r w25 hq
  rw [← HX24.out] at hq
  have HQ:=zz hq
  clear hq
  cases X with
  | inl n=>
   obtain ⟨rfl,h⟩:=HQ.out
   unfold stuckV at *
   go_wp2_with fail
   exact ⟨rfl,HQ.out⟩
  | inr q=>
   obtain ⟨rfl,h⟩:=HQ.out
   go_wp2_with fail
   go_end0
   exact HQ.out
theorem line_rule {c:Nat→Nat} {B:Nat} {l:List Tk} {p:Ps} {w:World} (hx:p.ex.length≤1000000000) (hP:PM c B l p w) (hn:p.ru.length≤1000000000) :
 Calls Tryz.prog 120 #[.pointer (some ⟨B,0,none⟩)] w (RQ c B l w (lineR l p)):=by
 have hmf:=mkf
 have HP0:=zz (PW.start hP)
 have h0:0<w.heap.size:=Nat.lt_of_le_of_lt (Nat.zero_le _) HP0.out.ltB
 have hz0:w.heap.size≤w.heap.size:=Nat.le_refl _
 obtain ⟨X,HX0⟩:∃ X,Hid (X=lineR l p):=⟨_,rfl⟩
 rw [← HX0.out]
 clear hP
 go_enter Tryz.func120,Tryz.ntmps120
 go_wp2_with fail
 refine (isBindX HP0.out).mono ?_
 rintro r w1 ⟨hr,hp,hf⟩
 have HP1:=zz hp
 have hz1:w.heap.size≤w1.heap.size:=HP1.out.size
 have hy1:=hf.size
 clear hp hf
 cases hb:(isD l p.tk 2 && isK l (p.tk+1) sBack)
 ·rw [hb] at hr
  subst hr
  have HX2:=zz (HX0.out.trans (if_neg (by simp [hb])))
  clear hb
  go_wp2_with fail
  refine (callW HP1.out (fun c' hp'=>expr_rule hx hp' hn)).mono ?_
  intro r w3 hq
  rw [← HX2.out] at hq
  have HQ:=zz hq
  clear hq
  cases X with
  | inl n=>
   obtain ⟨rfl,h⟩:=HQ.out
   unfold stuckV at *
   go_wp2_with fail
   exact ⟨rfl,HQ.out⟩
  | inr q=>
   obtain ⟨rfl,h⟩:=HQ.out
   go_wp2_with fail
   go_end0
   exact HQ.out
 ·rw [hb] at hr
  subst hr
  have HX4:=zz (HX0.out.trans (if_pos hb))
  clear hb
  have ht:=(HP1.out).token
  go_wp2_with fail
  refine (nameX HP1.out).mono ?_
  rintro r w5 (⟨rfl,hk,hp⟩ | ⟨rfl,hk,hp,hf⟩)
  ·have HR:Hid (RQ c B l w X (.panicked stuckV) w5):=by
    show RQ c B l w X (.panicked stuckV) w5
    rw [HX4.out.trans (take_st hk)]
    exact hp.stuck rfl
   clear hk hp
   unfold stuckV at *
   go_wp2_with fail
   exact ⟨rfl,HR.out⟩
  have HX5:=zz (HX4.out.trans (take_go hk))
  have HP5:=zz hp
  have hz5:w.heap.size≤w5.heap.size:=HP5.out.size
  have hy5:=hf.size
  clear hk hp hf
  go_wp2_with fail
  refine (bindsX HP5.out 13 _ (ht _).1).mono ?_
  rintro r w6 ⟨pn,rfl,hso,hsm,hp,hf⟩
  have HP6:=zz hp
  have hz6:w.heap.size≤w6.heap.size:=HP6.out.size
  have hy6:=hf.size
  clear hp hf
  have HSO:=zz hso
  have HSM:=zz hsm
  clear hso hsm
  go_wp2_with fail
  refine (makingX HP6.out (pn:=pn) (cn:=1) (bindT 13 (tkAt l p.tk).tx) 0 (Nat.zero_le _) hx (by simp [bindT]) (by simp [bindT]) HSO.out HSM.out).mono ?_
  rintro r w7 ⟨e,bp7,bf7,rfl,hc,hlt,hle,hp,hf⟩
  have HP7:=zz hp
  have hz7:w.heap.size≤w7.heap.size:=HP7.out.size
  have hy7:=hf.size
  have HM_7:=zz hc
  clear hp hf hc
  go_wp2_with fail
  refine (laterX HP7.out sBack e (by omega)).mono ?_
  rintro r w8 ⟨b18,b28,rfl,hc,hp,hf⟩
  have HP8:=zz hp
  have hz8:w.heap.size≤w8.heap.size:=HP8.out.size
  have hy8:=hf.size
  have HM_8:=zz (HM_7.out.keep hf)
  have HL_8:=zz hc
  clear hp hf hc
  go_wp2_with fail
  refine (thenX (m:=3) HP8.out [rLater sBack,r0 10,rMake (bindT 13 (tkAt l p.tk).tx) p.ex.length] e (10+(p.ru.length+0)) hn rfl (by decide) (by omega) ?rus).mono ?_
  case rus=>exact ⟨HL_8.out.ruv,⟨by decide,by decide,rfl⟩,HM_8.out.ruv rfl,trivial⟩
  rintro r w9 ⟨rfl,hq⟩
  have HQ:=zz hq
  clear hq
  go_wp2_with fail
  go_end0
  rw [HX5.out]
  exact ⟨rfl,HQ.out⟩
theorem info27:(Tryz.prog.info? 27).map (fun i=>(i.zero,i.size,i.bytes))=some (some (.agg #[.int .i64 0,.string ⟨#[]⟩,.int .i64 0,.slice none 0 0,.slice none 0 0]),5,80):=by kernel_rfl
theorem TrIn.one {P:Nat→Prop} {w:World} {t:Tr} {ds:List Value} (h:TrIn P w t ds):ds.length=5∧∀ u ∈ ds,u.oneCell'=true:=by
 rw [TrIn_iff] at h
 obtain ⟨pn,cn,pk,ck,rfl,_⟩:=h
 exact ⟨rfl,by simp [Value.oneCell']⟩
theorem flat_one' {R:Nat→Tr→List Value→Prop} {L:List (List Value)} {l:List Tr} (hl:L.length=l.length) (h:∀ i t,l[i]?=some t→∃ ds,L[i]?=some ds∧R i t ds) (h1:∀ i t ds,R i t ds→∀ u ∈ ds,u.oneCell'=true):∀ u ∈ L.flatten,u.oneCell'=true:=by
 intro u hu
 obtain ⟨ds,hd,hu⟩:=List.mem_flatten.1 hu
 obtain ⟨i,hi,rfl⟩:=List.getElem_of_mem hd
 obtain ⟨ds,h2,h3⟩:=h i l[i] (by simp)
 rw [List.getElem?_eq_getElem hi] at h2
 cases h2
 exact h1 _ _ _ h3 u hu
theorem add_none (b o j:Nat):(⟨b,o,none⟩:Addr).add j=⟨b,o+j,none⟩:=by unfold Addr.add;split <;> simp_all
theorem making1_any {c:Nat→Nat} {B:Nat} {l:List Tk} {p:Ps} {w:World} {e bp bf:Nat} {t:Tr} {n0:Nat} (hP:PM c B l p w) (hR:RuV B c w p.ru.length (.func (.func 173) #[] #[bx e,bx bp,bx bf]) (rMake t n0)) (hn:n0<p.ex.length) (hx:p.ex.length≤1000000000) :
 Calls Tryz.prog 173 #[.pointer (some ⟨e,0,none⟩),.pointer (some ⟨bp,0,none⟩),.pointer (some ⟨bf,0,none⟩)] w (RQ c B l w (makeR t n0 p)):=by
 obtain ⟨tp,tc,vr,ve,vs,vf,vd,vp,hS0⟩:=hP
 obtain ⟨e',bp',bf',pn,cn,hv,ce,cp,cf,he,hp,hf,t1,t2,t3,t4⟩:=hR
 obtain ⟨rfl,rfl,rfl⟩:e=e'∧bp=bp'∧bf=bf':=by simpa using hv
 clear hv
 simp only [rMake] at ce he hf t1 t2 t3 t4
 obtain ⟨L,k1,k2,k3,k4,k5⟩:=hS0.exs
 obtain ⟨g,cq,rfl,_,hgl⟩:=k3.form (by omega)
 have hcq:p.ex.length≤cq:=by
  rcases k3.2 with ⟨h,_⟩ | ⟨g',cap,cur,h,_,_,r1,_⟩
  ·cases h
  ·cases h;exact r1
 have cg:c g=3:=k4 g rfl
 have hBl:=hS0.hold.lt
 have cB:=hS0.colB
 have neB:e≠B:=fun h=>by rw [h,cB] at ce;omega
 have neg:e≠g:=fun h=>by rw [h,cg] at ce;omega
 have nBg:B≠g:=fun h=>by rw [h,cg] at cB;omega
 have npB:bp≠B:=fun h=>by rw [h,cB] at cp;omega
 have nfB:bf≠B:=fun h=>by rw [h,cB] at cf;omega
 have npe:bp≠e:=fun h=>by rw [h,ce] at cp;omega
 have nfe:bf≠e:=fun h=>by rw [h,ce] at cf;omega
 have npg:bp≠g:=fun h=>by rw [h,cg] at cp;omega
 have nfg:bf≠g:=fun h=>by rw [h,cg] at cf;omega
 have HRC:Hid (∀ j v,L.flatten[j]?=some v→w.cell? ⟨g,j,none⟩=some v):=fun j v hj=>row_cell k3 hj
 have HO:Hid (∀ u ∈ L.flatten,u.oneCell'=true):=flat_one' k1 k5 fun i t ds h=>h.one.2
 have HFL:Hid (L.flatten.length=L.length * 5):=flatten_len k2
 have HFD:Hid (L.flatten.drop (n0 * 5)=(L.drop n0).flatten):=flatten_drop n0 k2
 have HS:=zz hS0
 have HE:=zz he
 have HPB:=zz hp
 have HFB:=zz hf
 have HBB:=zz hS0.hold
 have HK3:=zz k3
 have HT3:=zz t3
 have HT4:=zz t4
 have HK1:=zz k1
 have HK2:=zz k2
 have HK5:=zz k5
 have hLn:L.length=p.ex.length:=k1
 have c0:=he.cell 4
 have c1:=hp.cell 0
 have c2:=hS0.hold.cell 3
 have c3:=hf.cell 0
 simp only [lGA,lGS,lGZ] at c0 c1 c2 c3
 obtain ⟨i0,hi,hz0,hz1,hz2⟩:=info_parts info27
 have hlt1:(n0:Int)≤(p.ex.length:Int):=by omega
 have hlt2:n0≤p.ex.length:=by omega
 have hlt3:n0≤cq:=by omega
 have hlt4:(n0:Int)≤(cq:Int):=by omega
 have hlt5:cq≠n0:=by omega
 have HX:Hid (makeR t n0 p=.inr { p with ex:=p.ex.take n0 ++ [{ t with ks:=p.ex.drop n0 }] }):=rfl
 generalize makeR t n0 p=X at *
 obtain ⟨n,hnn⟩:∃ n,n=p.ex.length:=⟨_,rfl⟩
 rw [← hnn] at c2 hn hx hlt1 hlt2 hcq hLn
 have HNN:=zz hnn
 clear hS0 he hp hf k1 k2 k3 k4 k5 t3 t4 hnn
 go_enter Tryz.func173,Tryz.ntmps173
 go_wp2_with fail
 refine wp_region_noPanic ?_
 refine region_J 11 (N:=9) (S:=(fun W':World=>W'.cell? ⟨e,4,none⟩=some (.slice none 0 0)∧W'.cell? ⟨bp,0,none⟩=some (.pointer (some ⟨B,0,none⟩))∧W'.cell? ⟨B,3,none⟩=some (.slice (some ⟨g,0,none⟩) n cq)∧W'.cell? ⟨bf,0,none⟩=some (.int .i64 n0))) (by kernel_rfl) (by kernel_rfl) ?_
 have hS:(fun W':World=>W'.cell? ⟨e,4,none⟩=some (.slice none 0 0)∧W'.cell? ⟨bp,0,none⟩=some (.pointer (some ⟨B,0,none⟩))∧W'.cell? ⟨B,3,none⟩=some (.slice (some ⟨g,0,none⟩) n cq)∧W'.cell? ⟨bf,0,none⟩=some (.int .i64 n0)) w.drew:=⟨c0,c1,c2,c3⟩
 refine take_E 0 3 (.pointer (some ⟨e,4,none⟩)) rfl (Or.inl ⟨by rfl,fun W' hW=>by obtain ⟨s0,s1,s2,s3⟩:=hW;go_simp⟩) hS ?_
 refine take_E 1 4 (.slice none 0 0) rfl (Or.inl ⟨by rfl,fun W' hW=>by obtain ⟨s0,s1,s2,s3⟩:=hW;go_simp⟩) hS ?_
 refine take_E 2 5 (.pointer (some ⟨B,0,none⟩)) rfl (Or.inl ⟨by rfl,fun W' hW=>by obtain ⟨s0,s1,s2,s3⟩:=hW;go_simp⟩) hS ?_
 refine take_E 3 6 (.pointer (some ⟨B,0,none⟩)) rfl (Or.inl ⟨by rfl,fun W' hW=>by obtain ⟨s0,s1,s2,s3⟩:=hW;go_simp⟩) hS ?_
 refine take_E 4 7 (.pointer (some ⟨B,3,none⟩)) rfl (Or.inl ⟨by rfl,fun W' hW=>by obtain ⟨s0,s1,s2,s3⟩:=hW;go_simp⟩) hS ?_
 refine take_E 5 8 (.slice (some ⟨g,0,none⟩) n cq) rfl (Or.inl ⟨by rfl,fun W' hW=>by obtain ⟨s0,s1,s2,s3⟩:=hW;go_simp⟩) hS ?_
 refine take_E 6 9 (.int .i64 n0) rfl (Or.inl ⟨by rfl,fun W' hW=>by obtain ⟨s0,s1,s2,s3⟩:=hW;go_simp⟩) hS ?_
 refine take_E 7 10 (.slice (some ⟨g,n0 * 5,none⟩) (n - n0) (cq - n0)) rfl (Or.inl ⟨by rfl,fun W' hW=>by obtain ⟨s0,s1,s2,s3⟩:=hW;go_simp⟩) hS ?_
 simp only [Act.put,lSI,lSZ,lSS]
 refine ready_E [8] ?_
 intro j hj
 obtain rfl:=List.mem_singleton.1 hj
 refine op_E fun K hK=>?_
 have hnews:∀ j u,((L.drop n0).flatten)[j]?=some u→w.drew.cell? ((⟨g,n0 * 5,none⟩:Addr).add j)=some u:=fun j u hj=>by
  rw [add_none]
  refine HRC.out (n0 * 5+j) u ?_
  rw [← HFD.out,List.getElem?_drop] at hj
  exact hj
 have hdl:((L.drop n0).flatten).length=(n - n0) * 5:=by rw [← HFD.out,List.length_drop,HFL.out,hLn];omega
 have hdo:∀ u ∈ (L.drop n0).flatten,u.oneCell'=true:=fun u hu=>HO.out u (by rw [← HFD.out] at hu;exact List.mem_of_mem_drop hu)
 refine wp_append_lies _ _ _ _ (by rfl) 0 27 i0 _ 5 80 Tryz.underlying25 hi hz0 hz1 hz2 rfl (by omega) (.slice none 0 0) 0 [] (by rfl) (World.ownsRow_nil _ _ _ _) ⟨g,n0 * 5,none⟩ (n - n0) (cq - n0) ((L.drop n0).flatten) (by rfl) hdl hnews hdo (by omega) (by unfold maxLen;omega) (by omega) (by omega) w.heap.size rfl ?_
 intro gg cap W2 hown hgrow hat hlt2
 rw [Nat.zero_add,List.nil_append] at hown
 simp only [Nat.zero_add] at hown ⊢
 obtain rfl:gg=w.heap.size:=by
  rcases hat with h | h
  ·cases h
  ·exact h
 have B2:Below w.heap.size w W2:=⟨hgrow.os,hgrow.tape,hgrow.output,hgrow.size,fun b hb=>hgrow.block b hb (by simp [Value.ownBlock])⟩
 have hbel:∀ {b:Nat} {C:Array Value} {t:TypeId},Hold b C t w→Hold b C t W2:=fun h=>h.below B2 h.lt
 have HE2:=zz (hbel HE.out)
 have HP2:=zz (hbel HPB.out)
 have HF2:=zz (hbel HFB.out)
 have HB2:=zz (hbel HBB.out)
 have HB22:=zz B2
 have HOW:=zz hown
 have d0:=HE2.out.cell 4
 have d1:=HP2.out.cell 0
 have d2:=HB2.out.cell 3
 have d3:=HF2.out.cell 0
 have y0:=HE2.out.frozen 4
 simp only [lGA,lGS,lGZ] at d0 d1 d2 d3
 rw [← HNN.out] at d2
 have hel:e<w.heap.size:=HE.out.lt
 have hgl2:w.heap.size<W2.heap.size:=hlt2
 refine hK _ _ ⟨fun _=>⟨d0,d1,d2,d3⟩,?_⟩
 clear hK K hgrow hat hown B2 hbel hnews hS
 refine ready_E [9] ?_
 intro j hj
 obtain rfl:=List.mem_singleton.1 hj
 refine op_E fun K hK=>?_
 go_simp
 refine hK _ _ ⟨fun h=>absurd h (by omega),?_⟩
 clear hK K
 refine ready_E [10] ?_
 intro j hj
 obtain rfl:=List.mem_singleton.1 hj
 refine op_E fun K hK=>?_
 go_simp
 refine hK _ _ ⟨fun h=>absurd h (by omega),?_⟩
 clear hK K
 refine done_J (by kernel_rfl) ?_ _
 refine NoPanic.normal ?_
 have HE3:=zz (HE2.out.set 4 (.slice (some ⟨w.heap.size,0,none⟩) (n - n0) cap))
 have HP3:=zz (HP2.out.other npe 4 (.slice (some ⟨w.heap.size,0,none⟩) (n - n0) cap))
 have HF3:=zz (HF2.out.other nfe 4 (.slice (some ⟨w.heap.size,0,none⟩) (n - n0) cap))
 have HB3:=zz (HB2.out.other neB.symm 4 (.slice (some ⟨w.heap.size,0,none⟩) (n - n0) cap))
 have HK33:Hid (∀ b,b<w.heap.size→b≠e→(W2.setCell ⟨e,4,none⟩ (.slice (some ⟨w.heap.size,0,none⟩) (n - n0) cap)).heap[b]?=w.heap[b]?):=fun b hb hne=>(Below.heap_setCell _ _ _ b hne).trans (HB22.out.block b hb)
 have HOW3:Hid ((W2.setCell ⟨e,4,none⟩ (.slice (some ⟨w.heap.size,0,none⟩) (n - n0) cap)).ownsRow 0 27 5 (.slice (some ⟨w.heap.size,0,none⟩) (n - n0) cap) (n - n0) ((L.drop n0).flatten)):=row_keep HOW.out fun g' hg' _=>by
  have:w.heap.size=g':=by simpa [Value.ownBlock] using hg'
  exact Below.heap_setCell _ _ _ g' (fun e'=>by have e'':g'=e:=e';omega)
 have HKO:Hid ((W2.setCell ⟨e,4,none⟩ (.slice (some ⟨w.heap.size,0,none⟩) (n - n0) cap)).os=w.os∧(W2.setCell ⟨e,4,none⟩ (.slice (some ⟨w.heap.size,0,none⟩) (n - n0) cap)).tape=w.tape∧(W2.setCell ⟨e,4,none⟩ (.slice (some ⟨w.heap.size,0,none⟩) (n - n0) cap)).output=w.output):=⟨HB22.out.os,HB22.out.tape,HB22.out.output⟩
 have hz3:w.heap.size<(W2.setCell ⟨e,4,none⟩ (.slice (some ⟨w.heap.size,0,none⟩) (n - n0) cap)).heap.size:=by simpa using hgl2
 generalize (W2.setCell ⟨e,4,none⟩ (.slice (some ⟨w.heap.size,0,none⟩) (n - n0) cap))=W3 at *
 have HRW:Hid (W3.ownsRow 0 27 5 (.slice (some ⟨g,0,none⟩) n cq) n L.flatten):=by
  have h:=HK3.out
  rw [← HNN.out] at h
  exact row_keep h fun g' hg' hl=>HK33.out g' hl (fun e'=>by
   have:g=g':=by simpa [Value.ownBlock] using hg'
   omega)
 have HRC2:=zz (row_cut HRW.out (Nat.le_of_lt hn))
 have d0:=HE3.out.cell 0
 have d4:=HE3.out.cell 1
 have d5:=HE3.out.cell 2
 have d6:=HE3.out.cell 3
 have d7:=HE3.out.cell 4
 have d1:=HP3.out.cell 0
 have d2:=HB3.out.cell 3
 have d3:=HF3.out.cell 0
 simp only [lSI,lSZ,lSS,lGA,lGS,lGZ] at d0 d1 d2 d3 d4 d5 d6 d7
 rw [← HNN.out] at d2
 have hel3:e<W3.heap.size:=HE3.out.lt
 clear HE2 HP2 HF2 HB2 HB22 HOW hgl2
 clear y0
 go_wp2_with fail
 refine wp_region_noPanic ?_
 refine region_J 13 (N:=10) (S:=(fun W':World=>W'.cell? ⟨bp,0,none⟩=some (.pointer (some ⟨B,0,none⟩))∧W'.cell? ⟨B,3,none⟩=some (.slice (some ⟨g,0,none⟩) n cq)∧W'.cell? ⟨bf,0,none⟩=some (.int .i64 n0)∧W'.cell? ⟨e,0,none⟩=some (.int .i64 t.kd)∧W'.cell? ⟨e,1,none⟩=some (.string (S t.nm))∧W'.cell? ⟨e,2,none⟩=some (.int .i64 t.nu)∧W'.cell? ⟨e,3,none⟩=some (.slice pn t.ns.length cn)∧W'.cell? ⟨e,4,none⟩=some (.slice (some ⟨w.heap.size,0,none⟩) (n - n0) cap))) (by kernel_rfl) (by kernel_rfl) ?_
 have hS:(fun W':World=>W'.cell? ⟨bp,0,none⟩=some (.pointer (some ⟨B,0,none⟩))∧W'.cell? ⟨B,3,none⟩=some (.slice (some ⟨g,0,none⟩) n cq)∧W'.cell? ⟨bf,0,none⟩=some (.int .i64 n0)∧W'.cell? ⟨e,0,none⟩=some (.int .i64 t.kd)∧W'.cell? ⟨e,1,none⟩=some (.string (S t.nm))∧W'.cell? ⟨e,2,none⟩=some (.int .i64 t.nu)∧W'.cell? ⟨e,3,none⟩=some (.slice pn t.ns.length cn)∧W'.cell? ⟨e,4,none⟩=some (.slice (some ⟨w.heap.size,0,none⟩) (n - n0) cap)) W3.drew:=⟨d1,d2,d3,d0,d4,d5,d6,d7⟩
 refine take_E 0 13 (.pointer (some ⟨B,0,none⟩)) rfl (Or.inl ⟨by rfl,fun W' hW=>by obtain ⟨s0,s1,s2,s3,s4,s5,s6,s7⟩:=hW;go_simp⟩) hS ?_
 refine take_E 1 14 (.pointer (some ⟨B,0,none⟩)) rfl (Or.inl ⟨by rfl,fun W' hW=>by obtain ⟨s0,s1,s2,s3,s4,s5,s6,s7⟩:=hW;go_simp⟩) hS ?_
 refine take_E 2 15 (.pointer (some ⟨B,0,none⟩)) rfl (Or.inl ⟨by rfl,fun W' hW=>by obtain ⟨s0,s1,s2,s3,s4,s5,s6,s7⟩:=hW;go_simp⟩) hS ?_
 refine take_E 3 16 (.pointer (some ⟨B,3,none⟩)) rfl (Or.inl ⟨by rfl,fun W' hW=>by obtain ⟨s0,s1,s2,s3,s4,s5,s6,s7⟩:=hW;go_simp⟩) hS ?_
 refine take_E 4 17 (.slice (some ⟨g,0,none⟩) n cq) rfl (Or.inl ⟨by rfl,fun W' hW=>by obtain ⟨s0,s1,s2,s3,s4,s5,s6,s7⟩:=hW;go_simp⟩) hS ?_
 refine take_E 5 18 (.int .i64 n0) rfl (Or.inl ⟨by rfl,fun W' hW=>by obtain ⟨s0,s1,s2,s3,s4,s5,s6,s7⟩:=hW;go_simp⟩) hS ?_
 refine take_E 6 19 (.slice (some ⟨g,0,none⟩) n0 cq) rfl (Or.inl ⟨by rfl,fun W' hW=>by obtain ⟨s0,s1,s2,s3,s4,s5,s6,s7⟩:=hW;go_simp⟩) hS ?_
 refine take_E 7 20 (.agg #[.int .i64 t.kd,.string (S t.nm),.int .i64 t.nu,.slice pn t.ns.length cn,.slice (some ⟨w.heap.size,0,none⟩) (n - n0) cap]) rfl (Or.inl ⟨by rfl,fun W' hW=>by obtain ⟨s0,s1,s2,s3,s4,s5,s6,s7⟩:=hW;go_simp⟩) hS ?_
 simp only [Act.put,lSI,lSZ,lSS]
 refine ready_E [8] ?_
 intro j hj
 obtain rfl:=List.mem_singleton.1 hj
 refine op_E fun K hK=>?_
 go_simp
 have HE4:=zz (HE3.out.alloc (.cells #[.int .i64 t.kd,.string (S t.nm),.int .i64 t.nu,.slice pn t.ns.length cn,.slice (some ⟨w.heap.size,0,none⟩) (n - n0) cap] 27))
 have HP4:=zz (HP3.out.alloc (.cells #[.int .i64 t.kd,.string (S t.nm),.int .i64 t.nu,.slice pn t.ns.length cn,.slice (some ⟨w.heap.size,0,none⟩) (n - n0) cap] 27))
 have HF4:=zz (HF3.out.alloc (.cells #[.int .i64 t.kd,.string (S t.nm),.int .i64 t.nu,.slice pn t.ns.length cn,.slice (some ⟨w.heap.size,0,none⟩) (n - n0) cap] 27))
 have HB4:=zz (HB3.out.alloc (.cells #[.int .i64 t.kd,.string (S t.nm),.int .i64 t.nu,.slice pn t.ns.length cn,.slice (some ⟨w.heap.size,0,none⟩) (n - n0) cap] 27))
 have x0:=HE4.out.cell 0
 have x4:=HE4.out.cell 1
 have x5:=HE4.out.cell 2
 have x6:=HE4.out.cell 3
 have x7:=HE4.out.cell 4
 have x1:=HP4.out.cell 0
 have x2:=HB4.out.cell 3
 have x3:=HF4.out.cell 0
 simp only [lSI,lSZ,lSS,lGA,lGS,lGZ] at x0 x1 x2 x3 x4 x5 x6 x7
 rw [← HNN.out] at x2
 refine hK _ _ ⟨fun _=>⟨x1,x2,x3,x0,x4,x5,x6,x7⟩,?_⟩
 clear hK K
 refine ready_E [9] ?_
 intro j hj
 obtain rfl:=List.mem_singleton.1 hj
 refine op_E fun K hK=>?_
 refine wp_append_lies _ _ _ _ (by rfl) 0 27 i0 _ 5 80 Tryz.underlying25 hi hz0 hz1 hz2 rfl (by omega) (.slice (some ⟨g,0,none⟩) n0 cq) n0 (L.flatten.take (n0 * 5)) (by rfl) ((HRC2.out.alloc (.cells #[.int .i64 t.kd,.string (S t.nm),.int .i64 t.nu,.slice pn t.ns.length cn,.slice (some ⟨w.heap.size,0,none⟩) (n - n0) cap] 27)).drew) ⟨W3.heap.size,0,none⟩ 1 1 [.int .i64 t.kd,.string (S t.nm),.int .i64 t.nu,.slice pn t.ns.length cn,.slice (some ⟨w.heap.size,0,none⟩) (n - n0) cap] (by rfl) (by rfl) (World.news_of_block (cs:=#[.int .i64 t.kd,.string (S t.nm),.int .i64 t.nu,.slice pn t.ns.length cn,.slice (some ⟨w.heap.size,0,none⟩) (n - n0) cap]) (t:=27) (fr:=(0,0)) (heap_alloc_new W3 _)) (by simp [Value.oneCell']) (by omega) (by unfold maxLen;omega) (by omega) (by omega) (W3.heap.size+1) (by simp) ?_
 intro g2 cap2 W5 hown5 hgrow5 hat5 hlt5'
 have kp5:∀ b,b<W3.heap.size→b≠g→W5.heap[b]?=W3.heap[b]?:=fun b hb hne=>(hgrow5.block b (by simp;omega) (by simpa [Value.ownBlock] using hne)).trans (Below.heap_alloc W3 _ b hb)
 have hsz5:W3.heap.size+1≤W5.heap.size:=by have:=hgrow5.size;simpa using this
 have hold5:∀ {b:Nat} {C:Array Value} {t:TypeId},Hold b C t W3→b≠g→Hold b C t W5:=fun h hne=>(kp5 _ h.lt hne).trans h
 have HB5:=zz (hold5 HB3.out nBg)
 have u1:=(hold5 HP3.out npg).cell 0
 have u2:=HB5.out.cell 3
 have u3:=(hold5 HF3.out nfg).cell 0
 have hE5:=hold5 HE3.out neg
 have u0:=hE5.cell 0
 have u4:=hE5.cell 1
 have u5:=hE5.cell 2
 have u6:=hE5.cell 3
 have u7:=hE5.cell 4
 have uz:=HB5.out.frozen 3
 simp only [lSI,lSZ,lSS,lGA,lGS,lGZ] at u0 u1 u2 u3 u4 u5 u6 u7
 rw [← HNN.out] at u2
 have HO5:=zz hown5
 have HG5:Hid (g2=g∨W3.heap.size<g2):=by
  rcases hat5 with h | h
  ·left;exact (by simpa [Value.ownBlock] using h:g=g2).symm
  ·right;omega
 have HKK5:Hid (∀ b,b<W3.heap.size→b≠g→W5.heap[b]?=W3.heap[b]?):=kp5
 have HKO5:Hid (W5.os=w.os∧W5.tape=w.tape∧W5.output=w.output):=⟨hgrow5.os.trans HKO.out.1,hgrow5.tape.trans HKO.out.2.1,hgrow5.output.trans HKO.out.2.2⟩
 refine hK _ _ ⟨fun _=>⟨u1,u2,u3,u0,u4,u5,u6,u7⟩,?_⟩
 clear hK K hown5 hgrow5 hat5 kp5 hold5 hE5
 refine ready_E [10] ?_
 intro j hj
 obtain rfl:=List.mem_singleton.1 hj
 refine op_E fun K hK=>?_
 go_simp
 refine hK _ _ ⟨fun h=>absurd h (by omega),?_⟩
 clear hK K
 refine ready_E [11] ?_
 intro j hj
 obtain rfl:=List.mem_singleton.1 hj
 refine op_E fun K hK=>?_
 go_simp
 refine hK _ _ ⟨fun h=>absurd h (by omega),?_⟩
 clear hK K
 refine ready_E [12] ?_
 intro j hj
 obtain rfl:=List.mem_singleton.1 hj
 refine op_E fun K hK=>?_
 go_simp
 refine hK _ _ ⟨fun h=>absurd h (by omega),?_⟩
 clear hK K
 refine done_J (by kernel_rfl) ?_ _
 refine NoPanic.normal ?_
 go_wp2_with fail
 go_end0
 rw [HX.out]
 have HFK:∀ b,b<w.heap.size→b≠e→b≠g→b≠B→(W5.setCell ⟨B,3,none⟩ (.slice (some ⟨g2,0,none⟩) (n0+1) cap2)).heap[b]?=w.heap[b]?:=fun b hb h1 h2 h3=>
  (Below.heap_setCell _ _ _ b h3).trans ((HKK5.out b (by omega) h2).trans (HK33.out b hb h1))
 have hc:∀ b,b<w.heap.size→(fun b=>if b<w.heap.size then c b else if b=w.heap.size then 0 else 3) b=c b:=fun b hb=>by simp [hb]
 have hcn:(fun b=>if b<w.heap.size then c b else if b=w.heap.size then 0 else 3) w.heap.size=0:=by simp
 have s:Step c (fun b=>if b<w.heap.size then c b else if b=w.heap.size then 0 else 3) (fun k=>k≠1∧k≠3∧k≠10+p.ru.length) w (W5.setCell ⟨B,3,none⟩ (.slice (some ⟨g2,0,none⟩) (n0+1) cap2)):=
  ⟨⟨HKO5.out.1,HKO5.out.2.1,HKO5.out.2.2,by simp;omega,fun b hb=>HFK b hb.1 (fun e'=>hb.2.2.2 (by rw [e'];exact ce)) (fun e'=>hb.2.2.1 (by rw [e'];exact cg)) (fun e'=>hb.2.1 (by rw [e'];exact cB))⟩,fun b hb _=>hc b hb⟩
 have hD0:(fun k=>k≠1∧k≠3∧k≠10+p.ru.length) 0:=⟨by decide,by decide,by omega⟩
 refine ⟨rfl,_,⟨tp,tc,vr,_,vs,vf,vd,vp,HB5.out.set 3 _,(hc B hBl).trans cB,HS.out.ktoks s hD0,HS.out.len,HS.out.at',HS.out.krul s hD0 ⟨by decide,by decide,by omega⟩ (fun i hi=>⟨by omega,by omega,by omega⟩),?_,HS.out.ksgs s hD0 ⟨by decide,by decide,by omega⟩,HS.out.kfms s hD0 ⟨by decide,by decide,by omega⟩,HS.out.kdts s hD0 ⟨by decide,by decide,by omega⟩,HS.out.kdfs s hD0 ⟨by decide,by decide,by omega⟩⟩,s.imm hD0,s.kimm hD0⟩
 have hcut:=HS.out.exs
 have hlt0:(p.ex.take n0).length=n0:=by rw [List.length_take,← HNN.out];omega
 refine RowOf.push (w:=w) (c:=c) (R:=fun _ t ds=>TrIn (ImB B c w) w t ds) (L:=L.take n0) (by rw [List.length_take,hlt0,hLn];omega) (fun ds hd=>HK2.out ds (List.mem_of_mem_take hd)) (fun i t' ht=>?_) (ds:=[.int .i64 t.kd,.string (S t.nm),.int .i64 t.nu,.slice pn t.ns.length cn,.slice (some ⟨w.heap.size,0,none⟩) (n - n0) cap]) rfl ?_ ?_ (fun i t' ds _ h=>TrIn.keep (s.kimmB hD0) (s.immB hD0) t' ds h) ?_
 ·rw [List.getElem?_take] at ht ⊢
  split at ht
  ·rename_i hlt
   rw [if_pos hlt]
   exact HK5.out i t' ht
  ·cases ht
 ·rw [hlt0,← flatten_take n0 HK2.out]
  exact row_other HO5.out HB5.out (by decide) 3 _
 ·intro g' hg'
  have:g2=g':=by simpa [Value.ownBlock] using hg'
  subst this
  rcases HG5.out with h | h
  ·rw [h]
   exact (hc g hgl).trans cg
  ·simp [show ¬ g2<w.heap.size by omega,show ¬ g2=w.heap.size by omega]
 ·rw [TrIn_iff]
  have hkl:(p.ex.drop n0).length=n - n0:=by rw [List.length_drop,← HNN.out]
  refine ⟨pn,cn,some ⟨w.heap.size,0,none⟩,cap,by rw [hkl],t1,t2,HT3.out,?_,(HT4.out.keep (s.kimmB hD0)).mono (s.immB hD0),.inr ⟨w.heap.size,0,rfl,⟨⟨by simp;omega,hcn⟩,hBl⟩,fun i t' ht=>?_⟩⟩
  ·rw [hkl]
   rcases HOW3.out.2 with ⟨h,_⟩ | ⟨g',cap',cur,h,_,_,r1,r2,_⟩
   ·cases h
   ·cases h
    exact ⟨r1,by unfold maxLen at r2;omega,fun h=>by cases h⟩
  ·rw [List.getElem?_drop] at ht
   obtain ⟨ds,h1,h2⟩:=HK5.out (n0+i) t' ht
   have hd5:=h2.one.1
   refine ⟨ds,hd5,fun j d hj=>?_,TrIn.keep (s.kimmB hD0) (s.immB hD0) t' ds h2⟩
   have hjl:=(List.getElem?_eq_some_iff.1 hj).1
   have hcell:W3.cell? ⟨w.heap.size,i * 5+j,none⟩=some d:=by
    refine row_cell HOW3.out ?_
    rw [flatten_at (size:=5) (fun ds hd=>HK2.out ds (List.mem_of_mem_drop hd)) (by rw [List.getElem?_drop];exact h1) (by omega)]
    exact hj
   rw [Nat.zero_add]
   refine Eq.trans ?_ hcell
   refine World.cell?_of_block (a:=⟨w.heap.size,i * 5+j,none⟩) ?_
   exact (Below.heap_setCell _ _ _ w.heap.size (by show w.heap.size≠B;omega)).trans (HKK5.out w.heap.size hz3 (by omega))
theorem PW.old {c:Nat→Nat} {B:Nat} {l:List Tk} {w:World} {p:Ps} {W:World} (h:PW c B l w p W) {b:Nat} {C:Array Value} {t:TypeId} (hh:Hold b C t w) (hc:c b≠1):Hold b C t W:=(h.kept.block b ⟨hh.lt,fun e=>hc (by rw [e];exact h.colB)⟩).trans hh
theorem more1_any {c:Nat→Nat} {B:Nat} {l:List Tk} {p:Ps} {w:World} {b1 b2 b3:Nat} {s:List UInt8} {j:Nat} (hP:PM c B l p w) (hn:p.ru.length≤1000000000) (hj:j≤21∧j≠13) (hR:RuV B c w p.ru.length (.func (.func 176) #[] #[bx b1,bx b2,bx b3]) (rMore s j)) :
 Calls Tryz.prog 176 #[.pointer (some ⟨b1,0,none⟩),.pointer (some ⟨b2,0,none⟩),.pointer (some ⟨b3,0,none⟩)] w (RQ c B l w (moreR l s j p)):=by
 obtain ⟨b1',b2',b3',hv,c1,c2,c3,h1,h2,h3⟩:=hR
 obtain ⟨rfl,rfl,rfl⟩:b1=b1'∧b2=b2'∧b3=b3':=by simpa using hv
 clear hv
 simp only [rMore] at h2 h3
 have HP0:=zz (PW.start hP)
 have H1:=zz h1
 have H2:=zz h2
 have H3:=zz h3
 have a1:=h1.cell 0
 have a2:=h2.cell 0
 simp only [lGA,lGZ] at a1 a2
 obtain ⟨X,HX0⟩:∃ X,Hid (X=moreR l s j p):=⟨_,rfl⟩
 rw [← HX0.out]
 have hz0:0<w.heap.size:=Nat.lt_of_le_of_lt (Nat.zero_le _) HP0.out.ltB
 clear hP h1 h2 h3
 go_enter Tryz.func176,Tryz.ntmps176
 go_wp2_with fail
 refine (isKeyX (n:=1) HP0.out [s] rfl (by decide)).mono ?_
 rintro r w1 ⟨hr,hp,hf⟩
 have HP1:=zz hp
 have e1:=(hp.old H1.out (by omega)).cell 0
 have e2:=(hp.old H2.out (by omega)).cell 0
 simp only [lGA,lGZ] at e1 e2
 clear hp hf
 rw [any1] at hr
 cases hb:isK l p.tk s
 ·rw [hb] at hr
  subst hr
  have HX1:=zz (HX0.out.trans (if_neg (by simp [hb])))
  clear hb
  go_wp2_with fail
  go_end0
  rw [HX1.out]
  exact HP1.out.done
 ·rw [hb] at hr
  subst hr
  have HX1:=zz (HX0.out.trans (if_pos hb))
  clear hb
  go_wp2_with fail
  refine (keyX HP1.out s).mono ?_
  rintro r w2 (⟨rfl,hk,hp⟩ | ⟨rfl,hk,hp,hf⟩)
  ·have HR:Hid (RQ c B l w X (.panicked stuckV) w2):=by
    show RQ c B l w X (.panicked stuckV) w2
    rw [HX1.out.trans (key_st hk)]
    exact hp.stuck rfl
   clear hk hp
   unfold stuckV at *
   go_wp2_with fail
   exact ⟨rfl,HR.out⟩
  have HX2:=zz (HX1.out.trans (key_go hk))
  have HP2:=zz hp
  have f1:=(hp.old H1.out (by omega)).cell 0
  have f2:=(hp.old H2.out (by omega)).cell 0
  have f3:=(hp.old H3.out (by omega)).cell 0
  simp only [lGA,lGZ] at f1 f2 f3
  have hz2:=hp.size
  clear hk hp hf a1 a2 e1 e2
  go_wp2_with fail
  refine wp_region_noPanic ?_
  refine region_J 8 (N:=8) (S:=(fun W':World=>W'.cell? ⟨b1,0,none⟩=some (.pointer (some ⟨B,0,none⟩))∧W'.cell? ⟨b2,0,none⟩=some (.string (S s))∧W'.cell? ⟨b3,0,none⟩=some (.func (.func (fnR j)) #[.pointer (some ⟨B,0,none⟩)] #[]))) (by kernel_rfl) (by kernel_rfl) ?_
  have hS:(fun W':World=>W'.cell? ⟨b1,0,none⟩=some (.pointer (some ⟨B,0,none⟩))∧W'.cell? ⟨b2,0,none⟩=some (.string (S s))∧W'.cell? ⟨b3,0,none⟩=some (.func (.func (fnR j)) #[.pointer (some ⟨B,0,none⟩)] #[])) w2.drew:=⟨f1,f2,f3⟩
  refine take_E 0 10 (.pointer (some ⟨B,0,none⟩)) rfl (Or.inl ⟨by rfl,fun W' hW=>by obtain ⟨s0,s1,s2⟩:=hW;go_simp⟩) hS ?_
  refine take_E 1 11 (.func (.func (fnR j)) #[.pointer (some ⟨B,0,none⟩)] #[]) rfl (Or.inl ⟨by rfl,fun W' hW=>by obtain ⟨s0,s1,s2⟩:=hW;go_simp⟩) hS ?_
  refine take_E 2 12 (.pointer (some ⟨B,0,none⟩)) rfl (Or.inl ⟨by rfl,fun W' hW=>by obtain ⟨s0,s1,s2⟩:=hW;go_simp⟩) hS ?_
  refine take_E 3 13 (.string (S s)) rfl (Or.inl ⟨by rfl,fun W' hW=>by obtain ⟨s0,s1,s2⟩:=hW;go_simp⟩) hS ?_
  refine take_E 4 14 (.func (.func (fnR j)) #[.pointer (some ⟨B,0,none⟩)] #[]) rfl (Or.inl ⟨by rfl,fun W' hW=>by obtain ⟨s0,s1,s2⟩:=hW;go_simp⟩) hS ?_
  simp only [Act.put,lSI,lSZ,lSS]
  refine ready_1 5 (op_E fun K hK=>?_)
  go_simp
  refine (moreX HP2.out.drew s j 0 (by show 0<w2.heap.size;omega)).mono ?_
  rintro r w3 ⟨q1,q2,q3,rfl,hc,hp,hf⟩
  have HP3:=zz hp
  have HC3:=zz hc
  have hz3:=hp.size
  have g1:=(hp.old H1.out (by omega)).cell 0
  have g2:=(hp.old H2.out (by omega)).cell 0
  have g3:=(hp.old H3.out (by omega)).cell 0
  simp only [lGA,lGZ] at g1 g2 g3
  refine hK _ _ ⟨fun _=>⟨g1,g2,g3⟩,?_⟩
  clear hK K hp hf hc
  refine ready_1 6 (op_E fun K hK=>?_)
  go_simp
  refine hK _ _ ⟨fun _=>⟨(World.cell?_of_block (Below.heap_alloc w3 _ b1 (by have:=H1.out.lt;show b1<_;omega))).trans g1,(World.cell?_of_block (Below.heap_alloc w3 _ b2 (by have:=H2.out.lt;show b2<_;omega))).trans g2,(World.cell?_of_block (Below.heap_alloc w3 _ b3 (by have:=H3.out.lt;show b3<_;omega))).trans g3⟩,?_⟩
  clear hK K
  refine ready_1 7 (op_E fun K hK=>?_)
  go_simp
  refine (thenX (m:=2) HP3.out [r0 j,rMore s j] 0 0 hn rfl (by decide) (by omega) ?rus).mono ?_
  case rus=>exact ⟨by
   show RuV B _ _ _ _ ⟨j,[],0,t0,0,[]⟩
   unfold RuV
   simp only
   split <;> first | omega | exact ⟨hj.1,hj.2,rfl⟩,HC3.out.ruv,trivial⟩
  rintro r w4 ⟨rfl,hq⟩
  have HQ:=zz hq
  obtain ⟨c4,_,_,kk⟩:=hq
  have old4:∀ {b:Nat} {C:Array Value} {t:TypeId},Hold b C t w→c b=0→Hold b C t w4:=fun hh hc=>(kk.block _ ⟨hh.lt,hc⟩).trans hh
  refine hK _ _ ⟨fun _=>⟨(old4 H1.out c1).cell 0,(old4 H2.out c2).cell 0,(old4 H3.out c3).cell 0⟩,?_⟩
  clear hK K kk old4
  refine done_J (by kernel_rfl) ?_ _
  refine NoPanic.normal ?_
  go_wp2_with fail
  go_end0
  rw [HX2.out]
  exact ⟨rfl,HQ.out⟩
end Go.Proofs.YtcnnlecjdkfdjaaGreatDoor
