/- Parts of the proof. -/
import Derived.Test.YtcnnlecjdkfdjaaGreatDoorR2
set_option linter.unusedVariables false
set_option linter.unusedSimpArgs false
set_option maxRecDepth 100000
set_option maxHeartbeats 8000000
namespace Go.Proofs.YtcnnlecjdkfdjaaGreatDoor
open Go.RowKit
theorem lam_rule {c:Nat→Nat} {B:Nat} {l:List Tk} {p:Ps} {w:World} (hx:p.ex.length≤1000000000) (hP:PM c B l p w) (hn:p.ru.length≤1000000000) :
 Calls Tryz.prog 58 #[.pointer (some ⟨B,0,none⟩)] w (RQ c B l w (lamR l p)):=by
 have hmf:=mkf
 have HP0:=zz (PW.start hP)
 have h0:0<w.heap.size:=Nat.lt_of_le_of_lt (Nat.zero_le _) HP0.out.ltB
 have hz0:w.heap.size≤w.heap.size:=Nat.le_refl _
 obtain ⟨X,HX0⟩:∃ X,Hid (X=lamR l p):=⟨_,rfl⟩
 rw [← HX0.out]
 clear hP
 go_enter Tryz.func58,Tryz.ntmps58
 go_wp2_with fail
 refine (keyX HP0.out sLam).mono ?_
 rintro r w1 (⟨rfl,hk,hp⟩ | ⟨rfl,hk,hp,hf⟩)
 ·have HR:Hid (RQ c B l w X (.panicked stuckV) w1):=by
   show RQ c B l w X (.panicked stuckV) w1
   rw [HX0.out.trans (key_st hk)]
   exact hp.stuck rfl
  clear hk hp
  unfold stuckV at *
  go_wp2_with fail
  exact ⟨rfl,HR.out⟩
 have HX1:=zz (HX0.out.trans (key_go hk))
 have HP1:=zz hp
 have hz1:w.heap.size≤w1.heap.size:=HP1.out.size
 have hy1:=hf.size
 clear hk hp hf
 have ht:=(HP1.out).token
 go_wp2_with fail
 refine (nameX HP1.out).mono ?_
 rintro r w2 (⟨rfl,hk,hp⟩ | ⟨rfl,hk,hp,hf⟩)
 ·have HR:Hid (RQ c B l w X (.panicked stuckV) w2):=by
   show RQ c B l w X (.panicked stuckV) w2
   rw [HX1.out.trans (take_st hk)]
   exact hp.stuck rfl
  clear hk hp
  unfold stuckV at *
  go_wp2_with fail
  exact ⟨rfl,HR.out⟩
 have HX2:=zz (HX1.out.trans (take_go hk))
 have HP2:=zz hp
 have hz2:w.heap.size≤w2.heap.size:=HP2.out.size
 have hy2:=hf.size
 clear hk hp hf
 go_wp2_with fail
 refine (bindsX HP2.out 4 _ (ht _).1).mono ?_
 rintro r w3 ⟨pn,rfl,hso,hsm,hp,hf⟩
 have HP3:=zz hp
 have hz3:w.heap.size≤w3.heap.size:=HP3.out.size
 have hy3:=hf.size
 clear hp hf
 have HSO:=zz hso
 have HSM:=zz hsm
 clear hso hsm
 go_wp2_with fail
 refine (makingX HP3.out (pn:=pn) (cn:=1) (bindT 4 (tkAt l (p.tk+1)).tx) 0 (Nat.zero_le _) hx (by simp [bindT]) (by simp [bindT]) HSO.out HSM.out).mono ?_
 rintro r w4 ⟨e,bp4,bf4,rfl,hc,hlt,hle,hp,hf⟩
 have HP4:=zz hp
 have hz4:w.heap.size≤w4.heap.size:=HP4.out.size
 have hy4:=hf.size
 have HM_4:=zz hc
 clear hp hf hc
 go_wp2_with fail
 refine (keyX HP4.out sArrow).mono ?_
 rintro r w5 (⟨rfl,hk,hp⟩ | ⟨rfl,hk,hp,hf⟩)
 ·have HR:Hid (RQ c B l w X (.panicked stuckV) w5):=by
   show RQ c B l w X (.panicked stuckV) w5
   rw [HX2.out.trans (key_st hk)]
   exact hp.stuck rfl
  clear hk hp
  unfold stuckV at *
  go_wp2_with fail
  exact ⟨rfl,HR.out⟩
 have HX5:=zz (HX2.out.trans (key_go hk))
 have HP5:=zz hp
 have hz5:w.heap.size≤w5.heap.size:=HP5.out.size
 have hy5:=hf.size
 have HM_5:=zz (HM_4.out.keep hf)
 clear hk hp hf
 go_wp2_with fail
 refine (thenX (m:=2) HP5.out [r0 10,rMake (bindT 4 (tkAt l (p.tk+1)).tx) p.ex.length] e (10+(p.ru.length+0)) hn rfl (by decide) (by omega) ?rus).mono ?_
 case rus=>exact ⟨⟨by decide,by decide,rfl⟩,HM_5.out.ruv rfl,trivial⟩
 rintro r w6 ⟨rfl,hq⟩
 have HQ:=zz hq
 clear hq
 go_wp2_with fail
 go_end0
 rw [HX5.out]
 exact ⟨rfl,HQ.out⟩
theorem let_rule {c:Nat→Nat} {B:Nat} {l:List Tk} {p:Ps} {w:World} (hx:p.ex.length≤1000000000) (hP:PM c B l p w) (hn:p.ru.length≤1000000000) :
 Calls Tryz.prog 59 #[.pointer (some ⟨B,0,none⟩)] w (RQ c B l w (letR l p)):=by
 have hmf:=mkf
 have HP0:=zz (PW.start hP)
 have h0:0<w.heap.size:=Nat.lt_of_le_of_lt (Nat.zero_le _) HP0.out.ltB
 have hz0:w.heap.size≤w.heap.size:=Nat.le_refl _
 obtain ⟨X,HX0⟩:∃ X,Hid (X=letR l p):=⟨_,rfl⟩
 rw [← HX0.out]
 clear hP
 go_enter Tryz.func59,Tryz.ntmps59
 go_wp2_with fail
 refine (keyX HP0.out sLet).mono ?_
 rintro r w1 (⟨rfl,hk,hp⟩ | ⟨rfl,hk,hp,hf⟩)
 ·have HR:Hid (RQ c B l w X (.panicked stuckV) w1):=by
   show RQ c B l w X (.panicked stuckV) w1
   rw [HX0.out.trans (key_st hk)]
   exact hp.stuck rfl
  clear hk hp
  unfold stuckV at *
  go_wp2_with fail
  exact ⟨rfl,HR.out⟩
 have HX1:=zz (HX0.out.trans (key_go hk))
 have HP1:=zz hp
 have hz1:w.heap.size≤w1.heap.size:=HP1.out.size
 have hy1:=hf.size
 clear hk hp hf
 have ht:=(HP1.out).token
 go_wp2_with fail
 refine (nameX HP1.out).mono ?_
 rintro r w2 (⟨rfl,hk,hp⟩ | ⟨rfl,hk,hp,hf⟩)
 ·have HR:Hid (RQ c B l w X (.panicked stuckV) w2):=by
   show RQ c B l w X (.panicked stuckV) w2
   rw [HX1.out.trans (take_st hk)]
   exact hp.stuck rfl
  clear hk hp
  unfold stuckV at *
  go_wp2_with fail
  exact ⟨rfl,HR.out⟩
 have HX2:=zz (HX1.out.trans (take_go hk))
 have HP2:=zz hp
 have hz2:w.heap.size≤w2.heap.size:=HP2.out.size
 have hy2:=hf.size
 clear hk hp hf
 go_wp2_with fail
 refine (bindsX HP2.out 6 _ (ht _).1).mono ?_
 rintro r w3 ⟨pn,rfl,hso,hsm,hp,hf⟩
 have HP3:=zz hp
 have hz3:w.heap.size≤w3.heap.size:=HP3.out.size
 have hy3:=hf.size
 clear hp hf
 have HSO:=zz hso
 have HSM:=zz hsm
 clear hso hsm
 go_wp2_with fail
 refine (makingX HP3.out (pn:=pn) (cn:=1) (bindT 6 (tkAt l (p.tk+1)).tx) 0 (Nat.zero_le _) hx (by simp [bindT]) (by simp [bindT]) HSO.out HSM.out).mono ?_
 rintro r w4 ⟨e,bp4,bf4,rfl,hc,hlt,hle,hp,hf⟩
 have HP4:=zz hp
 have hz4:w.heap.size≤w4.heap.size:=HP4.out.size
 have hy4:=hf.size
 have HM_4:=zz hc
 clear hp hf hc
 go_wp2_with fail
 refine (keyX HP4.out sEq).mono ?_
 rintro r w5 (⟨rfl,hk,hp⟩ | ⟨rfl,hk,hp,hf⟩)
 ·have HR:Hid (RQ c B l w X (.panicked stuckV) w5):=by
   show RQ c B l w X (.panicked stuckV) w5
   rw [HX2.out.trans (key_st hk)]
   exact hp.stuck rfl
  clear hk hp
  unfold stuckV at *
  go_wp2_with fail
  exact ⟨rfl,HR.out⟩
 have HX5:=zz (HX2.out.trans (key_go hk))
 have HP5:=zz hp
 have hz5:w.heap.size≤w5.heap.size:=HP5.out.size
 have hy5:=hf.size
 have HM_5:=zz (HM_4.out.keep hf)
 clear hk hp hf
 go_wp2_with fail
 refine (laterX HP5.out sIn e (by omega)).mono ?_
 rintro r w6 ⟨b16,b26,rfl,hc,hp,hf⟩
 have HP6:=zz hp
 have hz6:w.heap.size≤w6.heap.size:=HP6.out.size
 have hy6:=hf.size
 have HM_6:=zz (HM_5.out.keep hf)
 have HL_6:=zz hc
 clear hp hf hc
 go_wp2_with fail
 refine (thenX (m:=4) HP6.out [r0 10,rLater sIn,r0 10,rMake (bindT 6 (tkAt l (p.tk+1)).tx) p.ex.length] e (10+(p.ru.length+0)) hn rfl (by decide) (by omega) ?rus).mono ?_
 case rus=>exact ⟨⟨by decide,by decide,rfl⟩,HL_6.out.ruv,⟨by decide,by decide,rfl⟩,HM_6.out.ruv rfl,trivial⟩
 rintro r w7 ⟨rfl,hq⟩
 have HQ:=zz hq
 clear hq
 go_wp2_with fail
 go_end0
 rw [HX5.out]
 exact ⟨rfl,HQ.out⟩
theorem ways_rule {c:Nat→Nat} {B:Nat} {l:List Tk} {p:Ps} {w:World} (hx:p.ex.length≤1000000000) (hP:PM c B l p w) (hn:p.ru.length≤1000000000) :
 Calls Tryz.prog 60 #[.pointer (some ⟨B,0,none⟩)] w (RQ c B l w (waysR l p)):=by
 have hmf:=mkf
 have HP0:=zz (PW.start hP)
 have h0:0<w.heap.size:=Nat.lt_of_le_of_lt (Nat.zero_le _) HP0.out.ltB
 have hz0:w.heap.size≤w.heap.size:=Nat.le_refl _
 obtain ⟨X,HX0⟩:∃ X,Hid (X=waysR l p):=⟨_,rfl⟩
 rw [← HX0.out]
 clear hP
 go_enter Tryz.func60,Tryz.ntmps60
 go_wp2_with fail
 refine (keyX HP0.out sCase).mono ?_
 rintro r w1 (⟨rfl,hk,hp⟩ | ⟨rfl,hk,hp,hf⟩)
 ·have HR:Hid (RQ c B l w X (.panicked stuckV) w1):=by
   show RQ c B l w X (.panicked stuckV) w1
   rw [HX0.out.trans (key_st hk)]
   exact hp.stuck rfl
  clear hk hp
  unfold stuckV at *
  go_wp2_with fail
  exact ⟨rfl,HR.out⟩
 have HX1:=zz (HX0.out.trans (key_go hk))
 have HP1:=zz hp
 have hz1:w.heap.size≤w1.heap.size:=HP1.out.size
 have hy1:=hf.size
 clear hk hp hf
 go_wp2_with fail
 refine (makingX HP1.out (pn:=none) (cn:=0) (kindT 7) 0 (Nat.zero_le _) hx (by simp [kindT]) (by simp [kindT]) ⟨Nat.le_refl _,by simp [kindT],fun _=>rfl⟩ (.inl rfl)).mono ?_
 rintro r w2 ⟨e,bp2,bf2,rfl,hc,hlt,hle,hp,hf⟩
 have HP2:=zz hp
 have hz2:w.heap.size≤w2.heap.size:=HP2.out.size
 have hy2:=hf.size
 have HM_2:=zz hc
 clear hp hf hc
 go_wp2_with fail
 refine (laterX HP2.out sOf e (by omega)).mono ?_
 rintro r w3 ⟨b13,b23,rfl,hc,hp,hf⟩
 have HP3:=zz hp
 have hz3:w.heap.size≤w3.heap.size:=HP3.out.size
 have hy3:=hf.size
 have HM_3:=zz (HM_2.out.keep hf)
 have HA_3:=zz hc
 clear hp hf hc
 go_wp2_with fail
 refine (laterX HP3.out sCurl e (by omega)).mono ?_
 rintro r w4 ⟨b14,b24,rfl,hc,hp,hf⟩
 have HP4:=zz hp
 have hz4:w.heap.size≤w4.heap.size:=HP4.out.size
 have hy4:=hf.size
 have HM_4:=zz (HM_3.out.keep hf)
 have HA_4:=zz (HA_3.out.keep hf)
 have HB_4:=zz hc
 clear hp hf hc
 go_wp2_with fail
 refine (moreX HP4.out sSemi 11 e (by omega)).mono ?_
 rintro r w5 ⟨b15,b25,b35,rfl,hc,hp,hf⟩
 have HP5:=zz hp
 have hz5:w.heap.size≤w5.heap.size:=HP5.out.size
 have hy5:=hf.size
 have HM_5:=zz (HM_4.out.keep hf)
 have HA_5:=zz (HA_4.out.keep hf)
 have HB_5:=zz (HB_4.out.keep hf)
 have HC_5:=zz hc
 clear hp hf hc
 go_wp2_with fail
 refine (laterX HP5.out sUncurl e (by omega)).mono ?_
 rintro r w6 ⟨b16,b26,rfl,hc,hp,hf⟩
 have HP6:=zz hp
 have hz6:w.heap.size≤w6.heap.size:=HP6.out.size
 have hy6:=hf.size
 have HM_6:=zz (HM_5.out.keep hf)
 have HA_6:=zz (HA_5.out.keep hf)
 have HB_6:=zz (HB_5.out.keep hf)
 have HC_6:=zz (HC_5.out.keep hf)
 have HD_6:=zz hc
 clear hp hf hc
 go_wp2_with fail
 refine (thenX (m:=7) HP6.out [r0 10,rLater sOf,rLater sCurl,r0 11,rMore sSemi 11,rLater sUncurl,rMake (kindT 7) p.ex.length] e (10+(p.ru.length+0)) hn rfl (by decide) (by omega) ?rus).mono ?_
 case rus=>exact ⟨⟨by decide,by decide,rfl⟩,HA_6.out.ruv,HB_6.out.ruv,⟨by decide,by decide,rfl⟩,HC_6.out.ruv,HD_6.out.ruv,HM_6.out.ruv rfl,trivial⟩
 rintro r w7 ⟨rfl,hq⟩
 have HQ:=zz hq
 clear hq
 go_wp2_with fail
 go_end0
 rw [HX1.out]
 exact ⟨rfl,HQ.out⟩
theorem choice_rule {c:Nat→Nat} {B:Nat} {l:List Tk} {p:Ps} {w:World} (hx:p.ex.length≤1000000000) (hP:PM c B l p w) (hn:p.ru.length≤1000000000) :
 Calls Tryz.prog 61 #[.pointer (some ⟨B,0,none⟩)] w (RQ c B l w (choiceR l p)):=by
 have hmf:=mkf
 have HP0:=zz (PW.start hP)
 have h0:0<w.heap.size:=Nat.lt_of_le_of_lt (Nat.zero_le _) HP0.out.ltB
 have hz0:w.heap.size≤w.heap.size:=Nat.le_refl _
 obtain ⟨X,HX0⟩:∃ X,Hid (X=choiceR l p):=⟨_,rfl⟩
 rw [← HX0.out]
 clear hP
 go_enter Tryz.func61,Tryz.ntmps61
 go_wp2_with fail
 refine (keyX HP0.out sIf).mono ?_
 rintro r w1 (⟨rfl,hk,hp⟩ | ⟨rfl,hk,hp,hf⟩)
 ·have HR:Hid (RQ c B l w X (.panicked stuckV) w1):=by
   show RQ c B l w X (.panicked stuckV) w1
   rw [HX0.out.trans (key_st hk)]
   exact hp.stuck rfl
  clear hk hp
  unfold stuckV at *
  go_wp2_with fail
  exact ⟨rfl,HR.out⟩
 have HX1:=zz (HX0.out.trans (key_go hk))
 have HP1:=zz hp
 have hz1:w.heap.size≤w1.heap.size:=HP1.out.size
 have hy1:=hf.size
 clear hk hp hf
 go_wp2_with fail
 refine (makingX HP1.out (pn:=none) (cn:=0) (kindT 10) 0 (Nat.zero_le _) hx (by simp [kindT]) (by simp [kindT]) ⟨Nat.le_refl _,by simp [kindT],fun _=>rfl⟩ (.inl rfl)).mono ?_
 rintro r w2 ⟨e,bp2,bf2,rfl,hc,hlt,hle,hp,hf⟩
 have HP2:=zz hp
 have hz2:w.heap.size≤w2.heap.size:=HP2.out.size
 have hy2:=hf.size
 have HM_2:=zz hc
 clear hp hf hc
 go_wp2_with fail
 refine (laterX HP2.out sThen e (by omega)).mono ?_
 rintro r w3 ⟨b13,b23,rfl,hc,hp,hf⟩
 have HP3:=zz hp
 have hz3:w.heap.size≤w3.heap.size:=HP3.out.size
 have hy3:=hf.size
 have HM_3:=zz (HM_2.out.keep hf)
 have HA_3:=zz hc
 clear hp hf hc
 go_wp2_with fail
 refine (laterX HP3.out sElse e (by omega)).mono ?_
 rintro r w4 ⟨b14,b24,rfl,hc,hp,hf⟩
 have HP4:=zz hp
 have hz4:w.heap.size≤w4.heap.size:=HP4.out.size
 have hy4:=hf.size
 have HM_4:=zz (HM_3.out.keep hf)
 have HA_4:=zz (HA_3.out.keep hf)
 have HB_4:=zz hc
 clear hp hf hc
 go_wp2_with fail
 refine (thenX (m:=6) HP4.out [r0 10,rLater sThen,r0 10,rLater sElse,r0 10,rMake (kindT 10) p.ex.length] e (10+(p.ru.length+0)) hn rfl (by decide) (by omega) ?rus).mono ?_
 case rus=>exact ⟨⟨by decide,by decide,rfl⟩,HA_4.out.ruv,⟨by decide,by decide,rfl⟩,HB_4.out.ruv,⟨by decide,by decide,rfl⟩,HM_4.out.ruv rfl,trivial⟩
 rintro r w5 ⟨rfl,hq⟩
 have HQ:=zz hq
 clear hq
 go_wp2_with fail
 go_end0
 rw [HX1.out]
 exact ⟨rfl,HQ.out⟩
theorem block_rule {c:Nat→Nat} {B:Nat} {l:List Tk} {p:Ps} {w:World} {s:List UInt8} {k:Int} (hx:p.ex.length≤1000000000) (hP:PM c B l p w) (hn:p.ru.length≤1000000000) :
 Calls Tryz.prog 62 #[.pointer (some ⟨B,0,none⟩),.string (S s),.int .i64 k] w (RQ c B l w (blockR l s k p)):=by
 have hmf:=mkf
 have HP0:=zz (PW.start hP)
 have h0:0<w.heap.size:=Nat.lt_of_le_of_lt (Nat.zero_le _) HP0.out.ltB
 have hz0:w.heap.size≤w.heap.size:=Nat.le_refl _
 obtain ⟨X,HX0⟩:∃ X,Hid (X=blockR l s k p):=⟨_,rfl⟩
 rw [← HX0.out]
 clear hP
 go_enter Tryz.func62,Tryz.ntmps62
 go_wp2_with fail
 refine (keyX HP0.out s).mono ?_
 rintro r w1 (⟨rfl,hk,hp⟩ | ⟨rfl,hk,hp,hf⟩)
 ·have HR:Hid (RQ c B l w X (.panicked stuckV) w1):=by
   show RQ c B l w X (.panicked stuckV) w1
   rw [HX0.out.trans (key_st hk)]
   exact hp.stuck rfl
  clear hk hp
  unfold stuckV at *
  go_wp2_with fail
  exact ⟨rfl,HR.out⟩
 have HX1:=zz (HX0.out.trans (key_go hk))
 have HP1:=zz hp
 have hz1:w.heap.size≤w1.heap.size:=HP1.out.size
 have hy1:=hf.size
 clear hk hp hf
 go_wp2_with fail
 refine (makingX HP1.out (pn:=none) (cn:=0) (kindT k) 0 (Nat.zero_le _) hx (by simp [kindT]) (by simp [kindT]) ⟨Nat.le_refl _,by simp [kindT],fun _=>rfl⟩ (.inl rfl)).mono ?_
 rintro r w2 ⟨e,bp2,bf2,rfl,hc,hlt,hle,hp,hf⟩
 have HP2:=zz hp
 have hz2:w.heap.size≤w2.heap.size:=HP2.out.size
 have hy2:=hf.size
 have HM_2:=zz hc
 clear hp hf hc
 go_wp2_with fail
 refine (laterX HP2.out sCurl e (by omega)).mono ?_
 rintro r w3 ⟨b13,b23,rfl,hc,hp,hf⟩
 have HP3:=zz hp
 have hz3:w.heap.size≤w3.heap.size:=HP3.out.size
 have hy3:=hf.size
 have HM_3:=zz (HM_2.out.keep hf)
 have HA_3:=zz hc
 clear hp hf hc
 go_wp2_with fail
 refine (moreX HP3.out sSemi 12 e (by omega)).mono ?_
 rintro r w4 ⟨b14,b24,b34,rfl,hc,hp,hf⟩
 have HP4:=zz hp
 have hz4:w.heap.size≤w4.heap.size:=HP4.out.size
 have hy4:=hf.size
 have HM_4:=zz (HM_3.out.keep hf)
 have HA_4:=zz (HA_3.out.keep hf)
 have HB_4:=zz hc
 clear hp hf hc
 go_wp2_with fail
 refine (laterX HP4.out sUncurl e (by omega)).mono ?_
 rintro r w5 ⟨b15,b25,rfl,hc,hp,hf⟩
 have HP5:=zz hp
 have hz5:w.heap.size≤w5.heap.size:=HP5.out.size
 have hy5:=hf.size
 have HM_5:=zz (HM_4.out.keep hf)
 have HA_5:=zz (HA_4.out.keep hf)
 have HB_5:=zz (HB_4.out.keep hf)
 have HC_5:=zz hc
 clear hp hf hc
 go_wp2_with fail
 refine (thenX (m:=5) HP5.out [rLater sCurl,r0 12,rMore sSemi 12,rLater sUncurl,rMake (kindT k) p.ex.length] e (10+(p.ru.length+0)) hn rfl (by decide) (by omega) ?rus).mono ?_
 case rus=>exact ⟨HA_5.out.ruv,⟨by decide,by decide,rfl⟩,HB_5.out.ruv,HC_5.out.ruv,HM_5.out.ruv rfl,trivial⟩
 rintro r w6 ⟨rfl,hq⟩
 have HQ:=zz hq
 clear hq
 go_wp2_with fail
 go_end0
 rw [HX1.out]
 exact ⟨rfl,HQ.out⟩
theorem operX {c:Nat→Nat} {B:Nat} {l:List Tk} {w:World} {p:Ps} {W:World} (h:PW c B l w p W) (hk:isD l p.tk 4=true) (h1:1≤p.ex.length) (hx:p.ex.length≤1000000000) :
 Calls Tryz.prog 180 #[.pointer (some ⟨B,0,none⟩)] W fun r W'=>∃ e bp bf,r=.returned (.func (.func 173) #[] #[bx e,bx bp,bx bf])∧MakB B w W' e (.func (.func 173) #[] #[bx e,bx bp,bx bf]) (opT (tkAt l p.tk).tx) (p.ex.length - 1)∧e<W'.heap.size∧W.heap.size≤e∧PW c B l w { p with tk:=p.tk+1 } W'∧FK w W W':=by
 have ht:=(h.token p.tk).1
 have HT:=zz (takeX h 4 (by decide) hk)
 have hft:=fldT
 have HTX:Hid (∀ {W:World},PW c B l w { p with tk:=p.tk+1 } W→_):=fun {W} h=>makingX (pn:=none) (cn:=0) h (opT (tkAt l p.tk).tx) 1 h1 hx ht (by simp [opT]) ⟨Nat.le_refl _,by simp [opT],fun _=>rfl⟩ (.inl rfl)
 unfold tkC at HT
 simp only [opT] at HTX ⊢
 generalize tkAt l p.tk=t at *
 clear hk h
 go_enter Tryz.func180,Tryz.ntmps180
 go_wp2_with fail
 refine HT.out.mono ?_
 rintro r w1 ⟨rfl,hp,hf⟩
 have HP:=zz hp
 have HF:=zz hf
 clear hp hf
 go_wp2_with fail
 refine (HTX.out HP.out).mono ?_
 rintro r w2 ⟨e,bp,bf,rfl,hc,hlt,hle,hp,hf⟩
 have HC:=zz hc
 have HF2:=zz hf
 have HP2:=zz hp
 have hs:=HF.out.size
 clear hc hf hp
 go_wp2_with fail
 go_ret
 exact ⟨e,bp,bf,rfl,HC.out,hlt,by omega,HP2.out,HF.out.trans HF2.out⟩
theorem isK_D {l:List Tk} {i:Nat} {s:List UInt8} (h:isK l i s=true):isD l i 4=true:=by unfold isK at h;rw [Bool.and_eq_true] at h;exact h.1
theorem or_D {l:List Tk} {i:Nat} {s t:List UInt8} (h:(isK l i s || isK l i t)=true):isD l i 4=true:=by
 rcases Bool.or_eq_true _ _ ▸ h with h | h
 ·exact isK_D h
 ·exact isK_D h
theorem oper_go {l:List Tk} {p:Ps} {f:Ru→Ps→Rs} (h:isD l p.tk 4=true):operR l p f=f (rMake (opT (tkAt l p.tk).tx) (p.ex.length - 1)) { p with tk:=p.tk+1 }:=take_go h
theorem compared_rule {c:Nat→Nat} {B:Nat} {l:List Tk} {p:Ps} {w:World} (h1:1≤p.ex.length) (hx:p.ex.length≤1000000000) (hP:PM c B l p w) (hn:p.ru.length≤1000000000) :
 Calls Tryz.prog 122 #[.pointer (some ⟨B,0,none⟩)] w (RQ c B l w (comparedR l p)):=by
 have hmf:=mkf
 have HP0:=zz (PW.start hP)
 have h0:0<w.heap.size:=Nat.lt_of_le_of_lt (Nat.zero_le _) HP0.out.ltB
 have hz0:w.heap.size≤w.heap.size:=Nat.le_refl _
 obtain ⟨X,HX0⟩:∃ X,Hid (X=comparedR l p):=⟨_,rfl⟩
 rw [← HX0.out]
 clear hP
 go_enter Tryz.func122,Tryz.ntmps122
 go_wp2_with fail
 refine (isKeyX HP0.out [[61,61],[60]] rfl (by decide)).mono ?_
 rintro r w1 ⟨hr,hp,hf⟩
 have HP1:=zz hp
 have hz1:w.heap.size≤w1.heap.size:=HP1.out.size
 have hy1:=hf.size
 clear hp hf
 rw [any2] at hr
 cases hb:(isK l p.tk [61,61] || isK l p.tk [60])
 ·rw [hb] at hr
  subst hr
  have HX2:=zz (HX0.out.trans (if_neg (by simp [hb])))
  clear hb
  go_wp2_with fail
  go_end0
  rw [HX2.out]
  exact HP1.out.done
 ·rw [hb] at hr
  subst hr
  have HX3:=zz (HX0.out.trans (if_pos hb))
  have hd:=or_D hb
  clear hb
  go_wp2_with fail
  refine (operX HP1.out hd h1 hx).mono ?_
  rintro r w4 ⟨e,bp4,bf4,rfl,hc,hlt,hle,hp,hf⟩
  have HP4:=zz hp
  have hz4:w.heap.size≤w4.heap.size:=HP4.out.size
  have hy4:=hf.size
  have HM_4:=zz hc
  clear hp hf hc
  have HX4:=zz (HX3.out.trans (oper_go hd))
  go_wp2_with fail
  refine (thenX (m:=2) HP4.out [r0 15,rMake (opT (tkAt l p.tk).tx) (p.ex.length - 1)] e (10+(p.ru.length+0)) hn rfl (by decide) (by omega) ?rus).mono ?_
  case rus=>exact ⟨⟨by decide,by decide,rfl⟩,HM_4.out.ruv rfl,trivial⟩
  rintro r w5 ⟨rfl,hq⟩
  have HQ:=zz hq
  clear hq
  go_wp2_with fail
  go_end0
  rw [HX4.out]
  exact ⟨rfl,HQ.out⟩
theorem added_rule {c:Nat→Nat} {B:Nat} {l:List Tk} {p:Ps} {w:World} (h1:1≤p.ex.length) (hx:p.ex.length≤1000000000) (hP:PM c B l p w) (hn:p.ru.length≤1000000000) :
 Calls Tryz.prog 179 #[.pointer (some ⟨B,0,none⟩)] w (RQ c B l w (addedR l p)):=by
 have hmf:=mkf
 have HP0:=zz (PW.start hP)
 have h0:0<w.heap.size:=Nat.lt_of_le_of_lt (Nat.zero_le _) HP0.out.ltB
 have hz0:w.heap.size≤w.heap.size:=Nat.le_refl _
 obtain ⟨X,HX0⟩:∃ X,Hid (X=addedR l p):=⟨_,rfl⟩
 rw [← HX0.out]
 clear hP
 go_enter Tryz.func179,Tryz.ntmps179
 go_wp2_with fail
 refine (isKeyX HP0.out [[43],[45]] rfl (by decide)).mono ?_
 rintro r w1 ⟨hr,hp,hf⟩
 have HP1:=zz hp
 have hz1:w.heap.size≤w1.heap.size:=HP1.out.size
 have hy1:=hf.size
 clear hp hf
 rw [any2] at hr
 cases hb:(isK l p.tk [43] || isK l p.tk [45])
 ·rw [hb] at hr
  subst hr
  have HX2:=zz (HX0.out.trans (if_neg (by simp [hb])))
  clear hb
  go_wp2_with fail
  go_end0
  rw [HX2.out]
  exact HP1.out.done
 ·rw [hb] at hr
  subst hr
  have HX3:=zz (HX0.out.trans (if_pos hb))
  have hd:=or_D hb
  clear hb
  go_wp2_with fail
  refine (operX HP1.out hd h1 hx).mono ?_
  rintro r w4 ⟨e,bp4,bf4,rfl,hc,hlt,hle,hp,hf⟩
  have HP4:=zz hp
  have hz4:w.heap.size≤w4.heap.size:=HP4.out.size
  have hy4:=hf.size
  have HM_4:=zz hc
  clear hp hf hc
  have HX4:=zz (HX3.out.trans (oper_go hd))
  go_wp2_with fail
  refine (thenX (m:=3) HP4.out [r0 17,rMake (opT (tkAt l p.tk).tx) (p.ex.length - 1),r0 16] e (10+(p.ru.length+1)) hn rfl (by decide) (by omega) ?rus).mono ?_
  case rus=>exact ⟨⟨by decide,by decide,rfl⟩,HM_4.out.ruv rfl,⟨by decide,by decide,rfl⟩,trivial⟩
  rintro r w5 ⟨rfl,hq⟩
  have HQ:=zz hq
  clear hq
  go_wp2_with fail
  go_end0
  rw [HX4.out]
  exact ⟨rfl,HQ.out⟩
theorem multiplied_rule {c:Nat→Nat} {B:Nat} {l:List Tk} {p:Ps} {w:World} (h1:1≤p.ex.length) (hx:p.ex.length≤1000000000) (hP:PM c B l p w) (hn:p.ru.length≤1000000000) :
 Calls Tryz.prog 215 #[.pointer (some ⟨B,0,none⟩)] w (RQ c B l w (multipliedR l p)):=by
 have hmf:=mkf
 have HP0:=zz (PW.start hP)
 have h0:0<w.heap.size:=Nat.lt_of_le_of_lt (Nat.zero_le _) HP0.out.ltB
 have hz0:w.heap.size≤w.heap.size:=Nat.le_refl _
 obtain ⟨X,HX0⟩:∃ X,Hid (X=multipliedR l p):=⟨_,rfl⟩
 rw [← HX0.out]
 clear hP
 go_enter Tryz.func215,Tryz.ntmps215
 go_wp2_with fail
 refine (isKeyX HP0.out [[42],[47]] rfl (by decide)).mono ?_
 rintro r w1 ⟨hr,hp,hf⟩
 have HP1:=zz hp
 have hz1:w.heap.size≤w1.heap.size:=HP1.out.size
 have hy1:=hf.size
 clear hp hf
 rw [any2] at hr
 cases hb:(isK l p.tk [42] || isK l p.tk [47])
 ·rw [hb] at hr
  subst hr
  have HX2:=zz (HX0.out.trans (if_neg (by simp [hb])))
  clear hb
  go_wp2_with fail
  go_end0
  rw [HX2.out]
  exact HP1.out.done
 ·rw [hb] at hr
  subst hr
  have HX3:=zz (HX0.out.trans (if_pos hb))
  have hd:=or_D hb
  clear hb
  go_wp2_with fail
  refine (operX HP1.out hd h1 hx).mono ?_
  rintro r w4 ⟨e,bp4,bf4,rfl,hc,hlt,hle,hp,hf⟩
  have HP4:=zz hp
  have hz4:w.heap.size≤w4.heap.size:=HP4.out.size
  have hy4:=hf.size
  have HM_4:=zz hc
  clear hp hf hc
  have HX4:=zz (HX3.out.trans (oper_go hd))
  go_wp2_with fail
  refine (thenX (m:=3) HP4.out [r0 19,rMake (opT (tkAt l p.tk).tx) (p.ex.length - 1),r0 18] e (10+(p.ru.length+1)) hn rfl (by decide) (by omega) ?rus).mono ?_
  case rus=>exact ⟨⟨by decide,by decide,rfl⟩,HM_4.out.ruv rfl,⟨by decide,by decide,rfl⟩,trivial⟩
  rintro r w5 ⟨rfl,hq⟩
  have HQ:=zz hq
  clear hq
  go_wp2_with fail
  go_end0
  rw [HX4.out]
  exact ⟨rfl,HQ.out⟩
theorem sigApp_rule {c:Nat→Nat} {B:Nat} {l:List Tk} {p:Ps} {w:World} (hsm:p.sg.length≤1000000000) (hsa:∀ (c':Nat→Nat) (W:World),PM c' B l p W→Calls Tryz.prog 242 #[.pointer (some ⟨B,0,none⟩)] W (RQ c' B l W (sigAtomR l p))) (hP:PM c B l p w) (hn:p.ru.length≤1000000000) :
 Calls Tryz.prog 250 #[.pointer (some ⟨B,0,none⟩)] w (RQ c B l w (sigAppR l p)):=by
 have hmf:=mkf
 have HP0:=zz (PW.start hP)
 have h0:0<w.heap.size:=Nat.lt_of_le_of_lt (Nat.zero_le _) HP0.out.ltB
 have hz0:w.heap.size≤w.heap.size:=Nat.le_refl _
 obtain ⟨X,HX0⟩:∃ X,Hid (X=sigAppR l p):=⟨_,rfl⟩
 rw [← HX0.out]
 clear hP
 go_enter Tryz.func250,Tryz.ntmps250
 go_wp2_with fail
 refine (isX HP0.out [3] rfl (by decide)).mono ?_
 rintro r w1 ⟨hr,hp,hf⟩
 have HP1:=zz hp
 have hz1:w.heap.size≤w1.heap.size:=HP1.out.size
 have hy1:=hf.size
 clear hp hf
 rw [mem1] at hr
 cases hb:isD l p.tk 3
 ·rw [hb] at hr
  subst hr
  have HX2:=zz (HX0.out.trans (if_neg (by simp [hb])))
  clear hb
  go_wp2_with fail
  refine (callW HP1.out (fun c' hp'=>hsa c' _ hp')).mono ?_
  intro r w3 hq
  rw [← HX2.out] at hq
  have HQ:=zz hq
  clear hq
  cases X with
  | inl n=>
   obtain ⟨rfl,h⟩:=HQ.out
   unfold stuckV at *
   go_wp2_with fail
   exact ⟨rfl,HQ.out⟩
  | inr q=>
   obtain ⟨rfl,h⟩:=HQ.out
   go_wp2_with fail
   go_end0
   exact HQ.out
 ·rw [hb] at hr
  subst hr
  have HX4:=zz (HX0.out.trans (if_pos hb))
  clear hb
  have ht:=(HP1.out).token
  go_wp2_with fail
  refine (conX HP1.out).mono ?_
  rintro r w5 (⟨rfl,hk,hp⟩ | ⟨rfl,hk,hp,hf⟩)
  ·have HR:Hid (RQ c B l w X (.panicked stuckV) w5):=by
    show RQ c B l w X (.panicked stuckV) w5
    rw [HX4.out.trans (take_st hk)]
    exact hp.stuck rfl
   clear hk hp
   unfold stuckV at *
   go_wp2_with fail
   exact ⟨rfl,HR.out⟩
  have HX5:=zz (HX4.out.trans (take_go hk))
  have HP5:=zz hp
  have hz5:w.heap.size≤w5.heap.size:=HP5.out.size
  have hy5:=hf.size
  clear hk hp hf
  go_wp2_with fail
  refine (makingSigX HP5.out (tkAt l p.tk).tx 0 0 (by omega) (Nat.zero_le _) hsm (ht _).1).mono ?_
  rintro r w6 ⟨b16,b26,b36,rfl,hc,hp,hf⟩
  have HP6:=zz hp
  have hz6:w.heap.size≤w6.heap.size:=HP6.out.size
  have hy6:=hf.size
  have HM_6:=zz hc
  clear hp hf hc
  go_wp2_with fail
  refine (thenX (m:=2) HP6.out [r0 8,rSig (tkAt l p.tk).tx p.sg.length] 0 (0) hn rfl (by decide) (by omega) ?rus).mono ?_
  case rus=>exact ⟨⟨by decide,by decide,rfl⟩,HM_6.out.ruv,trivial⟩
  rintro r w7 ⟨rfl,hq⟩
  have HQ:=zz hq
  clear hq
  go_wp2_with fail
  go_end0
  rw [HX5.out]
  exact ⟨rfl,HQ.out⟩
theorem names_is (l:List Tk) (i k:Nat) (hk:k≤(namesN (l.drop i)).length):isD l (i+k) 2=decide (k<(namesN (l.drop i)).length):=by
 have key:∀ (m:List Tk) (k:Nat),k≤(namesN m).length→(decide ((m.getD k tk0).kd=2))=decide (k<(namesN m).length):=by
  intro m
  induction m with
  | nil=>intro k hk;simp [namesN,tk0]
  | cons a r ih=>
   intro k hk
   unfold namesN at hk ⊢
   by_cases ha:a.kd=2
   ·rw [List.takeWhile_cons_of_pos (by simpa using ha)] at hk ⊢
    cases k with
    | zero=>simp [ha]
    | succ k=>
     have:=ih k (by unfold namesN;simpa using hk)
     unfold namesN at this
     simpa using this
   ·rw [List.takeWhile_cons_of_neg (by simpa using ha)] at hk ⊢
    simp at hk
    subst hk
    simp [ha]
 have h:=key (l.drop i) k hk
 unfold isD tkAt
 rw [← h]
 have e:(l.drop i).getD k tk0=l.getD (i+k) tk0:=by simp [List.getD,List.getElem?_drop]
 rw [e]
theorem names_at (l:List Tk) (i k:Nat) (hk:k<(namesN (l.drop i)).length):(namesN (l.drop i))[k]=(tkAt l (i+k)).tx:=by
 have key:∀ (m:List Tk) (k:Nat) (h:k<(namesN m).length),(namesN m)[k]=(m.getD k tk0).tx:=by
  intro m
  induction m with
  | nil=>intro k hk;simp [namesN] at hk
  | cons a r ih=>
   intro k hk
   unfold namesN at hk ⊢
   by_cases ha:a.kd=2
   ·have e:(a :: r).takeWhile (fun t=>decide (t.kd=2))=a :: r.takeWhile (fun t=>decide (t.kd=2)):=List.takeWhile_cons_of_pos (by simpa using ha)
    simp only [e]
    cases k with
    | zero=>simp
    | succ k=>
     have:=ih k (by unfold namesN;rw [e] at hk;simpa using hk)
     unfold namesN at this
     simpa using this
   ·rw [List.takeWhile_cons_of_neg (by simpa using ha)] at hk
    simp at hk
 have h:=key (l.drop i) k hk
 rw [h]
 unfold tkAt
 simp [List.getD,List.getElem?_drop]
theorem PW.grow {c:Nat→Nat} {B:Nat} {l:List Tk} {w:World} {p:Ps} {W W':World} (h:PW c B l w p W) (hk:KP (fun b=>b<w.heap.size) W W'):PW c B l w p W':=by
 refine ⟨h.ltB,h.colB,fun c' hc=>?_,h.kept.trans (hk.mono fun b hb=>hb.1)⟩
 obtain ⟨tp,tc,vr,ve,vs,vf,vd,vp,hS⟩:=h.pm (col9 c w) (col9_old c w)
 have hlt:∀ b,col9 c w b≠9→b<w.heap.size:=fun b hb=>by
  unfold col9 at hb
  split at hb
  ·assumption
  ·exact absurd rfl hb
 have s:Step (col9 c w) c' (fun k=>k≠9) W W':=⟨hk.mono fun b hb=>hlt b hb.2,fun b hb hd=>(hc b (hlt b hd)).trans (col9_old c w b (hlt b hd)).symm⟩
 exact ⟨tp,tc,vr,ve,vs,vf,vd,vp,(hk.block B h.ltB).trans hS.hold,(hc B h.ltB).trans h.colB,hS.ktoks s (by decide),hS.len,hS.at',hS.krul s (by decide) (by decide) (fun i _=>by show 10+i≠9;omega),hS.kexs s (by decide) (by decide),hS.ksgs s (by decide) (by decide),hS.kfms s (by decide) (by decide),hS.kdts s (by decide) (by decide),hS.kdfs s (by decide) (by decide)⟩
theorem sm_row {w W:World} {base n:Nat} {q:Option Addr} {cq:Nat} {ns:List (List UInt8)} (h:W.ownsRow base 9 1 (.slice q n cq) n (ns.map fun s=>Value.string (S s))) (hn:ns.length=n) (hb:w.heap.size≤base) (hs:∀ s ∈ ns,s.length≤281474976710656):SlOK q n cq∧SM (fun b=>w.heap.size≤b∧b<W.heap.size∧Un W b) W q ns:=by
 have hrow:=h
 rcases h with ⟨h1,⟨h2,h3⟩ | ⟨g,cap,cur,hv,hbg,hg,r1,r2,r3,r4⟩⟩
 ·cases h2
  exact ⟨⟨by omega,by omega,fun _=>rfl⟩,.inl (List.eq_nil_of_length_eq_zero (hn.trans h3))⟩
 ·cases hv
  refine ⟨⟨r1,by unfold maxLen at r2;omega,fun h=>by cases h⟩,  .inr ⟨g,0,rfl,⟨by omega,(Array.getElem?_eq_some_iff.1 hg).1,⟨cur,_,hg,by decide⟩⟩,fun i s hi=>⟨hs s (List.mem_of_getElem? hi),?_⟩⟩⟩
  rw [Nat.zero_add]
  exact row_cell hrow (by rw [List.getElem?_map,hi];rfl)
theorem info9:(Tryz.prog.info? 9).map (fun i=>(i.zero,i.size,i.bytes))=some (some (.string ⟨#[]⟩),1,16):=by kernel_rfl
theorem cell_one_new' (w:World) (x:Value) (t:TypeId):∀ j u,[x][j]?=some u→(w.alloc (.cells #[x] t)).cell? ((⟨w.heap.size,0,none⟩:Addr).add j)=some u:=cell_one_new w x t
theorem namesY {c:Nat→Nat} {B:Nat} {l:List Tk} {w:World} {p:Ps} {W:World} (h:PW c B l w p W) :
 Calls Tryz.prog 175 #[.pointer (some ⟨B,0,none⟩)] W fun r W'=>∃ pn cn,r=.returned (.slice pn (namesN (l.drop p.tk)).length cn)∧SlOK pn (namesN (l.drop p.tk)).length cn∧SM (fun b=>W.heap.size≤b∧b<W'.heap.size∧Un W' b) W' pn (namesN (l.drop p.tk))∧PW c B l w { p with tk:=p.tk+(namesN (l.drop p.tk)).length } W'∧FK w W W':=by
 have HI:=zz (names_is l p.tk)
 have HA:=zz (names_at l p.tk)
 have hlen:(namesN (l.drop p.tk)).length≤1000000:=by
  obtain ⟨tp,tc,vr,ve,vs,vf,vd,vp,hL⟩:=h.look
  have:=hL.max
  unfold namesN
  have h1:((l.drop p.tk).takeWhile fun t=>decide (t.kd=2)).length≤(l.drop p.tk).length:=(List.takeWhile_sublist _).length_le
  simp at h1 ⊢
  omega
 have HT:=zz fun i=>(h.token i).1
 have hws:=h.size
 have HP:=zz h
 have HS:Hid (∀ s ∈ namesN (l.drop p.tk),s.length≤281474976710656):=by
  show ∀ s ∈ namesN (l.drop p.tk),s.length≤281474976710656
  intro s hs
  obtain ⟨i,hi,rfl⟩:=List.getElem_of_mem hs
  rw [HA.out i hi]
  exact HT.out _
 obtain ⟨i0,hi,hz0,hz1,hz2⟩:=info_parts info9
 generalize namesN (l.drop p.tk)=ns at *
 clear h
 go_enter Tryz.func175,Tryz.ntmps175
 go_wp2_with fail
 go_loopg [3] ns.length (fun g v3 wr=>∃ (k:Nat) (q:Option Addr) (cq:Nat),k≤ns.length∧g=ns.length - k∧v3=.slice q k cq∧wr.ownsRow W.heap.size 9 1 (.slice q k cq) k ((ns.take k).map fun s=>Value.string (S s))∧Hid (PW c B l w { p with tk:=p.tk+k } wr)∧Hid (FK w W wr))
 case atStart=>exact ⟨0,none,0,Nat.zero_le _,by omega,rfl,World.ownsRow_nil _ _ _ _,HP.out,FK.refl _ _⟩
 case round=>
  obtain ⟨k,q,cq,hk,rfl,rfl,hrow,hpw,hfk⟩:=hrel
  have HIX:=zz (isX hpw.out [2] (n:=1) (cap:=1) rfl (by decide))
  simp only at HIX
  rw [show decide ((tkAt l (p.tk+k)).kd ∈ [2])=decide (k<ns.length) from by rw [← HI.out k hk];simp [isD]] at HIX
  have HROW:=zz hrow
  clear hrow
  by_cases hlt:k<ns.length
  ·rw [show decide (k<ns.length)=true from by simpa using hlt] at HIX
   go_wp2_with fail
   refine HIX.out.mono ?_
   rintro r w1 ⟨rfl,hp1,hf1⟩
   have HN:=zz (nameX hp1)
   simp only at HN
   have HF1:=zz hf1
   have HW1:Hid (W.heap.size≤w1.heap.size):=Nat.le_trans hfk.out.size hf1.size
   have HR1:Hid (w1.ownsRow W.heap.size 9 1 (.slice q k cq) k ((ns.take k).map fun s=>Value.string (S s))):=row_keep HROW.out fun g hg hl=>hf1.block g ⟨by
    rcases HROW.out.2 with ⟨e,_⟩ | ⟨g',cap,cur,e,hb,_⟩
    ·cases e;cases hg
    ·cases e
     have:g'=g:=by simpa [Value.ownBlock] using hg
     omega,hl⟩
   clear hp1 hf1 HIX
   go_wp2_with fail
   refine HN.out.mono ?_
   rintro r w2 (⟨rfl,hk2,hp2⟩ | ⟨rfl,hk2,hp2,hf2⟩)
   ·rw [HI.out k hk,show decide (k<ns.length)=true from by simpa using hlt] at hk2
    cases hk2
   have hR2:w2.ownsRow W.heap.size 9 1 (.slice q k cq) k ((ns.take k).map fun s=>Value.string (S s)):=row_keep HR1.out fun g hg hl=>hf2.block g ⟨by
    rcases HROW.out.2 with ⟨e,_⟩ | ⟨g',cap,cur,e,hb,_⟩
    ·cases e;cases hg
    ·cases e
     have:g'=g:=by simpa [Value.ownBlock] using hg
     omega,hl⟩
   have HAX:Hid ((ns.take (k+1)).map (fun s=>Value.string (S s))=(ns.take k).map (fun s=>Value.string (S s)) ++ [.string (S (tkAt l (p.tk+k)).tx)]):=by
    show _=_
    rw [List.take_succ_eq_append_getElem hlt,List.map_append,HA.out k hlt]
    rfl
   generalize (tkAt l (p.tk+k)).tx=s at *
   have HX:=zz (fun ops rest o' a Q hgd s' x' ho hs hx=>@wpList_append_lies Tryz.prog (w2.alloc (.cells #[.string (S s)] 9)) ops rest o' a Q hgd s' x' 24 ho W.heap.size 9 i0 _ 1 16 Tryz.underlying24 hi hz0 hz1 hz2 rfl (by omega) (.slice q k cq) k ((ns.take k).map fun s=>Value.string (S s)) hs (hR2.alloc _) ⟨w2.heap.size,0,none⟩ 1 1 [.string (S s)] hx rfl (cell_one_new' w2 (.string (S s)) 9) (by simp [Value.oneCell']) (by omega) (by unfold maxLen;omega) (by omega) (by have:=HW1.out;have:=hf2.size;simp;omega) (w2.heap.size+1) (by simp))
   have HP2:=zz hp2
   have HF2:=zz hf2
   have HRR:=zz hR2
   clear hk2 hp2 hf2 HN hR2
   go_wp2_with (at_builtin;have HY:=HX.out;refine HY _ _ _ _ _ rfl _ _ rfl rfl rfl ?_;clear HY;intro gg cap W3 hown hgrow hat hlt3)
   go_roundg (ns.length - (k+1))
   case measure=>omega
   case rel=>
    have hsz:W.heap.size≤w2.heap.size:=Nat.le_trans HW1.out HF2.out.size
    have hbel:Below W.heap.size w2 W3:=((Below.refl _ w2).alloc hsz _).trans (below_row (HRR.out.alloc (.cells #[.string (S s)] 9)) (by simp;omega) hgrow)
    have hkp:KP (fun b=>w.heap.size≤b∧b<W.heap.size) w2 W3:=KP.of_below hbel fun b hb=>hb.2
    refine ⟨k+1,some ⟨gg,0,none⟩,cap,hlt,rfl,rfl,by rw [HAX.out];exact hown,?_,?_⟩
    ·show PW c B l w { p with tk:=p.tk+(k+1) } W3
     have hpw2:PW c B l w { p with tk:=p.tk+(k+1) } w2:=HP2.out
     exact hpw2.grow (KP.of_below hbel fun b hb=>Nat.lt_of_lt_of_le hb hws)
    ·show FK w W W3
     exact KP.trans hfk.out (KP.trans (KP.mono HF1.out fun b hb=>⟨hb.1,Nat.lt_of_lt_of_le hb.2 hfk.out.size⟩) (KP.trans (KP.mono HF2.out fun b hb=>⟨hb.1,Nat.lt_of_lt_of_le hb.2 HW1.out⟩) hkp))
  ·rw [show decide (k<ns.length)=false from by simpa using hlt] at HIX
   go_wp2_with fail
   refine HIX.out.mono ?_
   rintro r w1 ⟨rfl,hp1,hf1⟩
   have HP1:=zz hp1
   have HF1:=zz hf1
   clear hp1 hf1 HIX
   go_wp2_with fail
   go_ret
   obtain rfl:k=ns.length:=by omega
   rw [List.take_of_length_le (Nat.le_refl _)] at HROW
   have hR1:w1.ownsRow W.heap.size 9 1 (.slice q ns.length cq) ns.length (ns.map fun s=>Value.string (S s)):=row_keep HROW.out fun g hg hl=>HF1.out.block g ⟨by
    rcases HROW.out.2 with ⟨e,_⟩ | ⟨g',cap,cur,e,hb,_⟩
    ·injection e with e1;subst e1;cases hg
    ·cases e
     have:g'=g:=by simpa [Value.ownBlock] using hg
     omega,hl⟩
   obtain ⟨h1,h2⟩:=sm_row (w:=W) hR1 rfl (Nat.le_refl _) HS.out
   exact ⟨q,cq,rfl,h1,h2,HP1.out,KP.trans hfk.out (KP.mono HF1.out fun b hb=>⟨hb.1,Nat.lt_of_lt_of_le hb.2 hfk.out.size⟩)⟩
theorem namesX {c:Nat→Nat} {B:Nat} {l:List Tk} {w:World} {p:Ps} {W:World} (h:PW c B l w p W) :
 Calls Tryz.prog 175 #[.pointer (some ⟨B,0,none⟩)] W fun r W'=>∃ pn cn,r=.returned (.slice pn (namesN (l.drop p.tk)).length cn)∧SlOK pn (namesN (l.drop p.tk)).length cn∧SM (fun b=>w.heap.size≤b∧b<W'.heap.size) W' pn (namesN (l.drop p.tk))∧PW c B l w { p with tk:=p.tk+(namesN (l.drop p.tk)).length } W'∧FK w W W':=by
 refine (namesY h).mono ?_
 rintro r W' ⟨pn,cn,h1,h2,h3,h4,h5⟩
 exact ⟨pn,cn,h1,h2,h3.mono fun b hb=>⟨Nat.le_trans h.size hb.1,hb.2.1⟩,h4,h5⟩
theorem isBindX {c:Nat→Nat} {B:Nat} {l:List Tk} {w:World} {p:Ps} {W:World} (h:PW c B l w p W) :
 Calls Tryz.prog 177 #[.pointer (some ⟨B,0,none⟩)] W fun r W'=>r=.returned (.bool (isD l p.tk 2 && isK l (p.tk+1) sBack))∧PW c B l w p W'∧FK w W W':=by
 obtain ⟨tp,tc,vr,ve,vs,vf,vd,vp,hL⟩:=h.look
 have HN:=zz (next_look (k:=1) hL (by decide))
 have HR:Hid ((isD l p.tk 2 && isK l (p.tk+1) sBack)=(isD l p.tk 2 && (decide ((tkAt l (p.tk+1)).kd=4) && (tkAt l (p.tk+1)).tx == sBack))):=rfl
 have HIS:=zz fun W' (hw:PW c B l w p W')=>isX (cap:=1) hw [2] (n:=1) rfl (by decide)
 simp only [mem1] at HIS
 have HH:=zz h
 generalize (isD l p.tk 2 && isK l (p.tk+1) sBack)=X at *
 unfold tkC at HN
 generalize tkAt l (p.tk+1)=t at *
 generalize isD l p.tk 2=d at *
 clear h hL
 go_enter Tryz.func177,Tryz.ntmps177
 go_wp2_with fail
 refine HN.out.mono ?_
 rintro r w1 ⟨rfl,hb1⟩
 have HB1:=zz hb1
 have hT:=(Hold.new w1 #[.int .i64 t.kd,.string (S t.tx),.int .i64 t.nu,.int .i64 t.ln,.int .i64 t.co] 51)
 have HTT:=zz hT
 have HP1:=zz ((HH.out.below hb1).alloc (.cells #[.int .i64 t.kd,.string (S t.tx),.int .i64 t.nu,.int .i64 t.ln,.int .i64 t.co] 51))
 clear hb1 hT HN
 go_wp2_with fail
 have hIS:=HIS.out _ HP1.out
 rw [World.size_alloc] at hIS
 refine hIS.mono ?_
 rintro r w2 ⟨rfl,hp2,hf2⟩
 have HP2:=zz hp2
 have HF2:Hid (FK w W w2):=FK.trans (FK.trans (FK.below HB1.out) (FK.alloc _ _ _)) hf2
 have hws:=HH.out.size
 have hbs:=HB1.out.size
 have hT2:=hf2.hold (by show w.heap.size≤w1.heap.size;omega) HTT.out
 have a0:=hT2.cell 0
 have a1:=hT2.cell 1
 simp only [lGA,lGS,lGZ] at a0 a1
 clear hp2 hf2 hIS HIS hT2
 cases d
 ·go_wp2_with fail
  go_ret
  exact ⟨by rw [HR.out];rfl,HP2.out,HF2.out⟩
 ·by_cases hk:t.kd=4
  ·have hk1:(t.kd == 4)=true:=by simpa using hk
   have HK:=zz hk
   clear hk
   cases hs:(t.tx == sBack)
   ·have hs1:((S t.tx).toList == ([60,45]:List UInt8))=false:=by rw [S_list];exact hs
    go_wp2_with fail
    go_ret
    exact ⟨by rw [HR.out,hs,HK.out];rfl,HP2.out,HF2.out⟩
   ·have hs1:((S t.tx).toList == ([60,45]:List UInt8))=true:=by rw [S_list];exact hs
    go_wp2_with fail
    go_ret
    exact ⟨by rw [HR.out,hs,HK.out];rfl,HP2.out,HF2.out⟩
  ·have hk1:(t.kd == 4)=false:=by simpa using hk
   have HK:=zz hk
   clear hk
   go_wp2_with fail
   go_ret
   exact ⟨by rw [HR.out,show decide (t.kd=4)=false from by simpa using HK.out];rfl,HP2.out,HF2.out⟩
theorem isAtomX {c:Nat→Nat} {B:Nat} {l:List Tk} {w:World} {p:Ps} {W:World} (h:PW c B l w p W) :
 Calls Tryz.prog 241 #[.pointer (some ⟨B,0,none⟩)] W fun r W'=>r=.returned (.bool (isAtm l p.tk))∧PW c B l w p W'∧FK w W W':=by
 obtain ⟨tp,tc,vr,ve,vs,vf,vd,vp,hL⟩:=h.look
 refine (isAtom_any hL).mono ?_
 rintro r W' ⟨rfl,hb⟩
 exact ⟨rfl,h.below hb,FK.below hb⟩
end Go.Proofs.YtcnnlecjdkfdjaaGreatDoor
