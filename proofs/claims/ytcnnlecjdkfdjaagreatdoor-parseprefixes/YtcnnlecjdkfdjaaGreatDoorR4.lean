/- R3 R4: the texts of these names, of which the claim is made. -/
import Derived.Test.YtcnnlecjdkfdjaaGreatDoorR2
set_option linter.unusedVariables false
set_option linter.unusedSimpArgs false
set_option maxRecDepth 100000
set_option maxHeartbeats 8000000
namespace Go.Proofs.YtcnnlecjdkfdjaaGreatDoor
open Go.RowKit
theorem lam_rule {c:Nat→Nat} {B:Nat} {l:List Tk} {p:Ps} {w:World} (hx:p.ex.length≤1000000000) (hP:PM c B l p w) (hn:p.ru.length≤1000000000) :
 Calls Tryz.prog 58 #[.pointer (some ⟨B,0,none⟩)] w (RQ c B l w (lamR l p)):=by
 have hmf:=mkf
 have HP0:=hide (PW.start hP)
 have h0:0<w.heap.size:=Nat.lt_of_le_of_lt (Nat.zero_le _) HP0.out.ltB
 have hz0:w.heap.size≤w.heap.size:=Nat.le_refl _
 obtain ⟨X,HX0⟩:∃ X,Hid (X=lamR l p):=⟨_,rfl⟩
 rw [← HX0.out]
 clear hP
 go_enter Tryz.func58,Tryz.ntmps58
 go_wp2_with fail
 refine (keyX HP0.out sLam).mono ?_
 rintro r w1 (⟨rfl,hk,hp⟩ | ⟨rfl,hk,hp,hf⟩)
 ·have HR:Hid (RQ c B l w X (.panicked stuckV) w1):=by
   show RQ c B l w X (.panicked stuckV) w1
   rw [HX0.out.trans (key_st hk)]
   exact hp.stuck rfl
  clear hk hp
  unfold stuckV at *
  go_wp2_with fail
  exact ⟨rfl,HR.out⟩
 have HX1:=hide (HX0.out.trans (key_go hk))
 have HP1:=hide hp
 have hz1:w.heap.size≤w1.heap.size:=HP1.out.size
 have hy1:=hf.size
 clear hk hp hf
 have ht:=(HP1.out).token
 go_wp2_with fail
 refine (nameX HP1.out).mono ?_
 rintro r w2 (⟨rfl,hk,hp⟩ | ⟨rfl,hk,hp,hf⟩)
 ·have HR:Hid (RQ c B l w X (.panicked stuckV) w2):=by
   show RQ c B l w X (.panicked stuckV) w2
   rw [HX1.out.trans (take_st hk)]
   exact hp.stuck rfl
  clear hk hp
  unfold stuckV at *
  go_wp2_with fail
  exact ⟨rfl,HR.out⟩
 have HX2:=hide (HX1.out.trans (take_go hk))
 have HP2:=hide hp
 have hz2:w.heap.size≤w2.heap.size:=HP2.out.size
 have hy2:=hf.size
 clear hk hp hf
 go_wp2_with fail
 refine (bindsX HP2.out 4 _ (ht _).1).mono ?_
 rintro r w3 ⟨pn,rfl,hso,hsm,hp,hf⟩
 have HP3:=hide hp
 have hz3:w.heap.size≤w3.heap.size:=HP3.out.size
 have hy3:=hf.size
 clear hp hf
 have HSO:=hide hso
 have HSM:=hide hsm
 clear hso hsm
 go_wp2_with fail
 refine (makingX HP3.out (pn:=pn) (cn:=1) (bindT 4 (tkAt l (p.tk+1)).tx) 0 (Nat.zero_le _) hx (by simp [bindT]) (by simp [bindT]) HSO.out HSM.out).mono ?_
 rintro r w4 ⟨e,bp4,bf4,rfl,hc,hlt,hle,hp,hf⟩
 have HP4:=hide hp
 have hz4:w.heap.size≤w4.heap.size:=HP4.out.size
 have hy4:=hf.size
 have HM_4:=hide hc
 clear hp hf hc
 go_wp2_with fail
 refine (keyX HP4.out sArrow).mono ?_
 rintro r w5 (⟨rfl,hk,hp⟩ | ⟨rfl,hk,hp,hf⟩)
 ·have HR:Hid (RQ c B l w X (.panicked stuckV) w5):=by
   show RQ c B l w X (.panicked stuckV) w5
   rw [HX2.out.trans (key_st hk)]
   exact hp.stuck rfl
  clear hk hp
  unfold stuckV at *
  go_wp2_with fail
  exact ⟨rfl,HR.out⟩
 have HX5:=hide (HX2.out.trans (key_go hk))
 have HP5:=hide hp
 have hz5:w.heap.size≤w5.heap.size:=HP5.out.size
 have hy5:=hf.size
 have HM_5:=hide (HM_4.out.keep hf)
 clear hk hp hf
 go_wp2_with fail
 refine (thenX (m:=2) HP5.out [r0 10,rMake (bindT 4 (tkAt l (p.tk+1)).tx) p.ex.length] e (10+(p.ru.length+0)) hn rfl (by decide) (by omega) ?rus).mono ?_
 case rus=>exact ⟨⟨by decide,by decide,rfl⟩,HM_5.out.ruv rfl,trivial⟩
 rintro r w6 ⟨rfl,hq⟩
 have HQ:=hide hq
 clear hq
 go_wp2_with fail
 go_end0
 rw [HX5.out]
 exact ⟨rfl,HQ.out⟩
theorem let_rule {c:Nat→Nat} {B:Nat} {l:List Tk} {p:Ps} {w:World} (hx:p.ex.length≤1000000000) (hP:PM c B l p w) (hn:p.ru.length≤1000000000) :
 Calls Tryz.prog 59 #[.pointer (some ⟨B,0,none⟩)] w (RQ c B l w (letR l p)):=by
 have hmf:=mkf
 have HP0:=hide (PW.start hP)
 have h0:0<w.heap.size:=Nat.lt_of_le_of_lt (Nat.zero_le _) HP0.out.ltB
 have hz0:w.heap.size≤w.heap.size:=Nat.le_refl _
 obtain ⟨X,HX0⟩:∃ X,Hid (X=letR l p):=⟨_,rfl⟩
 rw [← HX0.out]
 clear hP
 go_enter Tryz.func59,Tryz.ntmps59
 go_wp2_with fail
 refine (keyX HP0.out sLet).mono ?_
 rintro r w1 (⟨rfl,hk,hp⟩ | ⟨rfl,hk,hp,hf⟩)
 ·have HR:Hid (RQ c B l w X (.panicked stuckV) w1):=by
   show RQ c B l w X (.panicked stuckV) w1
   rw [HX0.out.trans (key_st hk)]
   exact hp.stuck rfl
  clear hk hp
  unfold stuckV at *
  go_wp2_with fail
  exact ⟨rfl,HR.out⟩
 have HX1:=hide (HX0.out.trans (key_go hk))
 have HP1:=hide hp
 have hz1:w.heap.size≤w1.heap.size:=HP1.out.size
 have hy1:=hf.size
 clear hk hp hf
 have ht:=(HP1.out).token
 go_wp2_with fail
 refine (nameX HP1.out).mono ?_
 rintro r w2 (⟨rfl,hk,hp⟩ | ⟨rfl,hk,hp,hf⟩)
 ·have HR:Hid (RQ c B l w X (.panicked stuckV) w2):=by
   show RQ c B l w X (.panicked stuckV) w2
   rw [HX1.out.trans (take_st hk)]
   exact hp.stuck rfl
  clear hk hp
  unfold stuckV at *
  go_wp2_with fail
  exact ⟨rfl,HR.out⟩
 have HX2:=hide (HX1.out.trans (take_go hk))
 have HP2:=hide hp
 have hz2:w.heap.size≤w2.heap.size:=HP2.out.size
 have hy2:=hf.size
 clear hk hp hf
 go_wp2_with fail
 refine (bindsX HP2.out 6 _ (ht _).1).mono ?_
 rintro r w3 ⟨pn,rfl,hso,hsm,hp,hf⟩
 have HP3:=hide hp
 have hz3:w.heap.size≤w3.heap.size:=HP3.out.size
 have hy3:=hf.size
 clear hp hf
 have HSO:=hide hso
 have HSM:=hide hsm
 clear hso hsm
 go_wp2_with fail
 refine (makingX HP3.out (pn:=pn) (cn:=1) (bindT 6 (tkAt l (p.tk+1)).tx) 0 (Nat.zero_le _) hx (by simp [bindT]) (by simp [bindT]) HSO.out HSM.out).mono ?_
 rintro r w4 ⟨e,bp4,bf4,rfl,hc,hlt,hle,hp,hf⟩
 have HP4:=hide hp
 have hz4:w.heap.size≤w4.heap.size:=HP4.out.size
 have hy4:=hf.size
 have HM_4:=hide hc
 clear hp hf hc
 go_wp2_with fail
 refine (keyX HP4.out sEq).mono ?_
 rintro r w5 (⟨rfl,hk,hp⟩ | ⟨rfl,hk,hp,hf⟩)
 ·have HR:Hid (RQ c B l w X (.panicked stuckV) w5):=by
   show RQ c B l w X (.panicked stuckV) w5
   rw [HX2.out.trans (key_st hk)]
   exact hp.stuck rfl
  clear hk hp
  unfold stuckV at *
  go_wp2_with fail
  exact ⟨rfl,HR.out⟩
 have HX5:=hide (HX2.out.trans (key_go hk))
 have HP5:=hide hp
 have hz5:w.heap.size≤w5.heap.size:=HP5.out.size
 have hy5:=hf.size
 have HM_5:=hide (HM_4.out.keep hf)
 clear hk hp hf
 go_wp2_with fail
 refine (laterX HP5.out sIn e (by omega)).mono ?_
 rintro r w6 ⟨b16,b26,rfl,hc,hp,hf⟩
 have HP6:=hide hp
 have hz6:w.heap.size≤w6.heap.size:=HP6.out.size
 have hy6:=hf.size
 have HM_6:=hide (HM_5.out.keep hf)
 have HL_6:=hide hc
 clear hp hf hc
 go_wp2_with fail
 refine (thenX (m:=4) HP6.out [r0 10,rLater sIn,r0 10,rMake (bindT 6 (tkAt l (p.tk+1)).tx) p.ex.length] e (10+(p.ru.length+0)) hn rfl (by decide) (by omega) ?rus).mono ?_
 case rus=>exact ⟨⟨by decide,by decide,rfl⟩,HL_6.out.ruv,⟨by decide,by decide,rfl⟩,HM_6.out.ruv rfl,trivial⟩
 rintro r w7 ⟨rfl,hq⟩
 have HQ:=hide hq
 clear hq
 go_wp2_with fail
 go_end0
 rw [HX5.out]
 exact ⟨rfl,HQ.out⟩
theorem ways_rule {c:Nat→Nat} {B:Nat} {l:List Tk} {p:Ps} {w:World} (hx:p.ex.length≤1000000000) (hP:PM c B l p w) (hn:p.ru.length≤1000000000) :
 Calls Tryz.prog 60 #[.pointer (some ⟨B,0,none⟩)] w (RQ c B l w (waysR l p)):=by
 have hmf:=mkf
 have HP0:=hide (PW.start hP)
 have h0:0<w.heap.size:=Nat.lt_of_le_of_lt (Nat.zero_le _) HP0.out.ltB
 have hz0:w.heap.size≤w.heap.size:=Nat.le_refl _
 obtain ⟨X,HX0⟩:∃ X,Hid (X=waysR l p):=⟨_,rfl⟩
 rw [← HX0.out]
 clear hP
 go_enter Tryz.func60,Tryz.ntmps60
 go_wp2_with fail
 refine (keyX HP0.out sCase).mono ?_
 rintro r w1 (⟨rfl,hk,hp⟩ | ⟨rfl,hk,hp,hf⟩)
 ·have HR:Hid (RQ c B l w X (.panicked stuckV) w1):=by
   show RQ c B l w X (.panicked stuckV) w1
   rw [HX0.out.trans (key_st hk)]
   exact hp.stuck rfl
  clear hk hp
  unfold stuckV at *
  go_wp2_with fail
  exact ⟨rfl,HR.out⟩
 have HX1:=hide (HX0.out.trans (key_go hk))
 have HP1:=hide hp
 have hz1:w.heap.size≤w1.heap.size:=HP1.out.size
 have hy1:=hf.size
 clear hk hp hf
 go_wp2_with fail
 refine (makingX HP1.out (pn:=none) (cn:=0) (kindT 7) 0 (Nat.zero_le _) hx (by simp [kindT]) (by simp [kindT]) ⟨Nat.le_refl _,by simp [kindT],fun _=>rfl⟩ (.inl rfl)).mono ?_
 rintro r w2 ⟨e,bp2,bf2,rfl,hc,hlt,hle,hp,hf⟩
 have HP2:=hide hp
 have hz2:w.heap.size≤w2.heap.size:=HP2.out.size
 have hy2:=hf.size
 have HM_2:=hide hc
 clear hp hf hc
 go_wp2_with fail
 refine (laterX HP2.out sOf e (by omega)).mono ?_
 rintro r w3 ⟨b13,b23,rfl,hc,hp,hf⟩
 have HP3:=hide hp
 have hz3:w.heap.size≤w3.heap.size:=HP3.out.size
 have hy3:=hf.size
 have HM_3:=hide (HM_2.out.keep hf)
 have HA_3:=hide hc
 clear hp hf hc
 go_wp2_with fail
 refine (laterX HP3.out sCurl e (by omega)).mono ?_
 rintro r w4 ⟨b14,b24,rfl,hc,hp,hf⟩
 have HP4:=hide hp
 have hz4:w.heap.size≤w4.heap.size:=HP4.out.size
 have hy4:=hf.size
 have HM_4:=hide (HM_3.out.keep hf)
 have HA_4:=hide (HA_3.out.keep hf)
 have HB_4:=hide hc
 clear hp hf hc
 go_wp2_with fail
 refine (moreX HP4.out sSemi 11 e (by omega)).mono ?_
 rintro r w5 ⟨b15,b25,b35,rfl,hc,hp,hf⟩
 have HP5:=hide hp
 have hz5:w.heap.size≤w5.heap.size:=HP5.out.size
 have hy5:=hf.size
 have HM_5:=hide (HM_4.out.keep hf)
 have HA_5:=hide (HA_4.out.keep hf)
 have HB_5:=hide (HB_4.out.keep hf)
 have HC_5:=hide hc
 clear hp hf hc
 go_wp2_with fail
 refine (laterX HP5.out sUncurl e (by omega)).mono ?_
 rintro r w6 ⟨b16,b26,rfl,hc,hp,hf⟩
 have HP6:=hide hp
 have hz6:w.heap.size≤w6.heap.size:=HP6.out.size
 have hy6:=hf.size
 have HM_6:=hide (HM_5.out.keep hf)
 have HA_6:=hide (HA_5.out.keep hf)
 have HB_6:=hide (HB_5.out.keep hf)
 have HC_6:=hide (HC_5.out.keep hf)
 have HD_6:=hide hc
 clear hp hf hc
 go_wp2_with fail
 refine (thenX (m:=7) HP6.out [r0 10,rLater sOf,rLater sCurl,r0 11,rMore sSemi 11,rLater sUncurl,rMake (kindT 7) p.ex.length] e (10+(p.ru.length+0)) hn rfl (by decide) (by omega) ?rus).mono ?_
 case rus=>exact ⟨⟨by decide,by decide,rfl⟩,HA_6.out.ruv,HB_6.out.ruv,⟨by decide,by decide,rfl⟩,HC_6.out.ruv,HD_6.out.ruv,HM_6.out.ruv rfl,trivial⟩
 rintro r w7 ⟨rfl,hq⟩
 have HQ:=hide hq
 clear hq
 go_wp2_with fail
 go_end0
 rw [HX1.out]
 exact ⟨rfl,HQ.out⟩
theorem choice_rule {c:Nat→Nat} {B:Nat} {l:List Tk} {p:Ps} {w:World} (hx:p.ex.length≤1000000000) (hP:PM c B l p w) (hn:p.ru.length≤1000000000) :
 Calls Tryz.prog 61 #[.pointer (some ⟨B,0,none⟩)] w (RQ c B l w (choiceR l p)):=by
 have hmf:=mkf
 have HP0:=hide (PW.start hP)
 have h0:0<w.heap.size:=Nat.lt_of_le_of_lt (Nat.zero_le _) HP0.out.ltB
 have hz0:w.heap.size≤w.heap.size:=Nat.le_refl _
 obtain ⟨X,HX0⟩:∃ X,Hid (X=choiceR l p):=⟨_,rfl⟩
 rw [← HX0.out]
 clear hP
 go_enter Tryz.func61,Tryz.ntmps61
 go_wp2_with fail
 refine (keyX HP0.out sIf).mono ?_
 rintro r w1 (⟨rfl,hk,hp⟩ | ⟨rfl,hk,hp,hf⟩)
 ·have HR:Hid (RQ c B l w X (.panicked stuckV) w1):=by
   show RQ c B l w X (.panicked stuckV) w1
   rw [HX0.out.trans (key_st hk)]
   exact hp.stuck rfl
  clear hk hp
  unfold stuckV at *
  go_wp2_with fail
  exact ⟨rfl,HR.out⟩
 have HX1:=hide (HX0.out.trans (key_go hk))
 have HP1:=hide hp
 have hz1:w.heap.size≤w1.heap.size:=HP1.out.size
 have hy1:=hf.size
 clear hk hp hf
 go_wp2_with fail
 refine (makingX HP1.out (pn:=none) (cn:=0) (kindT 10) 0 (Nat.zero_le _) hx (by simp [kindT]) (by simp [kindT]) ⟨Nat.le_refl _,by simp [kindT],fun _=>rfl⟩ (.inl rfl)).mono ?_
 rintro r w2 ⟨e,bp2,bf2,rfl,hc,hlt,hle,hp,hf⟩
 have HP2:=hide hp
 have hz2:w.heap.size≤w2.heap.size:=HP2.out.size
 have hy2:=hf.size
 have HM_2:=hide hc
 clear hp hf hc
 go_wp2_with fail
 refine (laterX HP2.out sThen e (by omega)).mono ?_
 rintro r w3 ⟨b13,b23,rfl,hc,hp,hf⟩
 have HP3:=hide hp
 have hz3:w.heap.size≤w3.heap.size:=HP3.out.size
 have hy3:=hf.size
 have HM_3:=hide (HM_2.out.keep hf)
 have HA_3:=hide hc
 clear hp hf hc
 go_wp2_with fail
 refine (laterX HP3.out sElse e (by omega)).mono ?_
 rintro r w4 ⟨b14,b24,rfl,hc,hp,hf⟩
 have HP4:=hide hp
 have hz4:w.heap.size≤w4.heap.size:=HP4.out.size
 have hy4:=hf.size
 have HM_4:=hide (HM_3.out.keep hf)
 have HA_4:=hide (HA_3.out.keep hf)
 have HB_4:=hide hc
 clear hp hf hc
 go_wp2_with fail
 refine (thenX (m:=6) HP4.out [r0 10,rLater sThen,r0 10,rLater sElse,r0 10,rMake (kindT 10) p.ex.length] e (10+(p.ru.length+0)) hn rfl (by decide) (by omega) ?rus).mono ?_
 case rus=>exact ⟨⟨by decide,by decide,rfl⟩,HA_4.out.ruv,⟨by decide,by decide,rfl⟩,HB_4.out.ruv,⟨by decide,by decide,rfl⟩,HM_4.out.ruv rfl,trivial⟩
 rintro r w5 ⟨rfl,hq⟩
 have HQ:=hide hq
 clear hq
 go_wp2_with fail
 go_end0
 rw [HX1.out]
 exact ⟨rfl,HQ.out⟩
theorem block_rule {c:Nat→Nat} {B:Nat} {l:List Tk} {p:Ps} {w:World} {s:List UInt8} {k:Int} (hx:p.ex.length≤1000000000) (hP:PM c B l p w) (hn:p.ru.length≤1000000000) :
 Calls Tryz.prog 62 #[.pointer (some ⟨B,0,none⟩),.string (S s),.int .i64 k] w (RQ c B l w (blockR l s k p)):=by
 have hmf:=mkf
 have HP0:=hide (PW.start hP)
 have h0:0<w.heap.size:=Nat.lt_of_le_of_lt (Nat.zero_le _) HP0.out.ltB
 have hz0:w.heap.size≤w.heap.size:=Nat.le_refl _
 obtain ⟨X,HX0⟩:∃ X,Hid (X=blockR l s k p):=⟨_,rfl⟩
 rw [← HX0.out]
 clear hP
 go_enter Tryz.func62,Tryz.ntmps62
 go_wp2_with fail
 refine (keyX HP0.out s).mono ?_
 rintro r w1 (⟨rfl,hk,hp⟩ | ⟨rfl,hk,hp,hf⟩)
 ·have HR:Hid (RQ c B l w X (.panicked stuckV) w1):=by
   show RQ c B l w X (.panicked stuckV) w1
   rw [HX0.out.trans (key_st hk)]
   exact hp.stuck rfl
  clear hk hp
  unfold stuckV at *
  go_wp2_with fail
  exact ⟨rfl,HR.out⟩
 have HX1:=hide (HX0.out.trans (key_go hk))
 have HP1:=hide hp
 have hz1:w.heap.size≤w1.heap.size:=HP1.out.size
 have hy1:=hf.size
 clear hk hp hf
 go_wp2_with fail
 refine (makingX HP1.out (pn:=none) (cn:=0) (kindT k) 0 (Nat.zero_le _) hx (by simp [kindT]) (by simp [kindT]) ⟨Nat.le_refl _,by simp [kindT],fun _=>rfl⟩ (.inl rfl)).mono ?_
 rintro r w2 ⟨e,bp2,bf2,rfl,hc,hlt,hle,hp,hf⟩
 have HP2:=hide hp
 have hz2:w.heap.size≤w2.heap.size:=HP2.out.size
 have hy2:=hf.size
 have HM_2:=hide hc
 clear hp hf hc
 go_wp2_with fail
 refine (laterX HP2.out sCurl e (by omega)).mono ?_
 rintro r w3 ⟨b13,b23,rfl,hc,hp,hf⟩
 have HP3:=hide hp
 have hz3:w.heap.size≤w3.heap.size:=HP3.out.size
 have hy3:=hf.size
 have HM_3:=hide (HM_2.out.keep hf)
 have HA_3:=hide hc
 clear hp hf hc
 go_wp2_with fail
 refine (moreX HP3.out sSemi 12 e (by omega)).mono ?_
 rintro r w4 ⟨b14,b24,b34,rfl,hc,hp,hf⟩
 have HP4:=hide hp
 have hz4:w.heap.size≤w4.heap.size:=HP4.out.size
 have hy4:=hf.size
 have HM_4:=hide (HM_3.out.keep hf)
 have HA_4:=hide (HA_3.out.keep hf)
 have HB_4:=hide hc
 clear hp hf hc
 go_wp2_with fail
 refine (laterX HP4.out sUncurl e (by omega)).mono ?_
 rintro r w5 ⟨b15,b25,rfl,hc,hp,hf⟩
 have HP5:=hide hp
 have hz5:w.heap.size≤w5.heap.size:=HP5.out.size
 have hy5:=hf.size
 have HM_5:=hide (HM_4.out.keep hf)
 have HA_5:=hide (HA_4.out.keep hf)
 have HB_5:=hide (HB_4.out.keep hf)
 have HC_5:=hide hc
 clear hp hf hc
 go_wp2_with fail
 refine (thenX (m:=5) HP5.out [rLater sCurl,r0 12,rMore sSemi 12,rLater sUncurl,rMake (kindT k) p.ex.length] e (10+(p.ru.length+0)) hn rfl (by decide) (by omega) ?rus).mono ?_
 case rus=>exact ⟨HA_5.out.ruv,⟨by decide,by decide,rfl⟩,HB_5.out.ruv,HC_5.out.ruv,HM_5.out.ruv rfl,trivial⟩
 rintro r w6 ⟨rfl,hq⟩
 have HQ:=hide hq
 clear hq
 go_wp2_with fail
 go_end0
 rw [HX1.out]
 exact ⟨rfl,HQ.out⟩
theorem operX {c:Nat→Nat} {B:Nat} {l:List Tk} {w:World} {p:Ps} {W:World} (h:PW c B l w p W) (hk:isD l p.tk 4=true) (h1:1≤p.ex.length) (hx:p.ex.length≤1000000000) :
 Calls Tryz.prog 180 #[.pointer (some ⟨B,0,none⟩)] W fun r W'=>∃ e bp bf,r=.returned (.func (.func 173) #[] #[bx e,bx bp,bx bf])∧MakB B w W' e (.func (.func 173) #[] #[bx e,bx bp,bx bf]) (opT (tkAt l p.tk).tx) (p.ex.length - 1)∧e<W'.heap.size∧W.heap.size≤e∧PW c B l w { p with tk:=p.tk+1 } W'∧FK w W W':=by
 have ht:=(h.token p.tk).1
 have HT:=hide (takeX h 4 (by decide) hk)
 have hft:=fldT
 have HTX:Hid (∀ {W:World},PW c B l w { p with tk:=p.tk+1 } W→_):=fun {W} h=>makingX (pn:=none) (cn:=0) h (opT (tkAt l p.tk).tx) 1 h1 hx ht (by simp [opT]) ⟨Nat.le_refl _,by simp [opT],fun _=>rfl⟩ (.inl rfl)
 unfold tkC at HT
 simp only [opT] at HTX ⊢
 generalize tkAt l p.tk=t at *
 clear hk h
 go_enter Tryz.func180,Tryz.ntmps180
 go_wp2_with fail
 refine HT.out.mono ?_
 rintro r w1 ⟨rfl,hp,hf⟩
 have HP:=hide hp
 have HF:=hide hf
 clear hp hf
 go_wp2_with fail
 refine (HTX.out HP.out).mono ?_
 rintro r w2 ⟨e,bp,bf,rfl,hc,hlt,hle,hp,hf⟩
 have HC:=hide hc
 have HF2:=hide hf
 have HP2:=hide hp
 have hs:=HF.out.size
 clear hc hf hp
 go_wp2_with fail
 go_ret
 exact ⟨e,bp,bf,rfl,HC.out,hlt,by omega,HP2.out,HF.out.trans HF2.out⟩
theorem isK_D {l:List Tk} {i:Nat} {s:List UInt8} (h:isK l i s=true):isD l i 4=true:=by unfold isK at h;rw [Bool.and_eq_true] at h;exact h.1
theorem or_D {l:List Tk} {i:Nat} {s t:List UInt8} (h:(isK l i s || isK l i t)=true):isD l i 4=true:=by
 rcases Bool.or_eq_true _ _ ▸ h with h | h
 ·exact isK_D h
 ·exact isK_D h
theorem oper_go {l:List Tk} {p:Ps} {f:Ru→Ps→Rs} (h:isD l p.tk 4=true):operR l p f=f (rMake (opT (tkAt l p.tk).tx) (p.ex.length - 1)) { p with tk:=p.tk+1 }:=take_go h
theorem compared_rule {c:Nat→Nat} {B:Nat} {l:List Tk} {p:Ps} {w:World} (h1:1≤p.ex.length) (hx:p.ex.length≤1000000000) (hP:PM c B l p w) (hn:p.ru.length≤1000000000) :
 Calls Tryz.prog 122 #[.pointer (some ⟨B,0,none⟩)] w (RQ c B l w (comparedR l p)):=by
 have hmf:=mkf
 have HP0:=hide (PW.start hP)
 have h0:0<w.heap.size:=Nat.lt_of_le_of_lt (Nat.zero_le _) HP0.out.ltB
 have hz0:w.heap.size≤w.heap.size:=Nat.le_refl _
 obtain ⟨X,HX0⟩:∃ X,Hid (X=comparedR l p):=⟨_,rfl⟩
 rw [← HX0.out]
 clear hP
 go_enter Tryz.func122,Tryz.ntmps122
 go_wp2_with fail
 refine (isKeyX HP0.out [[61,61],[60]] rfl (by decide)).mono ?_
 rintro r w1 ⟨hr,hp,hf⟩
 have HP1:=hide hp
 have hz1:w.heap.size≤w1.heap.size:=HP1.out.size
 have hy1:=hf.size
 clear hp hf
 rw [any2] at hr
 cases hb:(isK l p.tk [61,61] || isK l p.tk [60])
 ·rw [hb] at hr
  subst hr
  have HX2:=hide (HX0.out.trans (if_neg (by simp [hb])))
  clear hb
  go_wp2_with fail
  go_end0
  rw [HX2.out]
  exact HP1.out.done
 ·rw [hb] at hr
  subst hr
  have HX3:=hide (HX0.out.trans (if_pos hb))
  have hd:=or_D hb
  clear hb
  go_wp2_with fail
  refine (operX HP1.out hd h1 hx).mono ?_
  rintro r w4 ⟨e,bp4,bf4,rfl,hc,hlt,hle,hp,hf⟩
  have HP4:=hide hp
  have hz4:w.heap.size≤w4.heap.size:=HP4.out.size
  have hy4:=hf.size
  have HM_4:=hide hc
  clear hp hf hc
  have HX4:=hide (HX3.out.trans (oper_go hd))
  go_wp2_with fail
  refine (thenX (m:=2) HP4.out [r0 15,rMake (opT (tkAt l p.tk).tx) (p.ex.length - 1)] e (10+(p.ru.length+0)) hn rfl (by decide) (by omega) ?rus).mono ?_
  case rus=>exact ⟨⟨by decide,by decide,rfl⟩,HM_4.out.ruv rfl,trivial⟩
  rintro r w5 ⟨rfl,hq⟩
  have HQ:=hide hq
  clear hq
  go_wp2_with fail
  go_end0
  rw [HX4.out]
  exact ⟨rfl,HQ.out⟩
theorem added_rule {c:Nat→Nat} {B:Nat} {l:List Tk} {p:Ps} {w:World} (h1:1≤p.ex.length) (hx:p.ex.length≤1000000000) (hP:PM c B l p w) (hn:p.ru.length≤1000000000) :
 Calls Tryz.prog 179 #[.pointer (some ⟨B,0,none⟩)] w (RQ c B l w (addedR l p)):=by
 have hmf:=mkf
 have HP0:=hide (PW.start hP)
 have h0:0<w.heap.size:=Nat.lt_of_le_of_lt (Nat.zero_le _) HP0.out.ltB
 have hz0:w.heap.size≤w.heap.size:=Nat.le_refl _
 obtain ⟨X,HX0⟩:∃ X,Hid (X=addedR l p):=⟨_,rfl⟩
 rw [← HX0.out]
 clear hP
 go_enter Tryz.func179,Tryz.ntmps179
 go_wp2_with fail
 refine (isKeyX HP0.out [[43],[45]] rfl (by decide)).mono ?_
 rintro r w1 ⟨hr,hp,hf⟩
 have HP1:=hide hp
 have hz1:w.heap.size≤w1.heap.size:=HP1.out.size
 have hy1:=hf.size
 clear hp hf
 rw [any2] at hr
 cases hb:(isK l p.tk [43] || isK l p.tk [45])
 ·rw [hb] at hr
  subst hr
  have HX2:=hide (HX0.out.trans (if_neg (by simp [hb])))
  clear hb
  go_wp2_with fail
  go_end0
  rw [HX2.out]
  exact HP1.out.done
 ·rw [hb] at hr
  subst hr
  have HX3:=hide (HX0.out.trans (if_pos hb))
  have hd:=or_D hb
  clear hb
  go_wp2_with fail
  refine (operX HP1.out hd h1 hx).mono ?_
  rintro r w4 ⟨e,bp4,bf4,rfl,hc,hlt,hle,hp,hf⟩
  have HP4:=hide hp
  have hz4:w.heap.size≤w4.heap.size:=HP4.out.size
  have hy4:=hf.size
  have HM_4:=hide hc
  clear hp hf hc
  have HX4:=hide (HX3.out.trans (oper_go hd))
  go_wp2_with fail
  refine (thenX (m:=3) HP4.out [r0 17,rMake (opT (tkAt l p.tk).tx) (p.ex.length - 1),r0 16] e (10+(p.ru.length+1)) hn rfl (by decide) (by omega) ?rus).mono ?_
  case rus=>exact ⟨⟨by decide,by decide,rfl⟩,HM_4.out.ruv rfl,⟨by decide,by decide,rfl⟩,trivial⟩
  rintro r w5 ⟨rfl,hq⟩
  have HQ:=hide hq
  clear hq
  go_wp2_with fail
  go_end0
  rw [HX4.out]
  exact ⟨rfl,HQ.out⟩
theorem multiplied_rule {c:Nat→Nat} {B:Nat} {l:List Tk} {p:Ps} {w:World} (h1:1≤p.ex.length) (hx:p.ex.length≤1000000000) (hP:PM c B l p w) (hn:p.ru.length≤1000000000) :
 Calls Tryz.prog 215 #[.pointer (some ⟨B,0,none⟩)] w (RQ c B l w (multipliedR l p)):=by
 have hmf:=mkf
 have HP0:=hide (PW.start hP)
 have h0:0<w.heap.size:=Nat.lt_of_le_of_lt (Nat.zero_le _) HP0.out.ltB
 have hz0:w.heap.size≤w.heap.size:=Nat.le_refl _
 obtain ⟨X,HX0⟩:∃ X,Hid (X=multipliedR l p):=⟨_,rfl⟩
 rw [← HX0.out]
 clear hP
 go_enter Tryz.func215,Tryz.ntmps215
 go_wp2_with fail
 refine (isKeyX HP0.out [[42],[47]] rfl (by decide)).mono ?_
 rintro r w1 ⟨hr,hp,hf⟩
 have HP1:=hide hp
 have hz1:w.heap.size≤w1.heap.size:=HP1.out.size
 have hy1:=hf.size
 clear hp hf
 rw [any2] at hr
 cases hb:(isK l p.tk [42] || isK l p.tk [47])
 ·rw [hb] at hr
  subst hr
  have HX2:=hide (HX0.out.trans (if_neg (by simp [hb])))
  clear hb
  go_wp2_with fail
  go_end0
  rw [HX2.out]
  exact HP1.out.done
 ·rw [hb] at hr
  subst hr
  have HX3:=hide (HX0.out.trans (if_pos hb))
  have hd:=or_D hb
  clear hb
  go_wp2_with fail
  refine (operX HP1.out hd h1 hx).mono ?_
  rintro r w4 ⟨e,bp4,bf4,rfl,hc,hlt,hle,hp,hf⟩
  have HP4:=hide hp
  have hz4:w.heap.size≤w4.heap.size:=HP4.out.size
  have hy4:=hf.size
  have HM_4:=hide hc
  clear hp hf hc
  have HX4:=hide (HX3.out.trans (oper_go hd))
  go_wp2_with fail
  refine (thenX (m:=3) HP4.out [r0 19,rMake (opT (tkAt l p.tk).tx) (p.ex.length - 1),r0 18] e (10+(p.ru.length+1)) hn rfl (by decide) (by omega) ?rus).mono ?_
  case rus=>exact ⟨⟨by decide,by decide,rfl⟩,HM_4.out.ruv rfl,⟨by decide,by decide,rfl⟩,trivial⟩
  rintro r w5 ⟨rfl,hq⟩
  have HQ:=hide hq
  clear hq
  go_wp2_with fail
  go_end0
  rw [HX4.out]
  exact ⟨rfl,HQ.out⟩
theorem sigApp_rule {c:Nat→Nat} {B:Nat} {l:List Tk} {p:Ps} {w:World} (hsm:p.sg.length≤1000000000) (hsa:∀ (c':Nat→Nat) (W:World),PM c' B l p W→Calls Tryz.prog 242 #[.pointer (some ⟨B,0,none⟩)] W (RQ c' B l W (sigAtomR l p))) (hP:PM c B l p w) (hn:p.ru.length≤1000000000) :
 Calls Tryz.prog 250 #[.pointer (some ⟨B,0,none⟩)] w (RQ c B l w (sigAppR l p)):=by
 have hmf:=mkf
 have HP0:=hide (PW.start hP)
 have h0:0<w.heap.size:=Nat.lt_of_le_of_lt (Nat.zero_le _) HP0.out.ltB
 have hz0:w.heap.size≤w.heap.size:=Nat.le_refl _
 obtain ⟨X,HX0⟩:∃ X,Hid (X=sigAppR l p):=⟨_,rfl⟩
 rw [← HX0.out]
 clear hP
 go_enter Tryz.func250,Tryz.ntmps250
 go_wp2_with fail
 refine (isX HP0.out [3] rfl (by decide)).mono ?_
 rintro r w1 ⟨hr,hp,hf⟩
 have HP1:=hide hp
 have hz1:w.heap.size≤w1.heap.size:=HP1.out.size
 have hy1:=hf.size
 clear hp hf
 rw [mem1] at hr
 cases hb:isD l p.tk 3
 ·rw [hb] at hr
  subst hr
  have HX2:=hide (HX0.out.trans (if_neg (by simp [hb])))
  clear hb
  go_wp2_with fail
  refine (callW HP1.out (fun c' hp'=>hsa c' _ hp')).mono ?_
  intro r w3 hq
  rw [← HX2.out] at hq
  have HQ:=hide hq
  clear hq
  cases X with
  | inl n=>
   obtain ⟨rfl,h⟩:=HQ.out
   unfold stuckV at *
   go_wp2_with fail
   exact ⟨rfl,HQ.out⟩
  | inr q=>
   obtain ⟨rfl,h⟩:=HQ.out
   go_wp2_with fail
   go_end0
   exact HQ.out
 ·rw [hb] at hr
  subst hr
  have HX4:=hide (HX0.out.trans (if_pos hb))
  clear hb
  have ht:=(HP1.out).token
  go_wp2_with fail
  refine (conX HP1.out).mono ?_
  rintro r w5 (⟨rfl,hk,hp⟩ | ⟨rfl,hk,hp,hf⟩)
  ·have HR:Hid (RQ c B l w X (.panicked stuckV) w5):=by
    show RQ c B l w X (.panicked stuckV) w5
    rw [HX4.out.trans (take_st hk)]
    exact hp.stuck rfl
   clear hk hp
   unfold stuckV at *
   go_wp2_with fail
   exact ⟨rfl,HR.out⟩
  have HX5:=hide (HX4.out.trans (take_go hk))
  have HP5:=hide hp
  have hz5:w.heap.size≤w5.heap.size:=HP5.out.size
  have hy5:=hf.size
  clear hk hp hf
  go_wp2_with fail
  refine (makingSigX HP5.out (tkAt l p.tk).tx 0 0 (by omega) (Nat.zero_le _) hsm (ht _).1).mono ?_
  rintro r w6 ⟨b16,b26,b36,rfl,hc,hp,hf⟩
  have HP6:=hide hp
  have hz6:w.heap.size≤w6.heap.size:=HP6.out.size
  have hy6:=hf.size
  have HM_6:=hide hc
  clear hp hf hc
  go_wp2_with fail
  refine (thenX (m:=2) HP6.out [r0 8,rSig (tkAt l p.tk).tx p.sg.length] 0 (0) hn rfl (by decide) (by omega) ?rus).mono ?_
  case rus=>exact ⟨⟨by decide,by decide,rfl⟩,HM_6.out.ruv,trivial⟩
  rintro r w7 ⟨rfl,hq⟩
  have HQ:=hide hq
  clear hq
  go_wp2_with fail
  go_end0
  rw [HX5.out]
  exact ⟨rfl,HQ.out⟩
end Go.Proofs.YtcnnlecjdkfdjaaGreatDoor
