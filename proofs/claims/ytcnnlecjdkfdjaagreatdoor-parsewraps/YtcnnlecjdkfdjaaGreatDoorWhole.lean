/- Parts of the proof. -/
import Derived.Test.YtcnnlecjdkfdjaaGreatDoorDefR
set_option linter.unusedVariables false
set_option linter.unusedSimpArgs false
set_option maxRecDepth 100000
set_option maxHeartbeats 8000000
namespace Go.Proofs.YtcnnlecjdkfdjaaGreatDoor
open Go.RowKit
theorem hold_dr {b:Nat} {C:Array Value} {t:TypeId} {W:World} (h:Hold b C t W):Hold b C t W.drew:=h
theorem data_rule {c:Nat→Nat} {B:Nat} {l:List Tk} {p:Ps} {w:World} (hP:PM c B l p w) (hn:p.ru.length≤1000000000) :
 Calls Tryz.prog 189 #[.pointer (some ⟨B,0,none⟩)] w (RQ c B l w (dataR l p)):=by
 have hmf:=mkf
 have HP0:=zz ((PW.start hP).alloc (.cells #[pB B] 58))
 have HBX:=zz (Hold.new w #[pB B] 58)
 have ht:=((PW.start hP).token (p.tk+1)).1
 have h0:0<w.heap.size:=Nat.lt_of_le_of_lt (Nat.zero_le _) HP0.out.ltB
 obtain ⟨X,HX0⟩:∃ X,Hid (X=dataR l p):=⟨_,rfl⟩
 rw [← HX0.out]
 clear hP
 go_enter Tryz.func189,Tryz.ntmps189
 go_wp2_with fail
 refine (keyX HP0.out sData).mono ?_
 rintro r w1 (⟨rfl,hk,hp⟩ | ⟨rfl,hk,hp,hf⟩)
 ·have HR:Hid (RQ c B l w X (.panicked stuckV) w1):=by
   show RQ c B l w X (.panicked stuckV) w1
   rw [HX0.out.trans (key_st hk)]
   exact hp.stuck rfl
  clear hk hp
  unfold stuckV at *
  go_wp2_with fail
  exact ⟨rfl,HR.out⟩
 have HX1:=zz (HX0.out.trans (key_go hk))
 have HP1:=zz hp
 have hz1:w.heap.size≤w1.heap.size:=HP1.out.size
 have hb1:=hf.hold (Nat.le_refl _) HBX.out
 have HB1:=zz hb1
 have hl1:=hb1.lt
 have c1:=hb1.cell 0
 simp only [lGA,lGZ] at c1
 clear hk hp hf hb1
 go_wp2_with fail
 refine region_J 7 (N:=6) (S:=(fun W':World=>W'.cell? ⟨w.heap.size,0,none⟩=some (.pointer (some ⟨B,0,none⟩)))) (by kernel_rfl) (by kernel_rfl) ?_
 have hS:(fun W':World=>W'.cell? ⟨w.heap.size,0,none⟩=some (.pointer (some ⟨B,0,none⟩))) w1.drew:=c1
 have HP1d:=zz HP1.out.drew
 have HB1d:=zz (hold_dr HB1.out)
 refine take_F 0 5 (.pointer (some ⟨B,0,none⟩)) hS ?_
 refine take_F 2 7 (.pointer (some ⟨B,0,none⟩)) hS ?_
 simp only [Act.put,lSI,lSZ,lSS]
 refine ready_E [1,5] ?_
 intro jj hjj
 rcases List.mem_cons.1 hjj with rfl | hjj
 ·clear hjj
  refine op_E fun K hK=>?_
  go_simp
  refine (conX HP1d.out).mono ?_
  rintro r w2 (⟨rfl,hk,hp⟩ | ⟨rfl,hk,hp,hf⟩)
  ·have HR:Hid (RQ c B l w X (.panicked stuckV) w2):=by
    show RQ c B l w X (.panicked stuckV) w2
    rw [HX1.out.trans (take_st hk)]
    exact hp.stuck rfl
   clear hk hp hK
   unfold stuckV at *
   exact ⟨rfl,HR.out⟩
  have HX2:=zz (HX1.out.trans (take_go hk))
  have hbx2:=hf.hold (Nat.le_refl _) HB1d.out
  have HBX2:=zz hbx2
  have hS2:=hbx2.cell 0
  simp only [lGA,lGZ] at hS2
  have HP2:=zz hp
  have hzz2:=hp.size
  clear hk hp hf hbx2
  refine hK _ _ ⟨fun _=>hS2,?_⟩
  clear hK K
  have hS:(fun W':World=>W'.cell? ⟨w.heap.size,0,none⟩=some (.pointer (some ⟨B,0,none⟩))) w2:=hS2
  refine ready_E [3,5] ?_
  intro jj hjj
  rcases List.mem_cons.1 hjj with rfl | hjj
  ·clear hjj
   refine op_E fun K hK=>?_
   go_simp
   refine (namesY HP2.out).mono ?_
   rintro r w3 ⟨pn,cn,rfl,hso,hsm,hp,hf⟩
   have hbx3:=hf.hold (Nat.le_refl _) HBX2.out
   have HBX3:=zz hbx3
   have hS3:=hbx3.cell 0
   simp only [lGA,lGZ] at hS3
   have HP3:=zz hp
   have hzz3:=hp.size
   have HSO:=zz hso
   have HSM:=zz hsm
   clear hp hf hso hsm hbx3
   refine hK _ _ ⟨fun _=>hS3,?_⟩
   clear hK K
   have hS:(fun W':World=>W'.cell? ⟨w.heap.size,0,none⟩=some (.pointer (some ⟨B,0,none⟩))) w3:=hS3
   refine take_F 4 9 (.agg #[.string (S (tkAt l (p.tk+1)).tx),.slice pn (namesN (l.drop (p.tk+1+1))).length cn,.slice none 0 0]) hS ?_
   simp only [Act.put,lSI,lSZ,lSS]
   refine ready_1 5 (op_E fun K hK=>?_)
   go_simp
   have HD0:=zz (Hold.new w3 #[.string ⟨#[]⟩,.slice none 0 0,.slice none 0 0] 77)
   have HPa:=zz (HP3.out.alloc (.cells #[.string ⟨#[]⟩,.slice none 0 0,.slice none 0 0] 77))
   have hbxa:=HBX3.out.alloc (.cells #[.string ⟨#[]⟩,.slice none 0 0,.slice none 0 0] 77)
   have HBXa:=zz hbxa
   have hSa:=hbxa.cell 0
   simp only [lGA,lGZ] at hSa
   have hza:w.heap.size≤w3.heap.size:=HP3.out.size
   have hba:w.heap.size<w3.heap.size:=HBX3.out.lt
   have HSa:=zz ((HSM.out.keep (KP.alloc w3 (.cells #[.string ⟨#[]⟩,.slice none 0 0,.slice none 0 0] 77) fun b hb=>hb.2.1)).mono (Q:=fun b=>w.heap.size≤b∧b<(w3.alloc (.cells #[.string ⟨#[]⟩,.slice none 0 0,.slice none 0 0] 77)).heap.size∧b≠w3.heap.size∧Un (w3.alloc (.cells #[.string ⟨#[]⟩,.slice none 0 0,.slice none 0 0] 77)) b) fun b hb=>⟨Nat.le_trans HP2.out.size hb.1,by have:=hb.2.1;simp;omega,by have:=hb.2.1;omega,hb.2.2.keep (Below.heap_alloc _ _ b hb.2.1)⟩)
   refine hK _ _ ⟨fun _=>hSa,?_⟩
   clear hK K
   have hsz:(w3.alloc (.cells #[.string ⟨#[]⟩,.slice none 0 0,.slice none 0 0] 77)).heap.size=w3.heap.size+1:=by simp
   obtain ⟨bd,HBD⟩:∃ bd,Hid (bd=w3.heap.size):=⟨_,rfl⟩
   rw [← HBD.out] at HD0 hza hba hsz HSa ⊢
   generalize hWa:w3.alloc (.cells #[.string ⟨#[]⟩,.slice none 0 0,.slice none 0 0] 77)=wa at *
   have HWA:=zz hWa
   have HSZ:=zz hsz
   clear hWa hsz
   have hbd:w.heap.size≤bd:=hza
   have hS:(fun W':World=>W'.cell? ⟨w.heap.size,0,none⟩=some (.pointer (some ⟨B,0,none⟩))) wa:=hSa
   refine ready_1 6 (op_E fun K hK=>?_)
   have z0:=HD0.out.frozen 0
   have z1:=HD0.out.frozen 1
   have z2:=HD0.out.frozen 2
   have y0:=HD0.out.cell 0
   have y1:=HD0.out.cell 1
   have y2:=HD0.out.cell 2
   simp only [lGA,lGS,lGZ] at y0 y1 y2
   go_simp
   refine hK _ _ ⟨fun h=>absurd h (by omega),?_⟩
   clear hK K
   have kst:KP (fun b=>b≠bd) wa (((wa.setCell ⟨bd,0,none⟩ (.string (S (tkAt l (p.tk+1)).tx))).setCell ⟨bd,1,none⟩ (.slice pn (namesN (l.drop (p.tk+1+1))).length cn)).setCell ⟨bd,2,none⟩ (.slice none 0 0)):=((KP.setCell _ _ _ _ (fun h=>h rfl)).trans (KP.setCell _ _ _ _ (fun h=>h rfl))).trans (KP.setCell _ _ _ _ (fun h=>h rfl))
   have HD4:Hid (Hold bd #[.string (S (tkAt l (p.tk+1)).tx),.slice pn (namesN (l.drop (p.tk+1+1))).length cn,.slice none 0 0] 77 (((wa.setCell ⟨bd,0,none⟩ (.string (S (tkAt l (p.tk+1)).tx))).setCell ⟨bd,1,none⟩ (.slice pn (namesN (l.drop (p.tk+1+1))).length cn)).setCell ⟨bd,2,none⟩ (.slice none 0 0))):=((HD0.out.set 0 _).set 1 _).set 2 _
   have HBX4:=zz ((kst.block _ (show w.heap.size≠bd by omega)).trans HBXa.out)
   have HP4:=zz (HPa.out.grow (kst.mono fun b hb=>by omega))
   have HSM4:Hid (SM (fun b=>w.heap.size≤b∧b<(((wa.setCell ⟨bd,0,none⟩ (.string (S (tkAt l (p.tk+1)).tx))).setCell ⟨bd,1,none⟩ (.slice pn (namesN (l.drop (p.tk+1+1))).length cn)).setCell ⟨bd,2,none⟩ (.slice none 0 0)).heap.size∧b≠bd∧Un (((wa.setCell ⟨bd,0,none⟩ (.string (S (tkAt l (p.tk+1)).tx))).setCell ⟨bd,1,none⟩ (.slice pn (namesN (l.drop (p.tk+1+1))).length cn)).setCell ⟨bd,2,none⟩ (.slice none 0 0)) b) (((wa.setCell ⟨bd,0,none⟩ (.string (S (tkAt l (p.tk+1)).tx))).setCell ⟨bd,1,none⟩ (.slice pn (namesN (l.drop (p.tk+1+1))).length cn)).setCell ⟨bd,2,none⟩ (.slice none 0 0)) pn (namesN (l.drop (p.tk+1+1)))):=(HSa.out.keep (kst.mono fun b hb=>hb.2.2.1)).mono fun b hb=>⟨hb.1,Nat.lt_of_lt_of_le hb.2.1 kst.size,hb.2.2.1,hb.2.2.2.keep (kst.block b hb.2.2.1)⟩
   clear kst z0 z1 z2 y0 y1 y2
   generalize (((wa.setCell ⟨bd,0,none⟩ (.string (S (tkAt l (p.tk+1)).tx))).setCell ⟨bd,1,none⟩ (.slice pn (namesN (l.drop (p.tk+1+1))).length cn)).setCell ⟨bd,2,none⟩ (.slice none 0 0))=w4 at *
   refine done_J (by kernel_rfl) ?_ _
   have hbx4:Hold w.heap.size #[pB B] 58 w4:=HBX4.out
   have c4:=hbx4.cell 0
   simp only [lGA,lGZ] at c4
   go_wp2_with fail
   refine (keyX HP4.out sEq).mono ?_
   rintro r w5 (⟨rfl,hk,hp⟩ | ⟨rfl,hk,hp,hf⟩)
   ·have HR:Hid (RQ c B l w X (.panicked stuckV) w5):=by
     show RQ c B l w X (.panicked stuckV) w5
     rw [HX2.out.trans (key_st hk)]
     exact hp.stuck rfl
    clear hk hp
    unfold stuckV at *
    go_wp2_with fail
    exact ⟨rfl,HR.out⟩
   have HX5:=zz (HX2.out.trans (key_go hk))
   have HP5:=zz hp
   have hz5:w.heap.size≤w5.heap.size:=HP5.out.size
   have hb5:=hf.hold (Nat.le_refl _) HBX4.out
   have HB5:=zz hb5
   have HD5:=zz (hf.hold hbd HD4.out)
   have HS5:=zz ((HSM4.out.keep (KP.mono hf fun b hb=>⟨hb.1,hb.2.1⟩)).mono (Q:=fun b=>w.heap.size≤b∧b<w5.heap.size∧b≠bd∧Un w5 b) fun b hb=>⟨hb.1,Nat.lt_of_lt_of_le hb.2.1 hf.size,hb.2.2.1,hb.2.2.2.keep (hf.block b ⟨hb.1,hb.2.1⟩)⟩)
   have c5:=hb5.cell 0
   simp only [lGA,lGZ] at c5
   have hbd5:bd<w5.heap.size:=HD5.out.lt
   clear hk hp hf hb5
   go_wp2_with fail
   refine region_J 10 (N:=10) (S:=(fun W':World=>W'.cell? ⟨w.heap.size,0,none⟩=some (.pointer (some ⟨B,0,none⟩)))) (by kernel_rfl) (by kernel_rfl) ?_
   have hS:(fun W':World=>W'.cell? ⟨w.heap.size,0,none⟩=some (.pointer (some ⟨B,0,none⟩))) w5.drew:=c5
   refine take_F 0 12 (.pointer (some ⟨B,0,none⟩)) hS ?_
   refine take_F 1 13 (.pointer (some ⟨B,0,none⟩)) hS ?_
   refine take_F 2 14 (.func (.func 219) #[pB B] #[]) hS ?_
   refine take_F 3 15 (.pointer (some ⟨B,0,none⟩)) hS ?_
   refine take_F 4 16 (.pointer (some ⟨B,0,none⟩)) hS ?_
   refine take_F 5 17 (.func (.func 219) #[pB B] #[]) hS ?_
   refine take_F 7 19 (.func (.func 220) #[] #[bx w.heap.size,bx bd]) hS ?_
   simp only [Act.put,lSI,lSZ,lSS]
   refine ready_1 6 (op_E fun K hK=>?_)
   go_simp
   refine (moreX HP5.out.drew sBar 4 bd hbd5).mono ?_
   rintro r w6 ⟨b1,b2,b3,rfl,hc,hp,hf⟩
   have HP6:=zz hp
   have hz6:w.heap.size≤w6.heap.size:=HP6.out.size
   have hb6:=hf.hold (Nat.le_refl _) (hold_dr HB5.out)
   have HB6:=zz hb6
   have HD6:=zz (hf.hold hbd (hold_dr HD5.out))
   have hkw:KP (fun b=>w.heap.size≤b∧b<w5.heap.size) w5 w6:=⟨hf.os,hf.tape,hf.output,hf.size,hf.block⟩
   have HS6:=zz ((HS5.out.keep (hkw.mono fun b hb=>⟨hb.1,hb.2.1⟩)).mono (Q:=fun b=>w.heap.size≤b∧b<w6.heap.size∧b≠bd∧Un w6 b) fun b hb=>⟨hb.1,Nat.lt_of_lt_of_le hb.2.1 hf.size,hb.2.2.1,hb.2.2.2.keep (hkw.block b ⟨hb.1,hb.2.1⟩)⟩)
   have HM6:=zz hc
   have hbd6:bd<w6.heap.size:=HD6.out.lt
   have c6:=hb6.cell 0
   simp only [lGA,lGZ] at c6
   clear hp hf hb6 hc hkw
   refine hK _ _ ⟨fun _=>c6,?_⟩
   clear hK K
   refine ready_1 8 (op_E fun K hK=>?_)
   go_simp
   have c7:=(HB6.out.alloc (.cells #[mth B 4,.func (.func 176) #[] #[bx b1,bx b2,bx b3],.func (.func 220) #[] #[bx w.heap.size,bx bd]] 1)).cell 0
   simp only [lGA,lGZ] at c7
   refine hK _ _ ⟨fun _=>c7,?_⟩
   clear hK K
   refine ready_1 9 (op_E fun K hK=>?_)
   go_simp
   have hT:=thenZ (m:=3) (cap:=3) HP6.out [r0 4,rMore sBar 4,rData (tkAt l (p.tk+1)).tx (namesN (l.drop (p.tk+1+1)))] (L:=[mth B 4,.func (.func 176) #[] #[bx b1,bx b2,bx b3],.func (.func 220) #[] #[bx w.heap.size,bx bd]]) bd (10+(p.ru.length+0)) hn rfl (by decide) hbd6 ⟨⟨by decide,by decide,rfl⟩,HM6.out.ruv,⟨w.heap.size,bd,pn,cn,rfl,colN_new (Nat.le_refl _) (by omega),colN_own hbd,HB6.out,HD6.out,ht,HSO.out,HS6.out.mono fun b hb=>⟨⟨hb.2.1,colN_new hb.1 hb.2.2.1⟩,hb.2.2.2⟩⟩,trivial⟩
   refine hT.mono ?_
   rintro r w7 ⟨rfl,c7',hc7,hp7,hk7⟩
   have hi7:∀ b,Imm c w b→Imm (colN c w bd (10+(p.ru.length+0))) (w6.alloc (.cells [mth B 4,.func (.func 176) #[] #[bx b1,bx b2,bx b3],.func (.func 220) #[] #[bx w.heap.size,bx bd]].toArray 1)) b:=fun b hb=>⟨by have:=hb.1;simp;omega,(colN_old c w _ _ b hb.1).trans hb.2⟩
   have HQ:Hid (RQ c B l w (.inr { p with tk:=p.tk+1+1+(namesN (l.drop (p.tk+1+1))).length+1,ru:=[r0 4,rMore sBar 4,rData (tkAt l (p.tk+1)).tx (namesN (l.drop (p.tk+1+1)))] ++ p.ru }) (.returned (.tuple #[])) w7):=⟨rfl,c7',hp7,fun b hb=>⟨Nat.lt_of_lt_of_le (hi7 b hb).1 hk7.size,(hc7 b (hi7 b hb).1).trans (hi7 b hb).2⟩,(HP6.out.alloc _).imm.trans (hk7.mono hi7)⟩
   have hb7:Hold w.heap.size #[pB B] 58 w7:=(hk7.block _ ⟨by have:=HB6.out.lt;simp;omega,colN_new (Nat.le_refl _) (by omega)⟩).trans (HB6.out.alloc _)
   have c8:=hb7.cell 0
   simp only [lGA,lGZ] at c8
   clear hc7 hp7 hk7 hi7 hb7 hT
   refine hK _ _ ⟨fun _=>c8,?_⟩
   clear hK K
   refine done_J (by kernel_rfl) ?_ _
   go_wp2_with fail
   go_end0
   rw [HX5.out]
   exact HQ.out
  ·obtain rfl:=List.mem_singleton.1 hjj
   clear hjj
   refine op_E fun K hK=>?_
   go_simp
   have HD0:=zz (Hold.new w2 #[.string ⟨#[]⟩,.slice none 0 0,.slice none 0 0] 77)
   have HPa:=zz (HP2.out.alloc (.cells #[.string ⟨#[]⟩,.slice none 0 0,.slice none 0 0] 77))
   have hbxa:=HBX2.out.alloc (.cells #[.string ⟨#[]⟩,.slice none 0 0,.slice none 0 0] 77)
   have HBXa:=zz hbxa
   have hSa:=hbxa.cell 0
   simp only [lGA,lGZ] at hSa
   have hza:w.heap.size≤w2.heap.size:=HP2.out.size
   have hba:w.heap.size<w2.heap.size:=HBX2.out.lt
   refine hK _ _ ⟨fun _=>hSa,?_⟩
   clear hK K
   have hsz:(w2.alloc (.cells #[.string ⟨#[]⟩,.slice none 0 0,.slice none 0 0] 77)).heap.size=w2.heap.size+1:=by simp
   obtain ⟨bd,HBD⟩:∃ bd,Hid (bd=w2.heap.size):=⟨_,rfl⟩
   rw [← HBD.out] at HD0 hza hba hsz ⊢
   generalize hWa:w2.alloc (.cells #[.string ⟨#[]⟩,.slice none 0 0,.slice none 0 0] 77)=wa at *
   have HWA:=zz hWa
   have HSZ:=zz hsz
   clear hWa hsz
   have hbd:w.heap.size≤bd:=hza
   have hS:(fun W':World=>W'.cell? ⟨w.heap.size,0,none⟩=some (.pointer (some ⟨B,0,none⟩))) wa:=hSa
   refine ready_1 3 (op_E fun K hK=>?_)
   go_simp
   refine (namesY HPa.out).mono ?_
   rintro r w3 ⟨pn,cn,rfl,hso,hsm,hp,hf⟩
   have hbx3:=hf.hold (Nat.le_refl _) HBXa.out
   have HBX3:=zz hbx3
   have hS3:=hbx3.cell 0
   simp only [lGA,lGZ] at hS3
   have HP3:=zz hp
   have hzz3:=hp.size
   have HSO:=zz hso
   have HSM:=zz hsm
   have HD3:=zz (hf.hold hbd HD0.out)
   clear hp hf hso hsm hbx3
   refine hK _ _ ⟨fun _=>hS3,?_⟩
   clear hK K
   have hS:(fun W':World=>W'.cell? ⟨w.heap.size,0,none⟩=some (.pointer (some ⟨B,0,none⟩))) w3:=hS3
   have HSa:Hid (SM (fun b=>w.heap.size≤b∧b<w3.heap.size∧b≠bd∧Un w3 b) w3 pn (namesN (l.drop (p.tk+1+1)))):=HSM.out.mono fun b hb=>⟨Nat.le_trans HPa.out.size hb.1,hb.2.1,by have:=HSZ.out;have:=hb.1;omega,hb.2.2⟩
   refine take_F 4 9 (.agg #[.string (S (tkAt l (p.tk+1)).tx),.slice pn (namesN (l.drop (p.tk+1+1))).length cn,.slice none 0 0]) hS ?_
   simp only [Act.put,lSI,lSZ,lSS]
   refine ready_1 6 (op_E fun K hK=>?_)
   have z0:=HD3.out.frozen 0
   have z1:=HD3.out.frozen 1
   have z2:=HD3.out.frozen 2
   have y0:=HD3.out.cell 0
   have y1:=HD3.out.cell 1
   have y2:=HD3.out.cell 2
   simp only [lGA,lGS,lGZ] at y0 y1 y2
   go_simp
   refine hK _ _ ⟨fun h=>absurd h (by omega),?_⟩
   clear hK K
   have kst:KP (fun b=>b≠bd) w3 (((w3.setCell ⟨bd,0,none⟩ (.string (S (tkAt l (p.tk+1)).tx))).setCell ⟨bd,1,none⟩ (.slice pn (namesN (l.drop (p.tk+1+1))).length cn)).setCell ⟨bd,2,none⟩ (.slice none 0 0)):=((KP.setCell _ _ _ _ (fun h=>h rfl)).trans (KP.setCell _ _ _ _ (fun h=>h rfl))).trans (KP.setCell _ _ _ _ (fun h=>h rfl))
   have HD4:Hid (Hold bd #[.string (S (tkAt l (p.tk+1)).tx),.slice pn (namesN (l.drop (p.tk+1+1))).length cn,.slice none 0 0] 77 (((w3.setCell ⟨bd,0,none⟩ (.string (S (tkAt l (p.tk+1)).tx))).setCell ⟨bd,1,none⟩ (.slice pn (namesN (l.drop (p.tk+1+1))).length cn)).setCell ⟨bd,2,none⟩ (.slice none 0 0))):=((HD3.out.set 0 _).set 1 _).set 2 _
   have HBX4:=zz ((kst.block _ (show w.heap.size≠bd by omega)).trans HBX3.out)
   have HP4:=zz (HP3.out.grow (kst.mono fun b hb=>by omega))
   have HSM4:Hid (SM (fun b=>w.heap.size≤b∧b<(((w3.setCell ⟨bd,0,none⟩ (.string (S (tkAt l (p.tk+1)).tx))).setCell ⟨bd,1,none⟩ (.slice pn (namesN (l.drop (p.tk+1+1))).length cn)).setCell ⟨bd,2,none⟩ (.slice none 0 0)).heap.size∧b≠bd∧Un (((w3.setCell ⟨bd,0,none⟩ (.string (S (tkAt l (p.tk+1)).tx))).setCell ⟨bd,1,none⟩ (.slice pn (namesN (l.drop (p.tk+1+1))).length cn)).setCell ⟨bd,2,none⟩ (.slice none 0 0)) b) (((w3.setCell ⟨bd,0,none⟩ (.string (S (tkAt l (p.tk+1)).tx))).setCell ⟨bd,1,none⟩ (.slice pn (namesN (l.drop (p.tk+1+1))).length cn)).setCell ⟨bd,2,none⟩ (.slice none 0 0)) pn (namesN (l.drop (p.tk+1+1)))):=(HSa.out.keep (kst.mono fun b hb=>hb.2.2.1)).mono fun b hb=>⟨hb.1,Nat.lt_of_lt_of_le hb.2.1 kst.size,hb.2.2.1,hb.2.2.2.keep (kst.block b hb.2.2.1)⟩
   clear kst z0 z1 z2 y0 y1 y2
   generalize (((w3.setCell ⟨bd,0,none⟩ (.string (S (tkAt l (p.tk+1)).tx))).setCell ⟨bd,1,none⟩ (.slice pn (namesN (l.drop (p.tk+1+1))).length cn)).setCell ⟨bd,2,none⟩ (.slice none 0 0))=w4 at *
   refine done_J (by kernel_rfl) ?_ _
   have hbx4:Hold w.heap.size #[pB B] 58 w4:=HBX4.out
   have c4:=hbx4.cell 0
   simp only [lGA,lGZ] at c4
   go_wp2_with fail
   refine (keyX HP4.out sEq).mono ?_
   rintro r w5 (⟨rfl,hk,hp⟩ | ⟨rfl,hk,hp,hf⟩)
   ·have HR:Hid (RQ c B l w X (.panicked stuckV) w5):=by
     show RQ c B l w X (.panicked stuckV) w5
     rw [HX2.out.trans (key_st hk)]
     exact hp.stuck rfl
    clear hk hp
    unfold stuckV at *
    go_wp2_with fail
    exact ⟨rfl,HR.out⟩
   have HX5:=zz (HX2.out.trans (key_go hk))
   have HP5:=zz hp
   have hz5:w.heap.size≤w5.heap.size:=HP5.out.size
   have hb5:=hf.hold (Nat.le_refl _) HBX4.out
   have HB5:=zz hb5
   have HD5:=zz (hf.hold hbd HD4.out)
   have HS5:=zz ((HSM4.out.keep (KP.mono hf fun b hb=>⟨hb.1,hb.2.1⟩)).mono (Q:=fun b=>w.heap.size≤b∧b<w5.heap.size∧b≠bd∧Un w5 b) fun b hb=>⟨hb.1,Nat.lt_of_lt_of_le hb.2.1 hf.size,hb.2.2.1,hb.2.2.2.keep (hf.block b ⟨hb.1,hb.2.1⟩)⟩)
   have c5:=hb5.cell 0
   simp only [lGA,lGZ] at c5
   have hbd5:bd<w5.heap.size:=HD5.out.lt
   clear hk hp hf hb5
   go_wp2_with fail
   refine region_J 10 (N:=10) (S:=(fun W':World=>W'.cell? ⟨w.heap.size,0,none⟩=some (.pointer (some ⟨B,0,none⟩)))) (by kernel_rfl) (by kernel_rfl) ?_
   have hS:(fun W':World=>W'.cell? ⟨w.heap.size,0,none⟩=some (.pointer (some ⟨B,0,none⟩))) w5.drew:=c5
   refine take_F 0 12 (.pointer (some ⟨B,0,none⟩)) hS ?_
   refine take_F 1 13 (.pointer (some ⟨B,0,none⟩)) hS ?_
   refine take_F 2 14 (.func (.func 219) #[pB B] #[]) hS ?_
   refine take_F 3 15 (.pointer (some ⟨B,0,none⟩)) hS ?_
   refine take_F 4 16 (.pointer (some ⟨B,0,none⟩)) hS ?_
   refine take_F 5 17 (.func (.func 219) #[pB B] #[]) hS ?_
   refine take_F 7 19 (.func (.func 220) #[] #[bx w.heap.size,bx bd]) hS ?_
   simp only [Act.put,lSI,lSZ,lSS]
   refine ready_1 6 (op_E fun K hK=>?_)
   go_simp
   refine (moreX HP5.out.drew sBar 4 bd hbd5).mono ?_
   rintro r w6 ⟨b1,b2,b3,rfl,hc,hp,hf⟩
   have HP6:=zz hp
   have hz6:w.heap.size≤w6.heap.size:=HP6.out.size
   have hb6:=hf.hold (Nat.le_refl _) (hold_dr HB5.out)
   have HB6:=zz hb6
   have HD6:=zz (hf.hold hbd (hold_dr HD5.out))
   have hkw:KP (fun b=>w.heap.size≤b∧b<w5.heap.size) w5 w6:=⟨hf.os,hf.tape,hf.output,hf.size,hf.block⟩
   have HS6:=zz ((HS5.out.keep (hkw.mono fun b hb=>⟨hb.1,hb.2.1⟩)).mono (Q:=fun b=>w.heap.size≤b∧b<w6.heap.size∧b≠bd∧Un w6 b) fun b hb=>⟨hb.1,Nat.lt_of_lt_of_le hb.2.1 hf.size,hb.2.2.1,hb.2.2.2.keep (hkw.block b ⟨hb.1,hb.2.1⟩)⟩)
   have HM6:=zz hc
   have hbd6:bd<w6.heap.size:=HD6.out.lt
   have c6:=hb6.cell 0
   simp only [lGA,lGZ] at c6
   clear hp hf hb6 hc hkw
   refine hK _ _ ⟨fun _=>c6,?_⟩
   clear hK K
   refine ready_1 8 (op_E fun K hK=>?_)
   go_simp
   have c7:=(HB6.out.alloc (.cells #[mth B 4,.func (.func 176) #[] #[bx b1,bx b2,bx b3],.func (.func 220) #[] #[bx w.heap.size,bx bd]] 1)).cell 0
   simp only [lGA,lGZ] at c7
   refine hK _ _ ⟨fun _=>c7,?_⟩
   clear hK K
   refine ready_1 9 (op_E fun K hK=>?_)
   go_simp
   have hT:=thenZ (m:=3) (cap:=3) HP6.out [r0 4,rMore sBar 4,rData (tkAt l (p.tk+1)).tx (namesN (l.drop (p.tk+1+1)))] (L:=[mth B 4,.func (.func 176) #[] #[bx b1,bx b2,bx b3],.func (.func 220) #[] #[bx w.heap.size,bx bd]]) bd (10+(p.ru.length+0)) hn rfl (by decide) hbd6 ⟨⟨by decide,by decide,rfl⟩,HM6.out.ruv,⟨w.heap.size,bd,pn,cn,rfl,colN_new (Nat.le_refl _) (by omega),colN_own hbd,HB6.out,HD6.out,ht,HSO.out,HS6.out.mono fun b hb=>⟨⟨hb.2.1,colN_new hb.1 hb.2.2.1⟩,hb.2.2.2⟩⟩,trivial⟩
   refine hT.mono ?_
   rintro r w7 ⟨rfl,c7',hc7,hp7,hk7⟩
   have hi7:∀ b,Imm c w b→Imm (colN c w bd (10+(p.ru.length+0))) (w6.alloc (.cells [mth B 4,.func (.func 176) #[] #[bx b1,bx b2,bx b3],.func (.func 220) #[] #[bx w.heap.size,bx bd]].toArray 1)) b:=fun b hb=>⟨by have:=hb.1;simp;omega,(colN_old c w _ _ b hb.1).trans hb.2⟩
   have HQ:Hid (RQ c B l w (.inr { p with tk:=p.tk+1+1+(namesN (l.drop (p.tk+1+1))).length+1,ru:=[r0 4,rMore sBar 4,rData (tkAt l (p.tk+1)).tx (namesN (l.drop (p.tk+1+1)))] ++ p.ru }) (.returned (.tuple #[])) w7):=⟨rfl,c7',hp7,fun b hb=>⟨Nat.lt_of_lt_of_le (hi7 b hb).1 hk7.size,(hc7 b (hi7 b hb).1).trans (hi7 b hb).2⟩,(HP6.out.alloc _).imm.trans (hk7.mono hi7)⟩
   have hb7:Hold w.heap.size #[pB B] 58 w7:=(hk7.block _ ⟨by have:=HB6.out.lt;simp;omega,colN_new (Nat.le_refl _) (by omega)⟩).trans (HB6.out.alloc _)
   have c8:=hb7.cell 0
   simp only [lGA,lGZ] at c8
   clear hc7 hp7 hk7 hi7 hb7 hT
   refine hK _ _ ⟨fun _=>c8,?_⟩
   clear hK K
   refine done_J (by kernel_rfl) ?_ _
   go_wp2_with fail
   go_end0
   rw [HX5.out]
   exact HQ.out
 ·obtain rfl:=List.mem_singleton.1 hjj
  clear hjj
  refine op_E fun K hK=>?_
  go_simp
  have HD0:=zz (hold_dr (Hold.new w1 #[.string ⟨#[]⟩,.slice none 0 0,.slice none 0 0] 77))
  have HPa:=zz (HP1.out.alloc (.cells #[.string ⟨#[]⟩,.slice none 0 0,.slice none 0 0] 77)).drew
  have hbxa:=hold_dr (HB1.out.alloc (.cells #[.string ⟨#[]⟩,.slice none 0 0,.slice none 0 0] 77))
  have HBXa:=zz hbxa
  have hSa:=hbxa.cell 0
  simp only [lGA,lGZ] at hSa
  have hza:w.heap.size≤w1.heap.size:=HP1.out.size
  have hba:w.heap.size<w1.heap.size:=HB1.out.lt
  refine hK _ _ ⟨fun _=>hSa,?_⟩
  clear hK K
  have hsz:(w1.alloc (.cells #[.string ⟨#[]⟩,.slice none 0 0,.slice none 0 0] 77)).drew.heap.size=w1.heap.size+1:=by show (w1.alloc (.cells #[.string ⟨#[]⟩,.slice none 0 0,.slice none 0 0] 77)).heap.size=_;simp
  obtain ⟨bd,HBD⟩:∃ bd,Hid (bd=w1.heap.size):=⟨_,rfl⟩
  rw [← HBD.out] at HD0 hza hba hsz ⊢
  generalize hWa:(w1.alloc (.cells #[.string ⟨#[]⟩,.slice none 0 0,.slice none 0 0] 77)).drew=wa at *
  have HWA:=zz hWa
  have HSZ:=zz hsz
  clear hWa hsz
  have hbd:w.heap.size≤bd:=hza
  have hS:(fun W':World=>W'.cell? ⟨w.heap.size,0,none⟩=some (.pointer (some ⟨B,0,none⟩))) wa:=hSa
  refine ready_1 1 (op_E fun K hK=>?_)
  go_simp
  refine (conX HPa.out).mono ?_
  rintro r w2 (⟨rfl,hk,hp⟩ | ⟨rfl,hk,hp,hf⟩)
  ·have HR:Hid (RQ c B l w X (.panicked stuckV) w2):=by
    show RQ c B l w X (.panicked stuckV) w2
    rw [HX1.out.trans (take_st hk)]
    exact hp.stuck rfl
   clear hk hp hK
   unfold stuckV at *
   exact ⟨rfl,HR.out⟩
  have HX2:=zz (HX1.out.trans (take_go hk))
  have hbx2:=hf.hold (Nat.le_refl _) HBXa.out
  have HBX2:=zz hbx2
  have hS2:=hbx2.cell 0
  simp only [lGA,lGZ] at hS2
  have HP2:=zz hp
  have hzz2:=hp.size
  have HD2:=zz (hf.hold hbd HD0.out)
  clear hk hp hf hbx2
  refine hK _ _ ⟨fun _=>hS2,?_⟩
  clear hK K
  have hS:(fun W':World=>W'.cell? ⟨w.heap.size,0,none⟩=some (.pointer (some ⟨B,0,none⟩))) w2:=hS2
  refine ready_1 3 (op_E fun K hK=>?_)
  go_simp
  refine (namesY HP2.out).mono ?_
  rintro r w3 ⟨pn,cn,rfl,hso,hsm,hp,hf⟩
  have hbx3:=hf.hold (Nat.le_refl _) HBX2.out
  have HBX3:=zz hbx3
  have hS3:=hbx3.cell 0
  simp only [lGA,lGZ] at hS3
  have HP3:=zz hp
  have hzz3:=hp.size
  have HSO:=zz hso
  have HSM:=zz hsm
  have HD3:=zz (hf.hold hbd HD2.out)
  clear hp hf hso hsm hbx3
  refine hK _ _ ⟨fun _=>hS3,?_⟩
  clear hK K
  have hS:(fun W':World=>W'.cell? ⟨w.heap.size,0,none⟩=some (.pointer (some ⟨B,0,none⟩))) w3:=hS3
  have HSa:Hid (SM (fun b=>w.heap.size≤b∧b<w3.heap.size∧b≠bd∧Un w3 b) w3 pn (namesN (l.drop (p.tk+1+1)))):=HSM.out.mono fun b hb=>⟨Nat.le_trans HP2.out.size hb.1,hb.2.1,by have:=HD2.out.lt;have:=hb.1;omega,hb.2.2⟩
  refine take_F 4 9 (.agg #[.string (S (tkAt l (p.tk+1)).tx),.slice pn (namesN (l.drop (p.tk+1+1))).length cn,.slice none 0 0]) hS ?_
  simp only [Act.put,lSI,lSZ,lSS]
  refine ready_1 6 (op_E fun K hK=>?_)
  have z0:=HD3.out.frozen 0
  have z1:=HD3.out.frozen 1
  have z2:=HD3.out.frozen 2
  have y0:=HD3.out.cell 0
  have y1:=HD3.out.cell 1
  have y2:=HD3.out.cell 2
  simp only [lGA,lGS,lGZ] at y0 y1 y2
  go_simp
  refine hK _ _ ⟨fun h=>absurd h (by omega),?_⟩
  clear hK K
  have kst:KP (fun b=>b≠bd) w3 (((w3.setCell ⟨bd,0,none⟩ (.string (S (tkAt l (p.tk+1)).tx))).setCell ⟨bd,1,none⟩ (.slice pn (namesN (l.drop (p.tk+1+1))).length cn)).setCell ⟨bd,2,none⟩ (.slice none 0 0)):=((KP.setCell _ _ _ _ (fun h=>h rfl)).trans (KP.setCell _ _ _ _ (fun h=>h rfl))).trans (KP.setCell _ _ _ _ (fun h=>h rfl))
  have HD4:Hid (Hold bd #[.string (S (tkAt l (p.tk+1)).tx),.slice pn (namesN (l.drop (p.tk+1+1))).length cn,.slice none 0 0] 77 (((w3.setCell ⟨bd,0,none⟩ (.string (S (tkAt l (p.tk+1)).tx))).setCell ⟨bd,1,none⟩ (.slice pn (namesN (l.drop (p.tk+1+1))).length cn)).setCell ⟨bd,2,none⟩ (.slice none 0 0))):=((HD3.out.set 0 _).set 1 _).set 2 _
  have HBX4:=zz ((kst.block _ (show w.heap.size≠bd by omega)).trans HBX3.out)
  have HP4:=zz (HP3.out.grow (kst.mono fun b hb=>by omega))
  have HSM4:Hid (SM (fun b=>w.heap.size≤b∧b<(((w3.setCell ⟨bd,0,none⟩ (.string (S (tkAt l (p.tk+1)).tx))).setCell ⟨bd,1,none⟩ (.slice pn (namesN (l.drop (p.tk+1+1))).length cn)).setCell ⟨bd,2,none⟩ (.slice none 0 0)).heap.size∧b≠bd∧Un (((w3.setCell ⟨bd,0,none⟩ (.string (S (tkAt l (p.tk+1)).tx))).setCell ⟨bd,1,none⟩ (.slice pn (namesN (l.drop (p.tk+1+1))).length cn)).setCell ⟨bd,2,none⟩ (.slice none 0 0)) b) (((w3.setCell ⟨bd,0,none⟩ (.string (S (tkAt l (p.tk+1)).tx))).setCell ⟨bd,1,none⟩ (.slice pn (namesN (l.drop (p.tk+1+1))).length cn)).setCell ⟨bd,2,none⟩ (.slice none 0 0)) pn (namesN (l.drop (p.tk+1+1)))):=(HSa.out.keep (kst.mono fun b hb=>hb.2.2.1)).mono fun b hb=>⟨hb.1,Nat.lt_of_lt_of_le hb.2.1 kst.size,hb.2.2.1,hb.2.2.2.keep (kst.block b hb.2.2.1)⟩
  clear kst z0 z1 z2 y0 y1 y2
  generalize (((w3.setCell ⟨bd,0,none⟩ (.string (S (tkAt l (p.tk+1)).tx))).setCell ⟨bd,1,none⟩ (.slice pn (namesN (l.drop (p.tk+1+1))).length cn)).setCell ⟨bd,2,none⟩ (.slice none 0 0))=w4 at *
  refine done_J (by kernel_rfl) ?_ _
  have hbx4:Hold w.heap.size #[pB B] 58 w4:=HBX4.out
  have c4:=hbx4.cell 0
  simp only [lGA,lGZ] at c4
  go_wp2_with fail
  refine (keyX HP4.out sEq).mono ?_
  rintro r w5 (⟨rfl,hk,hp⟩ | ⟨rfl,hk,hp,hf⟩)
  ·have HR:Hid (RQ c B l w X (.panicked stuckV) w5):=by
    show RQ c B l w X (.panicked stuckV) w5
    rw [HX2.out.trans (key_st hk)]
    exact hp.stuck rfl
   clear hk hp
   unfold stuckV at *
   go_wp2_with fail
   exact ⟨rfl,HR.out⟩
  have HX5:=zz (HX2.out.trans (key_go hk))
  have HP5:=zz hp
  have hz5:w.heap.size≤w5.heap.size:=HP5.out.size
  have hb5:=hf.hold (Nat.le_refl _) HBX4.out
  have HB5:=zz hb5
  have HD5:=zz (hf.hold hbd HD4.out)
  have HS5:=zz ((HSM4.out.keep (KP.mono hf fun b hb=>⟨hb.1,hb.2.1⟩)).mono (Q:=fun b=>w.heap.size≤b∧b<w5.heap.size∧b≠bd∧Un w5 b) fun b hb=>⟨hb.1,Nat.lt_of_lt_of_le hb.2.1 hf.size,hb.2.2.1,hb.2.2.2.keep (hf.block b ⟨hb.1,hb.2.1⟩)⟩)
  have c5:=hb5.cell 0
  simp only [lGA,lGZ] at c5
  have hbd5:bd<w5.heap.size:=HD5.out.lt
  clear hk hp hf hb5
  go_wp2_with fail
  refine region_J 10 (N:=10) (S:=(fun W':World=>W'.cell? ⟨w.heap.size,0,none⟩=some (.pointer (some ⟨B,0,none⟩)))) (by kernel_rfl) (by kernel_rfl) ?_
  have hS:(fun W':World=>W'.cell? ⟨w.heap.size,0,none⟩=some (.pointer (some ⟨B,0,none⟩))) w5.drew:=c5
  refine take_F 0 12 (.pointer (some ⟨B,0,none⟩)) hS ?_
  refine take_F 1 13 (.pointer (some ⟨B,0,none⟩)) hS ?_
  refine take_F 2 14 (.func (.func 219) #[pB B] #[]) hS ?_
  refine take_F 3 15 (.pointer (some ⟨B,0,none⟩)) hS ?_
  refine take_F 4 16 (.pointer (some ⟨B,0,none⟩)) hS ?_
  refine take_F 5 17 (.func (.func 219) #[pB B] #[]) hS ?_
  refine take_F 7 19 (.func (.func 220) #[] #[bx w.heap.size,bx bd]) hS ?_
  simp only [Act.put,lSI,lSZ,lSS]
  refine ready_1 6 (op_E fun K hK=>?_)
  go_simp
  refine (moreX HP5.out.drew sBar 4 bd hbd5).mono ?_
  rintro r w6 ⟨b1,b2,b3,rfl,hc,hp,hf⟩
  have HP6:=zz hp
  have hz6:w.heap.size≤w6.heap.size:=HP6.out.size
  have hb6:=hf.hold (Nat.le_refl _) (hold_dr HB5.out)
  have HB6:=zz hb6
  have HD6:=zz (hf.hold hbd (hold_dr HD5.out))
  have hkw:KP (fun b=>w.heap.size≤b∧b<w5.heap.size) w5 w6:=⟨hf.os,hf.tape,hf.output,hf.size,hf.block⟩
  have HS6:=zz ((HS5.out.keep (hkw.mono fun b hb=>⟨hb.1,hb.2.1⟩)).mono (Q:=fun b=>w.heap.size≤b∧b<w6.heap.size∧b≠bd∧Un w6 b) fun b hb=>⟨hb.1,Nat.lt_of_lt_of_le hb.2.1 hf.size,hb.2.2.1,hb.2.2.2.keep (hkw.block b ⟨hb.1,hb.2.1⟩)⟩)
  have HM6:=zz hc
  have hbd6:bd<w6.heap.size:=HD6.out.lt
  have c6:=hb6.cell 0
  simp only [lGA,lGZ] at c6
  clear hp hf hb6 hc hkw
  refine hK _ _ ⟨fun _=>c6,?_⟩
  clear hK K
  refine ready_1 8 (op_E fun K hK=>?_)
  go_simp
  have c7:=(HB6.out.alloc (.cells #[mth B 4,.func (.func 176) #[] #[bx b1,bx b2,bx b3],.func (.func 220) #[] #[bx w.heap.size,bx bd]] 1)).cell 0
  simp only [lGA,lGZ] at c7
  refine hK _ _ ⟨fun _=>c7,?_⟩
  clear hK K
  refine ready_1 9 (op_E fun K hK=>?_)
  go_simp
  have hT:=thenZ (m:=3) (cap:=3) HP6.out [r0 4,rMore sBar 4,rData (tkAt l (p.tk+1)).tx (namesN (l.drop (p.tk+1+1)))] (L:=[mth B 4,.func (.func 176) #[] #[bx b1,bx b2,bx b3],.func (.func 220) #[] #[bx w.heap.size,bx bd]]) bd (10+(p.ru.length+0)) hn rfl (by decide) hbd6 ⟨⟨by decide,by decide,rfl⟩,HM6.out.ruv,⟨w.heap.size,bd,pn,cn,rfl,colN_new (Nat.le_refl _) (by omega),colN_own hbd,HB6.out,HD6.out,ht,HSO.out,HS6.out.mono fun b hb=>⟨⟨hb.2.1,colN_new hb.1 hb.2.2.1⟩,hb.2.2.2⟩⟩,trivial⟩
  refine hT.mono ?_
  rintro r w7 ⟨rfl,c7',hc7,hp7,hk7⟩
  have hi7:∀ b,Imm c w b→Imm (colN c w bd (10+(p.ru.length+0))) (w6.alloc (.cells [mth B 4,.func (.func 176) #[] #[bx b1,bx b2,bx b3],.func (.func 220) #[] #[bx w.heap.size,bx bd]].toArray 1)) b:=fun b hb=>⟨by have:=hb.1;simp;omega,(colN_old c w _ _ b hb.1).trans hb.2⟩
  have HQ:Hid (RQ c B l w (.inr { p with tk:=p.tk+1+1+(namesN (l.drop (p.tk+1+1))).length+1,ru:=[r0 4,rMore sBar 4,rData (tkAt l (p.tk+1)).tx (namesN (l.drop (p.tk+1+1)))] ++ p.ru }) (.returned (.tuple #[])) w7):=⟨rfl,c7',hp7,fun b hb=>⟨Nat.lt_of_lt_of_le (hi7 b hb).1 hk7.size,(hc7 b (hi7 b hb).1).trans (hi7 b hb).2⟩,(HP6.out.alloc _).imm.trans (hk7.mono hi7)⟩
  have hb7:Hold w.heap.size #[pB B] 58 w7:=(hk7.block _ ⟨by have:=HB6.out.lt;simp;omega,colN_new (Nat.le_refl _) (by omega)⟩).trans (HB6.out.alloc _)
  have c8:=hb7.cell 0
  simp only [lGA,lGZ] at c8
  clear hc7 hp7 hk7 hi7 hb7 hT
  refine hK _ _ ⟨fun _=>c8,?_⟩
  clear hK K
  refine done_J (by kernel_rfl) ?_ _
  go_wp2_with fail
  go_end0
  rw [HX5.out]
  exact HQ.out
theorem decl_rule {c:Nat→Nat} {B:Nat} {l:List Tk} {p:Ps} {w:World} (hx:p.ex.length≤1000000000) (hP:PM c B l p w) (hn:p.ru.length≤900000000) :
 Calls Tryz.prog 139 #[.pointer (some ⟨B,0,none⟩)] w (RQ c B l w (declR l p)):=by
 have HP0:=zz (PW.start hP)
 obtain ⟨X,HX0⟩:∃ X,Hid (X=declR l p):=⟨_,rfl⟩
 rw [← HX0.out]
 clear hP
 go_enter Tryz.func139,Tryz.ntmps139
 go_wp2_with fail
 refine (isKeyX HP0.out [sData] (n:=1) (cap:=1) rfl (by decide)).mono ?_
 rintro r w1 ⟨hr,hp,hf⟩
 have HP1:=zz hp
 clear hp hf
 have hb0:([sData].any fun s=>isK l p.tk s)=isK l p.tk sData:=by simp
 rw [hb0] at hr
 clear hb0
 cases hb:isK l p.tk sData
 ·rw [hb] at hr
  subst hr
  have HX2:=zz (HX0.out.trans (if_neg (by simp [hb])))
  clear hb
  go_wp2_with fail
  refine (callW HP1.out (fun c' hp'=>def_rule hx hp' hn)).mono ?_
  intro r w3 hq
  rw [← HX2.out] at hq
  have HQ:=zz hq
  clear hq
  cases X with
  | inl n=>
   obtain ⟨rfl,h⟩:=HQ.out
   unfold stuckV at *
   go_wp2_with fail
   exact ⟨rfl,HQ.out⟩
  | inr q=>
   obtain ⟨rfl,h⟩:=HQ.out
   go_wp2_with fail
   go_end0
   exact HQ.out
 ·rw [hb] at hr
  subst hr
  have HX2:=zz (HX0.out.trans (if_pos hb))
  clear hb
  go_wp2_with fail
  refine (callW HP1.out (fun c' hp'=>data_rule hp' (Nat.le_trans hn (by decide)))).mono ?_
  intro r w3 hq
  rw [← HX2.out] at hq
  have HQ:=zz hq
  clear hq
  cases X with
  | inl n=>
   obtain ⟨rfl,h⟩:=HQ.out
   unfold stuckV at *
   go_wp2_with fail
   exact ⟨rfl,HQ.out⟩
  | inr q=>
   obtain ⟨rfl,h⟩:=HQ.out
   go_wp2_with fail
   go_end0
   exact HQ.out
def WQ (c:Nat→Nat) (B:Nat) (l:List Tk) (w:World) (x:Rs) (e:Ending) (w':World):Prop:=match x with
 | .inl n=>e=.returned (.bool false)∧(∃ tp tc vr ve vs vf vd vp,Hold B (psC tp l.length tc n vr ve vs vf vd vp) 63 w'∧KM (fun b=>b<w'.heap.size) w' tp l)∧KP (Imm c w) w w'
 | .inr q=>e=.returned (.bool true)∧∃ c',PM c' B l q w'∧(∀ b,Imm c w b→Imm c' w' b)∧KP (Imm c w) w w'
theorem PSt.pop {c:Nat→Nat} {B:Nat} {l:List Tk} {p:Ps} {tp:Option Addr} {tc:Nat} {vr ve vs vf vd vp:Value} {w:World} {r:Ru} {q:List Ru} (h:PSt c B l p tp tc vr ve vs vf vd vp w) (hr:p.ru=r :: q) :
 ∃ g cap v,vr=.slice (some ⟨g,0,none⟩) (q.length+1) cap∧q.length+1≤cap∧w.cell? ⟨g,q.length,none⟩=some v∧RuV B c w q.length v r∧PM c B l { p with ru:=q } (w.setCell ⟨B,2,none⟩ (.slice (some ⟨g,0,none⟩) q.length cap))∧RuV B c (w.setCell ⟨B,2,none⟩ (.slice (some ⟨g,0,none⟩) q.length cap)) q.length v r∧KP (fun b=>b≠B) w (w.setCell ⟨B,2,none⟩ (.slice (some ⟨g,0,none⟩) q.length cap)):=by
 have hrul:=h.rul
 rw [hr,List.reverse_cons] at hrul
 obtain ⟨qa,cap,rfl,hcap,_,hnil,hsome⟩:=hrul.slice
 rw [List.length_append,List.length_reverse,List.length_singleton] at hcap
 cases qa with
 | none=>exact absurd (hnil rfl).2 (by simp)
 | some a=>
  obtain ⟨g,rfl,hgl,hcg⟩:=hsome a rfl
  obtain ⟨ds,d1,d2,v,rfl,hv⟩:=hrul.cell (i:=q.length) (t:=r) (by simp)
  have hkp:KP (fun b=>b≠B) w (w.setCell ⟨B,2,none⟩ (.slice (some ⟨g,0,none⟩) q.length cap)):=KP.setCell _ _ _ _ (fun h=>h rfl)
  have st:Step c c (fun k=>k≠1) w (w.setCell ⟨B,2,none⟩ (.slice (some ⟨g,0,none⟩) q.length cap)):=⟨hkp.mono fun b hb e=>hb.2 (by rw [e];exact h.colB),fun _ _ _=>rfl⟩
  refine ⟨g,cap,v,by simp,hcap,by have:=d2 0 v rfl;simpa using this,hv,⟨tp,tc,_,ve,vs,vf,vd,vp,h.hold.set 2 _,h.colB,h.ktoks st (by decide),h.len,h.at',?_,h.kexs st (by decide) (by decide),h.ksgs st (by decide) (by decide),h.kfms st (by decide) (by decide),h.kdts st (by decide) (by decide),h.kdfs st (by decide) (by decide)⟩,hv.step st (by decide) (by show 10+q.length≠1;omega),hkp⟩
  have hcut:=hrul.cut q.length (by simp)
  rw [List.take_append_of_le_length (by simp),List.take_of_length_le (by simp)] at hcut
  exact hcut.step st (by decide) fun i r ds hr ⟨v,h1,h2⟩=>⟨v,h1,h2.step st (by decide) (by show 10+i≠1;omega)⟩
theorem whole_any {c:Nat→Nat} {B:Nat} {l:List Tk} {p:Ps} {w:World} {nd k0:Nat} (hP:PM c B l p w) (hk0:k0≤21∧k0≠13) (hru:p.ru=[]) (hg:Good nd [r0 k0,r0 0] p.ex.length p.sg.length) (hb:tot p+wtP l { p with ru:=[r0 k0,r0 0] }≤900000000) :
 Calls Tryz.prog 25 #[.pointer (some ⟨B,0,none⟩),mth B k0] w (WQ c B l w (run l { p with ru:=[r0 k0,r0 0] })):=by
 unfold run
 have hmf:=mkf
 have HT:=zz (thenX (m:=2) (cap:=2) (PW.start hP) [r0 k0,r0 0] (L:=[.func (.func (fnR k0)) #[pB B] #[],.func (.func 56) #[pB B] #[]]) 0 0 (by rw [hru];simp) rfl (by decide) (Nat.lt_of_le_of_lt (Nat.zero_le _) (PW.start hP).ltB) ⟨by
  show RuV B _ _ _ _ ⟨k0,[],0,t0,0,[]⟩
  unfold RuV
  simp only
  split <;> first | omega | exact ⟨hk0.1,hk0.2,rfl⟩,⟨by decide,by decide,rfl⟩,trivial⟩)
 rw [hru,List.append_nil] at HT
 obtain ⟨X,HX⟩:∃ X,Hid (X=runF l (wtP l { p with ru:=[r0 k0,r0 0] }) { p with ru:=[r0 k0,r0 0] }):=⟨_,rfl⟩
 rw [← HX.out]
 unfold mth
 clear hP
 go_enter_defers Tryz.func25,Tryz.ntmps25
 go_wp2_with fail
 refine HT.out.mono ?_
 rintro r w1 ⟨rfl,hq⟩
 have HQ:=zz hq
 clear hq HT
 go_wp2_with fail
 go_loopg [5,6] (wtP l { p with ru:=[r0 k0,r0 0] }) (fun g v5 v6 wr=>∃ (p':Ps) (c':Nat→Nat) (n:Nat),g=wtP l p'∧wtP l p'≤n∧Hid (X=runF l n p')∧PM c' B l p' wr∧GoodP nd p'∧tot p'+wtP l p'≤900000000∧(∀ b,Imm c w b→Imm c' wr b)∧KP (Imm c w) w wr)
 case atStart=>
  obtain ⟨c1,h1,h2,h3⟩:=HQ.out
  exact ⟨_,c1,_,rfl,Nat.le_refl _,HX.out,h1,hg,hb,h2,h3⟩
 case round=>
  obtain ⟨p',c',n,rfl,hn,hX,hP',hg',hb',hi',hk'⟩:=hrel
  obtain ⟨tp,tc,vr,ve,vs,vf,vd,vp,hS⟩:=hP'
  cases hru':p'.ru with
  | nil=>
   have c2:=hS.hold.cell 2
   obtain ⟨qa,cap,hvr⟩:=hS.rslice
   rw [hru'] at hvr
   subst hvr
   simp only [lGA,lGS,lGZ,List.length_nil] at c2
   have HS:=zz hS
   have HXX:Hid (X=.inr p'):=by
    show X=.inr p'
    rw [hX.out]
    cases n with
    | zero=>rfl
    | succ n=>unfold runF;rw [hru']
   have HI:=zz hi'
   have HKP:=zz hk'
   clear hS hX hg' hb' hn hi' hk'
   go_wp2_with fail
   refine leaves_cons (f:=54) (args:=#[]) (by simp) (by simp [go_sem]) ?_
   refine (catch_idle _).mono ?_
   rintro e u' w'' ⟨rfl,rfl,rfl⟩
   refine ⟨.bool true,by simp [results,Tryz.f25,go_sem],?_⟩
   rw [HXX.out]
   exact ⟨rfl,c',⟨tp,tc,_,ve,vs,vf,vd,vp,HS.out⟩,HI.out,HKP.out⟩
  | cons r q=>
   obtain ⟨gr,cap,v,rfl,hcap,hcell,_,hPM,hRV,hkp⟩:=hS.pop hru'
   have hBd:Bd { p' with ru:=q }:=by
    have h1:∀ rs:List Ru,rs.length≤(rs.map wtR).sum:=fun rs=>by
     induction rs with
     | nil=>simp
     | cons a b ih=>
      have:1≤wtR a:=by unfold wtR;split <;> omega
      simp only [List.length_cons,List.map_cons,List.sum_cons]
      omega
    have h2:=h1 q
    unfold wtP tot at hb'
    rw [hru'] at hb'
    simp only [List.map_cons,List.sum_cons] at hb'
    exact ⟨by show q.length≤_;omega,by show p'.ex.length≤_;omega,by show p'.sg.length≤_;omega,by show p'.fm.length≤_;omega,by show p'.ds.length≤_;omega,by show p'.fs.length≤_;omega,by show q.length≤_;omega⟩
   have hgd:Good nd (r :: q) p'.ex.length p'.sg.length:=by unfold GoodP at hg';rw [hru'] at hg';exact hg'
   obtain ⟨K,first,cp,rfl,heg,hcall⟩:=rule_call (p:={ p' with ru:=q }) (fun c p w h hb=>decl_rule hb.ex h hb.r9) hPM hRV hgd hBd
   have HCALL:=zz hcall
   have c2:=hS.hold.cell 2
   have z2:=hS.hold.frozen 2
   simp only [lGA,lGS,lGZ] at c2
   have hql:q.length≤1000000000:=hBd.ru
   have i1:(0:Int)<(q.length:Int)+1:=by omega
   have i2:(q.length:Int)<(q.length:Int)+1:=by omega
   have i3:(0:Int)≤(q.length:Int):=by omega
   have i4:(q.length:Int)≤(cap:Int):=by omega
   have i5:q.length≤cap:=by omega
   have HS:=zz hS
   have HB:=zz hb'
   have HG:=zz hgd
   have HI:=zz hi'
   have HKP:=zz hk'
   have HK2:=zz hkp
   have hnz:n≠0:=by
    have:1≤wtR r:=by unfold wtR;split <;> omega
    unfold wtP at hn
    rw [hru'] at hn
    simp only [List.map_cons,List.sum_cons] at hn
    omega
   have HN:=zz hn
   have HRU:=zz hru'
   clear hS hb' hgd hi' hk' hkp hn hg' hBd hPM hRV hcall hru'
   go_wp2_with fail
   refine HCALL.out.mono ?_
   intro e w2 hq
   have hX':X=(match ruleR l r { p' with ru:=q } with | .inl k=>.inl k | .inr p2=>runF l (n - 1) p2):=by
    rw [hX.out]
    obtain ⟨m,rfl⟩:∃ m,n=m+1:=⟨n - 1,by omega⟩
    exact runF_cons HRU.out
   have hcB:=HS.out.colB
   have himm:∀ b,Imm c w b→Imm c' (wr.setCell ⟨B,2,none⟩ (.slice (some ⟨gr,0,none⟩) q.length cap)) b:=fun b hb=>⟨by have:=(HI.out b hb).1;simpa using this,(HI.out b hb).2⟩
   have hkpw:KP (Imm c w) w (wr.setCell ⟨B,2,none⟩ (.slice (some ⟨gr,0,none⟩) q.length cap)):=HKP.out.trans (HK2.out.mono fun b hb e=>by have:=(HI.out b hb).2;rw [e,hcB] at this;cases this)
   rcases hrr:ruleR l r { p' with ru:=q } with k | p2
   ·rw [hrr] at hq hX'
    obtain ⟨rfl,h1,h2⟩:=hq
    have HF:Hid (WQ c B l w X (.returned (.bool false)) w2):=by
     show WQ c B l w X (.returned (.bool false)) w2
     rw [hX']
     exact ⟨rfl,h1,hkpw.trans (h2.mono himm)⟩
    clear h1 h2 hX' hrr himm hkpw
    unfold stuckV
    go_wp2_with fail
    refine leaves_cons (f:=54) (args:=#[]) (by simp) (by simp [go_sem]) ?_
    refine (catch_stuck _).mono ?_
    rintro e u' w'' ⟨rfl,rfl,rfl⟩
    have hF:=HF.out
    simp [Leaves,settle,results,Tryz.results25,Tryz.f25,go_sem]
    exact hF
   ·rw [hrr] at hq hX'
    obtain ⟨rfl,c2',h1,h2,h3⟩:=hq
    have hgood:=rule_good (p:={ p' with ru:=q }) HG.out hrr
    have hless:=step_less (l:=l) (p:=p') (q:=p2) (by rw [HRU.out];simp) (by unfold stepP;rw [HRU.out];exact hrr)
    have HFIN:Hid (∃ (p'':Ps) (c'':Nat→Nat) (n':Nat),wtP l p2=wtP l p''∧wtP l p''≤n'∧Hid (X=runF l n' p'')∧PM c'' B l p'' w2∧GoodP nd p''∧tot p''+wtP l p''≤900000000∧(∀ b,Imm c w b→Imm c'' w2 b)∧KP (Imm c w) w w2):=
     ⟨p2,c2',n - 1,rfl,by have:=HN.out;omega,hX',h1,hgood.1,by have h4:=hgood.2;have h5:=HB.out;have h6:tot { p' with ru:=q }=tot p':=rfl;omega,fun b hb=>h2 b (himm b hb),hkpw.trans (h3.mono himm)⟩
    have hl2:wtP l p2<wtP l p':=hless
    clear hX' h1 h2 h3 hgood hless himm hkpw hrr
    go_wp2_with fail
    go_roundg (wtP l p2)
    case measure=>exact hl2
    case rel=>exact HFIN.out
end Go.Proofs.YtcnnlecjdkfdjaaGreatDoor
