/- DataR: the texts of these names, of which the claim is made. -/
import Derived.Test.YtcnnlecjdkfdjaaGreatDoorDefR
set_option linter.unusedVariables false
set_option linter.unusedSimpArgs false
set_option maxRecDepth 100000
set_option maxHeartbeats 8000000
namespace Go.Proofs.YtcnnlecjdkfdjaaGreatDoor
open Go.RowKit
theorem hold_dr {b:Nat} {C:Array Value} {t:TypeId} {W:World} (h:Hold b C t W):Hold b C t W.drew:=h
theorem data_rule {c:Nat→Nat} {B:Nat} {l:List Tk} {p:Ps} {w:World} (hP:PM c B l p w) (hn:p.ru.length≤1000000000) :
 Calls Tryz.prog 189 #[.pointer (some ⟨B,0,none⟩)] w (RQ c B l w (dataR l p)):=by
 have hmf:=mkf
 have HP0:=hide ((PW.start hP).alloc (.cells #[pB B] 58))
 have HBX:=hide (Hold.new w #[pB B] 58)
 have ht:=((PW.start hP).token (p.tk+1)).1
 have h0:0<w.heap.size:=Nat.lt_of_le_of_lt (Nat.zero_le _) HP0.out.ltB
 obtain ⟨X,HX0⟩:∃ X,Hid (X=dataR l p):=⟨_,rfl⟩
 rw [← HX0.out]
 clear hP
 go_enter Tryz.func189,Tryz.ntmps189
 go_wp2_with fail
 refine (keyX HP0.out sData).mono ?_
 rintro r w1 (⟨rfl,hk,hp⟩ | ⟨rfl,hk,hp,hf⟩)
 ·have HR:Hid (RQ c B l w X (.panicked stuckV) w1):=by
   show RQ c B l w X (.panicked stuckV) w1
   rw [HX0.out.trans (key_st hk)]
   exact hp.stuck rfl
  clear hk hp
  unfold stuckV at *
  go_wp2_with fail
  exact ⟨rfl,HR.out⟩
 have HX1:=hide (HX0.out.trans (key_go hk))
 have HP1:=hide hp
 have hz1:w.heap.size≤w1.heap.size:=HP1.out.size
 have hb1:=hf.hold (Nat.le_refl _) HBX.out
 have HB1:=hide hb1
 have hl1:=hb1.lt
 have c1:=hb1.cell 0
 simp only [lGA,lGZ] at c1
 clear hk hp hf hb1
 go_wp2_with fail
 refine region_J 7 (N:=6) (S:=(fun W':World=>W'.cell? ⟨w.heap.size,0,none⟩=some (.pointer (some ⟨B,0,none⟩)))) (by kernel_rfl) (by kernel_rfl) ?_
 have hS:(fun W':World=>W'.cell? ⟨w.heap.size,0,none⟩=some (.pointer (some ⟨B,0,none⟩))) w1.drew:=c1
 have HP1d:=hide HP1.out.drew
 have HB1d:=hide (hold_dr HB1.out)
 refine take_E 0 5 (.pointer (some ⟨B,0,none⟩)) rfl (Or.inl ⟨by rfl,fun W' hW=>by go_simp⟩) hS ?_
 simp only [Act.put,lSI,lSZ,lSS]
 refine take_E 2 7 (.pointer (some ⟨B,0,none⟩)) rfl (Or.inl ⟨by rfl,fun W' hW=>by go_simp⟩) hS ?_
 simp only [Act.put,lSI,lSZ,lSS]
 refine ready_E [1,5] ?_
 intro jj hjj
 rcases List.mem_cons.1 hjj with rfl | hjj
 ·clear hjj
  refine op_J rfl rfl fun K hK=>?_
  go_simp
  refine (conX HP1d.out).mono ?_
  rintro r w2 (⟨rfl,hk,hp⟩ | ⟨rfl,hk,hp,hf⟩)
  ·have HR:Hid (RQ c B l w X (.panicked stuckV) w2):=by
    show RQ c B l w X (.panicked stuckV) w2
    rw [HX1.out.trans (take_st hk)]
    exact hp.stuck rfl
   clear hk hp hK
   unfold stuckV at *
   exact ⟨rfl,HR.out⟩
  have HX2:=hide (HX1.out.trans (take_go hk))
  have hbx2:=hf.hold (Nat.le_refl _) HB1d.out
  have HBX2:=hide hbx2
  have hS2:=hbx2.cell 0
  simp only [lGA,lGZ] at hS2
  have HP2:=hide hp
  have hzz2:=hp.size
  clear hk hp hf hbx2
  refine hK _ _ ⟨fun _=>hS2,?_⟩
  clear hK K
  have hS:(fun W':World=>W'.cell? ⟨w.heap.size,0,none⟩=some (.pointer (some ⟨B,0,none⟩))) w2:=hS2
  refine ready_E [3,5] ?_
  intro jj hjj
  rcases List.mem_cons.1 hjj with rfl | hjj
  ·clear hjj
   refine op_J rfl rfl fun K hK=>?_
   go_simp
   refine (namesY HP2.out).mono ?_
   rintro r w3 ⟨pn,cn,rfl,hso,hsm,hp,hf⟩
   have hbx3:=hf.hold (Nat.le_refl _) HBX2.out
   have HBX3:=hide hbx3
   have hS3:=hbx3.cell 0
   simp only [lGA,lGZ] at hS3
   have HP3:=hide hp
   have hzz3:=hp.size
   have HSO:=hide hso
   have HSM:=hide hsm
   clear hp hf hso hsm hbx3
   refine hK _ _ ⟨fun _=>hS3,?_⟩
   clear hK K
   have hS:(fun W':World=>W'.cell? ⟨w.heap.size,0,none⟩=some (.pointer (some ⟨B,0,none⟩))) w3:=hS3
   refine take_E 4 9 (.agg #[.string (S (tkAt l (p.tk+1)).tx),.slice pn (namesN (l.drop (p.tk+1+1))).length cn,.slice none 0 0]) rfl (Or.inl ⟨by rfl,fun W' hW=>by go_simp⟩) hS ?_
   simp only [Act.put,lSI,lSZ,lSS]
   refine ready_E [5] ?_
   intro jj hjj
   obtain rfl:=List.mem_singleton.1 hjj
   clear hjj
   refine op_J rfl rfl fun K hK=>?_
   go_simp
   have HD0:=hide (Hold.new w3 #[.string ⟨#[]⟩,.slice none 0 0,.slice none 0 0] 77)
   have HPa:=hide (HP3.out.alloc (.cells #[.string ⟨#[]⟩,.slice none 0 0,.slice none 0 0] 77))
   have hbxa:=HBX3.out.alloc (.cells #[.string ⟨#[]⟩,.slice none 0 0,.slice none 0 0] 77)
   have HBXa:=hide hbxa
   have hSa:=hbxa.cell 0
   simp only [lGA,lGZ] at hSa
   have hza:w.heap.size≤w3.heap.size:=HP3.out.size
   have hba:w.heap.size<w3.heap.size:=HBX3.out.lt
   have HSa:=hide ((HSM.out.keep (KP.alloc w3 (.cells #[.string ⟨#[]⟩,.slice none 0 0,.slice none 0 0] 77) fun b hb=>hb.2.1)).mono (Q:=fun b=>w.heap.size≤b∧b<(w3.alloc (.cells #[.string ⟨#[]⟩,.slice none 0 0,.slice none 0 0] 77)).heap.size∧b≠w3.heap.size∧Un (w3.alloc (.cells #[.string ⟨#[]⟩,.slice none 0 0,.slice none 0 0] 77)) b) fun b hb=>⟨Nat.le_trans HP2.out.size hb.1,by have:=hb.2.1;simp;omega,by have:=hb.2.1;omega,hb.2.2.keep (Below.heap_alloc _ _ b hb.2.1)⟩)
   refine hK _ _ ⟨fun _=>hSa,?_⟩
   clear hK K
   have hsz:(w3.alloc (.cells #[.string ⟨#[]⟩,.slice none 0 0,.slice none 0 0] 77)).heap.size=w3.heap.size+1:=by simp
   obtain ⟨bd,HBD⟩:∃ bd,Hid (bd=w3.heap.size):=⟨_,rfl⟩
   rw [← HBD.out] at HD0 hza hba hsz HSa ⊢
   generalize hWa:w3.alloc (.cells #[.string ⟨#[]⟩,.slice none 0 0,.slice none 0 0] 77)=wa at *
   have HWA:=hide hWa
   have HSZ:=hide hsz
   clear hWa hsz
   have hbd:w.heap.size≤bd:=hza
   have hS:(fun W':World=>W'.cell? ⟨w.heap.size,0,none⟩=some (.pointer (some ⟨B,0,none⟩))) wa:=hSa
   refine ready_E [6] ?_
   intro jj hjj
   obtain rfl:=List.mem_singleton.1 hjj
   clear hjj
   refine op_J rfl rfl fun K hK=>?_
   have z0:=HD0.out.frozen 0
   have z1:=HD0.out.frozen 1
   have z2:=HD0.out.frozen 2
   have y0:=HD0.out.cell 0
   have y1:=HD0.out.cell 1
   have y2:=HD0.out.cell 2
   simp only [lGA,lGS,lGZ] at y0 y1 y2
   go_simp
   refine hK _ _ ⟨fun h=>absurd h (by omega),?_⟩
   clear hK K
   have kst:KP (fun b=>b≠bd) wa (((wa.setCell ⟨bd,0,none⟩ (.string (S (tkAt l (p.tk+1)).tx))).setCell ⟨bd,1,none⟩ (.slice pn (namesN (l.drop (p.tk+1+1))).length cn)).setCell ⟨bd,2,none⟩ (.slice none 0 0)):=((KP.setCell _ _ _ _ (fun h=>h rfl)).trans (KP.setCell _ _ _ _ (fun h=>h rfl))).trans (KP.setCell _ _ _ _ (fun h=>h rfl))
   have HD4:Hid (Hold bd #[.string (S (tkAt l (p.tk+1)).tx),.slice pn (namesN (l.drop (p.tk+1+1))).length cn,.slice none 0 0] 77 (((wa.setCell ⟨bd,0,none⟩ (.string (S (tkAt l (p.tk+1)).tx))).setCell ⟨bd,1,none⟩ (.slice pn (namesN (l.drop (p.tk+1+1))).length cn)).setCell ⟨bd,2,none⟩ (.slice none 0 0))):=((HD0.out.set 0 _).set 1 _).set 2 _
   have HBX4:=hide ((kst.block _ (show w.heap.size≠bd by omega)).trans HBXa.out)
   have HP4:=hide (HPa.out.grow (kst.mono fun b hb=>by omega))
   have HSM4:Hid (SM (fun b=>w.heap.size≤b∧b<(((wa.setCell ⟨bd,0,none⟩ (.string (S (tkAt l (p.tk+1)).tx))).setCell ⟨bd,1,none⟩ (.slice pn (namesN (l.drop (p.tk+1+1))).length cn)).setCell ⟨bd,2,none⟩ (.slice none 0 0)).heap.size∧b≠bd∧Un (((wa.setCell ⟨bd,0,none⟩ (.string (S (tkAt l (p.tk+1)).tx))).setCell ⟨bd,1,none⟩ (.slice pn (namesN (l.drop (p.tk+1+1))).length cn)).setCell ⟨bd,2,none⟩ (.slice none 0 0)) b) (((wa.setCell ⟨bd,0,none⟩ (.string (S (tkAt l (p.tk+1)).tx))).setCell ⟨bd,1,none⟩ (.slice pn (namesN (l.drop (p.tk+1+1))).length cn)).setCell ⟨bd,2,none⟩ (.slice none 0 0)) pn (namesN (l.drop (p.tk+1+1)))):=(HSa.out.keep (kst.mono fun b hb=>hb.2.2.1)).mono fun b hb=>⟨hb.1,Nat.lt_of_lt_of_le hb.2.1 kst.size,hb.2.2.1,hb.2.2.2.keep (kst.block b hb.2.2.1)⟩
   clear kst z0 z1 z2 y0 y1 y2
   generalize (((wa.setCell ⟨bd,0,none⟩ (.string (S (tkAt l (p.tk+1)).tx))).setCell ⟨bd,1,none⟩ (.slice pn (namesN (l.drop (p.tk+1+1))).length cn)).setCell ⟨bd,2,none⟩ (.slice none 0 0))=w4 at *
   refine done_J (by kernel_rfl) ?_ _
   have hbx4:Hold w.heap.size #[pB B] 58 w4:=HBX4.out
   have c4:=hbx4.cell 0
   simp only [lGA,lGZ] at c4
   go_wp2_with fail
   refine (keyX HP4.out sEq).mono ?_
   rintro r w5 (⟨rfl,hk,hp⟩ | ⟨rfl,hk,hp,hf⟩)
   ·have HR:Hid (RQ c B l w X (.panicked stuckV) w5):=by
     show RQ c B l w X (.panicked stuckV) w5
     rw [HX2.out.trans (key_st hk)]
     exact hp.stuck rfl
    clear hk hp
    unfold stuckV at *
    go_wp2_with fail
    exact ⟨rfl,HR.out⟩
   have HX5:=hide (HX2.out.trans (key_go hk))
   have HP5:=hide hp
   have hz5:w.heap.size≤w5.heap.size:=HP5.out.size
   have hb5:=hf.hold (Nat.le_refl _) HBX4.out
   have HB5:=hide hb5
   have HD5:=hide (hf.hold hbd HD4.out)
   have HS5:=hide ((HSM4.out.keep (KP.mono hf fun b hb=>⟨hb.1,hb.2.1⟩)).mono (Q:=fun b=>w.heap.size≤b∧b<w5.heap.size∧b≠bd∧Un w5 b) fun b hb=>⟨hb.1,Nat.lt_of_lt_of_le hb.2.1 hf.size,hb.2.2.1,hb.2.2.2.keep (hf.block b ⟨hb.1,hb.2.1⟩)⟩)
   have c5:=hb5.cell 0
   simp only [lGA,lGZ] at c5
   have hbd5:bd<w5.heap.size:=HD5.out.lt
   clear hk hp hf hb5
   go_wp2_with fail
   refine region_J 10 (N:=10) (S:=(fun W':World=>W'.cell? ⟨w.heap.size,0,none⟩=some (.pointer (some ⟨B,0,none⟩)))) (by kernel_rfl) (by kernel_rfl) ?_
   have hS:(fun W':World=>W'.cell? ⟨w.heap.size,0,none⟩=some (.pointer (some ⟨B,0,none⟩))) w5.drew:=c5
   refine take_E 0 12 (.pointer (some ⟨B,0,none⟩)) rfl (Or.inl ⟨by rfl,fun W' hW=>by go_simp⟩) hS ?_
   simp only [Act.put,lSI,lSZ,lSS]
   refine take_E 1 13 (.pointer (some ⟨B,0,none⟩)) rfl (Or.inl ⟨by rfl,fun W' hW=>by go_simp⟩) hS ?_
   simp only [Act.put,lSI,lSZ,lSS]
   refine take_E 2 14 (.func (.func 219) #[pB B] #[]) rfl (Or.inl ⟨by rfl,fun W' hW=>by go_simp⟩) hS ?_
   simp only [Act.put,lSI,lSZ,lSS]
   refine take_E 3 15 (.pointer (some ⟨B,0,none⟩)) rfl (Or.inl ⟨by rfl,fun W' hW=>by go_simp⟩) hS ?_
   simp only [Act.put,lSI,lSZ,lSS]
   refine take_E 4 16 (.pointer (some ⟨B,0,none⟩)) rfl (Or.inl ⟨by rfl,fun W' hW=>by go_simp⟩) hS ?_
   simp only [Act.put,lSI,lSZ,lSS]
   refine take_E 5 17 (.func (.func 219) #[pB B] #[]) rfl (Or.inl ⟨by rfl,fun W' hW=>by go_simp⟩) hS ?_
   simp only [Act.put,lSI,lSZ,lSS]
   refine take_E 7 19 (.func (.func 220) #[] #[bx w.heap.size,bx bd]) rfl (Or.inl ⟨by rfl,fun W' hW=>by go_simp⟩) hS ?_
   simp only [Act.put,lSI,lSZ,lSS]
   refine ready_E [6] ?_
   intro jj hjj
   obtain rfl:=List.mem_singleton.1 hjj
   clear hjj
   refine op_J rfl rfl fun K hK=>?_
   go_simp
   refine (moreX HP5.out.drew sBar 4 bd hbd5).mono ?_
   rintro r w6 ⟨b1,b2,b3,rfl,hc,hp,hf⟩
   have HP6:=hide hp
   have hz6:w.heap.size≤w6.heap.size:=HP6.out.size
   have hb6:=hf.hold (Nat.le_refl _) (hold_dr HB5.out)
   have HB6:=hide hb6
   have HD6:=hide (hf.hold hbd (hold_dr HD5.out))
   have hkw:KP (fun b=>w.heap.size≤b∧b<w5.heap.size) w5 w6:=⟨hf.os,hf.tape,hf.output,hf.size,hf.block⟩
   have HS6:=hide ((HS5.out.keep (hkw.mono fun b hb=>⟨hb.1,hb.2.1⟩)).mono (Q:=fun b=>w.heap.size≤b∧b<w6.heap.size∧b≠bd∧Un w6 b) fun b hb=>⟨hb.1,Nat.lt_of_lt_of_le hb.2.1 hf.size,hb.2.2.1,hb.2.2.2.keep (hkw.block b ⟨hb.1,hb.2.1⟩)⟩)
   have HM6:=hide hc
   have hbd6:bd<w6.heap.size:=HD6.out.lt
   have c6:=hb6.cell 0
   simp only [lGA,lGZ] at c6
   clear hp hf hb6 hc hkw
   refine hK _ _ ⟨fun _=>c6,?_⟩
   clear hK K
   refine ready_E [8] ?_
   intro jj hjj
   obtain rfl:=List.mem_singleton.1 hjj
   clear hjj
   refine op_J rfl rfl fun K hK=>?_
   go_simp
   have c7:=(HB6.out.alloc (.cells #[mth B 4,.func (.func 176) #[] #[bx b1,bx b2,bx b3],.func (.func 220) #[] #[bx w.heap.size,bx bd]] 1)).cell 0
   simp only [lGA,lGZ] at c7
   refine hK _ _ ⟨fun _=>c7,?_⟩
   clear hK K
   refine ready_E [9] ?_
   intro jj hjj
   obtain rfl:=List.mem_singleton.1 hjj
   clear hjj
   refine op_J rfl rfl fun K hK=>?_
   go_simp
   have hT:=thenZ (m:=3) (cap:=3) HP6.out [r0 4,rMore sBar 4,rData (tkAt l (p.tk+1)).tx (namesN (l.drop (p.tk+1+1)))] (L:=[mth B 4,.func (.func 176) #[] #[bx b1,bx b2,bx b3],.func (.func 220) #[] #[bx w.heap.size,bx bd]]) bd (10+(p.ru.length+0)) hn rfl (by decide) hbd6 ⟨⟨by decide,by decide,rfl⟩,HM6.out.ruv,⟨w.heap.size,bd,pn,cn,rfl,colN_new (Nat.le_refl _) (by omega),colN_own hbd,HB6.out,HD6.out,ht,HSO.out,HS6.out.mono fun b hb=>⟨⟨hb.2.1,colN_new hb.1 hb.2.2.1⟩,hb.2.2.2⟩⟩,trivial⟩
   refine hT.mono ?_
   rintro r w7 ⟨rfl,c7',hc7,hp7,hk7⟩
   have hi7:∀ b,Imm c w b→Imm (colN c w bd (10+(p.ru.length+0))) (w6.alloc (.cells [mth B 4,.func (.func 176) #[] #[bx b1,bx b2,bx b3],.func (.func 220) #[] #[bx w.heap.size,bx bd]].toArray 1)) b:=fun b hb=>⟨by have:=hb.1;simp;omega,(colN_old c w _ _ b hb.1).trans hb.2⟩
   have HQ:Hid (RQ c B l w (.inr { p with tk:=p.tk+1+1+(namesN (l.drop (p.tk+1+1))).length+1,ru:=[r0 4,rMore sBar 4,rData (tkAt l (p.tk+1)).tx (namesN (l.drop (p.tk+1+1)))] ++ p.ru }) (.returned (.tuple #[])) w7):=⟨rfl,c7',hp7,fun b hb=>⟨Nat.lt_of_lt_of_le (hi7 b hb).1 hk7.size,(hc7 b (hi7 b hb).1).trans (hi7 b hb).2⟩,(HP6.out.alloc _).imm.trans (hk7.mono hi7)⟩
   have hb7:Hold w.heap.size #[pB B] 58 w7:=(hk7.block _ ⟨by have:=HB6.out.lt;simp;omega,colN_new (Nat.le_refl _) (by omega)⟩).trans (HB6.out.alloc _)
   have c8:=hb7.cell 0
   simp only [lGA,lGZ] at c8
   clear hc7 hp7 hk7 hi7 hb7 hT
   refine hK _ _ ⟨fun _=>c8,?_⟩
   clear hK K
   refine done_J (by kernel_rfl) ?_ _
   go_wp2_with fail
   go_end0
   rw [HX5.out]
   exact HQ.out
  ·obtain rfl:=List.mem_singleton.1 hjj
   clear hjj
   refine op_J rfl rfl fun K hK=>?_
   go_simp
   have HD0:=hide (Hold.new w2 #[.string ⟨#[]⟩,.slice none 0 0,.slice none 0 0] 77)
   have HPa:=hide (HP2.out.alloc (.cells #[.string ⟨#[]⟩,.slice none 0 0,.slice none 0 0] 77))
   have hbxa:=HBX2.out.alloc (.cells #[.string ⟨#[]⟩,.slice none 0 0,.slice none 0 0] 77)
   have HBXa:=hide hbxa
   have hSa:=hbxa.cell 0
   simp only [lGA,lGZ] at hSa
   have hza:w.heap.size≤w2.heap.size:=HP2.out.size
   have hba:w.heap.size<w2.heap.size:=HBX2.out.lt
   refine hK _ _ ⟨fun _=>hSa,?_⟩
   clear hK K
   have hsz:(w2.alloc (.cells #[.string ⟨#[]⟩,.slice none 0 0,.slice none 0 0] 77)).heap.size=w2.heap.size+1:=by simp
   obtain ⟨bd,HBD⟩:∃ bd,Hid (bd=w2.heap.size):=⟨_,rfl⟩
   rw [← HBD.out] at HD0 hza hba hsz ⊢
   generalize hWa:w2.alloc (.cells #[.string ⟨#[]⟩,.slice none 0 0,.slice none 0 0] 77)=wa at *
   have HWA:=hide hWa
   have HSZ:=hide hsz
   clear hWa hsz
   have hbd:w.heap.size≤bd:=hza
   have hS:(fun W':World=>W'.cell? ⟨w.heap.size,0,none⟩=some (.pointer (some ⟨B,0,none⟩))) wa:=hSa
   refine ready_E [3] ?_
   intro jj hjj
   obtain rfl:=List.mem_singleton.1 hjj
   clear hjj
   refine op_J rfl rfl fun K hK=>?_
   go_simp
   refine (namesY HPa.out).mono ?_
   rintro r w3 ⟨pn,cn,rfl,hso,hsm,hp,hf⟩
   have hbx3:=hf.hold (Nat.le_refl _) HBXa.out
   have HBX3:=hide hbx3
   have hS3:=hbx3.cell 0
   simp only [lGA,lGZ] at hS3
   have HP3:=hide hp
   have hzz3:=hp.size
   have HSO:=hide hso
   have HSM:=hide hsm
   have HD3:=hide (hf.hold hbd HD0.out)
   clear hp hf hso hsm hbx3
   refine hK _ _ ⟨fun _=>hS3,?_⟩
   clear hK K
   have hS:(fun W':World=>W'.cell? ⟨w.heap.size,0,none⟩=some (.pointer (some ⟨B,0,none⟩))) w3:=hS3
   have HSa:Hid (SM (fun b=>w.heap.size≤b∧b<w3.heap.size∧b≠bd∧Un w3 b) w3 pn (namesN (l.drop (p.tk+1+1)))):=HSM.out.mono fun b hb=>⟨Nat.le_trans HPa.out.size hb.1,hb.2.1,by have:=HSZ.out;have:=hb.1;omega,hb.2.2⟩
   refine take_E 4 9 (.agg #[.string (S (tkAt l (p.tk+1)).tx),.slice pn (namesN (l.drop (p.tk+1+1))).length cn,.slice none 0 0]) rfl (Or.inl ⟨by rfl,fun W' hW=>by go_simp⟩) hS ?_
   simp only [Act.put,lSI,lSZ,lSS]
   refine ready_E [6] ?_
   intro jj hjj
   obtain rfl:=List.mem_singleton.1 hjj
   clear hjj
   refine op_J rfl rfl fun K hK=>?_
   have z0:=HD3.out.frozen 0
   have z1:=HD3.out.frozen 1
   have z2:=HD3.out.frozen 2
   have y0:=HD3.out.cell 0
   have y1:=HD3.out.cell 1
   have y2:=HD3.out.cell 2
   simp only [lGA,lGS,lGZ] at y0 y1 y2
   go_simp
   refine hK _ _ ⟨fun h=>absurd h (by omega),?_⟩
   clear hK K
   have kst:KP (fun b=>b≠bd) w3 (((w3.setCell ⟨bd,0,none⟩ (.string (S (tkAt l (p.tk+1)).tx))).setCell ⟨bd,1,none⟩ (.slice pn (namesN (l.drop (p.tk+1+1))).length cn)).setCell ⟨bd,2,none⟩ (.slice none 0 0)):=((KP.setCell _ _ _ _ (fun h=>h rfl)).trans (KP.setCell _ _ _ _ (fun h=>h rfl))).trans (KP.setCell _ _ _ _ (fun h=>h rfl))
   have HD4:Hid (Hold bd #[.string (S (tkAt l (p.tk+1)).tx),.slice pn (namesN (l.drop (p.tk+1+1))).length cn,.slice none 0 0] 77 (((w3.setCell ⟨bd,0,none⟩ (.string (S (tkAt l (p.tk+1)).tx))).setCell ⟨bd,1,none⟩ (.slice pn (namesN (l.drop (p.tk+1+1))).length cn)).setCell ⟨bd,2,none⟩ (.slice none 0 0))):=((HD3.out.set 0 _).set 1 _).set 2 _
   have HBX4:=hide ((kst.block _ (show w.heap.size≠bd by omega)).trans HBX3.out)
   have HP4:=hide (HP3.out.grow (kst.mono fun b hb=>by omega))
   have HSM4:Hid (SM (fun b=>w.heap.size≤b∧b<(((w3.setCell ⟨bd,0,none⟩ (.string (S (tkAt l (p.tk+1)).tx))).setCell ⟨bd,1,none⟩ (.slice pn (namesN (l.drop (p.tk+1+1))).length cn)).setCell ⟨bd,2,none⟩ (.slice none 0 0)).heap.size∧b≠bd∧Un (((w3.setCell ⟨bd,0,none⟩ (.string (S (tkAt l (p.tk+1)).tx))).setCell ⟨bd,1,none⟩ (.slice pn (namesN (l.drop (p.tk+1+1))).length cn)).setCell ⟨bd,2,none⟩ (.slice none 0 0)) b) (((w3.setCell ⟨bd,0,none⟩ (.string (S (tkAt l (p.tk+1)).tx))).setCell ⟨bd,1,none⟩ (.slice pn (namesN (l.drop (p.tk+1+1))).length cn)).setCell ⟨bd,2,none⟩ (.slice none 0 0)) pn (namesN (l.drop (p.tk+1+1)))):=(HSa.out.keep (kst.mono fun b hb=>hb.2.2.1)).mono fun b hb=>⟨hb.1,Nat.lt_of_lt_of_le hb.2.1 kst.size,hb.2.2.1,hb.2.2.2.keep (kst.block b hb.2.2.1)⟩
   clear kst z0 z1 z2 y0 y1 y2
   generalize (((w3.setCell ⟨bd,0,none⟩ (.string (S (tkAt l (p.tk+1)).tx))).setCell ⟨bd,1,none⟩ (.slice pn (namesN (l.drop (p.tk+1+1))).length cn)).setCell ⟨bd,2,none⟩ (.slice none 0 0))=w4 at *
   refine done_J (by kernel_rfl) ?_ _
   have hbx4:Hold w.heap.size #[pB B] 58 w4:=HBX4.out
   have c4:=hbx4.cell 0
   simp only [lGA,lGZ] at c4
   go_wp2_with fail
   refine (keyX HP4.out sEq).mono ?_
   rintro r w5 (⟨rfl,hk,hp⟩ | ⟨rfl,hk,hp,hf⟩)
   ·have HR:Hid (RQ c B l w X (.panicked stuckV) w5):=by
     show RQ c B l w X (.panicked stuckV) w5
     rw [HX2.out.trans (key_st hk)]
     exact hp.stuck rfl
    clear hk hp
    unfold stuckV at *
    go_wp2_with fail
    exact ⟨rfl,HR.out⟩
   have HX5:=hide (HX2.out.trans (key_go hk))
   have HP5:=hide hp
   have hz5:w.heap.size≤w5.heap.size:=HP5.out.size
   have hb5:=hf.hold (Nat.le_refl _) HBX4.out
   have HB5:=hide hb5
   have HD5:=hide (hf.hold hbd HD4.out)
   have HS5:=hide ((HSM4.out.keep (KP.mono hf fun b hb=>⟨hb.1,hb.2.1⟩)).mono (Q:=fun b=>w.heap.size≤b∧b<w5.heap.size∧b≠bd∧Un w5 b) fun b hb=>⟨hb.1,Nat.lt_of_lt_of_le hb.2.1 hf.size,hb.2.2.1,hb.2.2.2.keep (hf.block b ⟨hb.1,hb.2.1⟩)⟩)
   have c5:=hb5.cell 0
   simp only [lGA,lGZ] at c5
   have hbd5:bd<w5.heap.size:=HD5.out.lt
   clear hk hp hf hb5
   go_wp2_with fail
   refine region_J 10 (N:=10) (S:=(fun W':World=>W'.cell? ⟨w.heap.size,0,none⟩=some (.pointer (some ⟨B,0,none⟩)))) (by kernel_rfl) (by kernel_rfl) ?_
   have hS:(fun W':World=>W'.cell? ⟨w.heap.size,0,none⟩=some (.pointer (some ⟨B,0,none⟩))) w5.drew:=c5
   refine take_E 0 12 (.pointer (some ⟨B,0,none⟩)) rfl (Or.inl ⟨by rfl,fun W' hW=>by go_simp⟩) hS ?_
   simp only [Act.put,lSI,lSZ,lSS]
   refine take_E 1 13 (.pointer (some ⟨B,0,none⟩)) rfl (Or.inl ⟨by rfl,fun W' hW=>by go_simp⟩) hS ?_
   simp only [Act.put,lSI,lSZ,lSS]
   refine take_E 2 14 (.func (.func 219) #[pB B] #[]) rfl (Or.inl ⟨by rfl,fun W' hW=>by go_simp⟩) hS ?_
   simp only [Act.put,lSI,lSZ,lSS]
   refine take_E 3 15 (.pointer (some ⟨B,0,none⟩)) rfl (Or.inl ⟨by rfl,fun W' hW=>by go_simp⟩) hS ?_
   simp only [Act.put,lSI,lSZ,lSS]
   refine take_E 4 16 (.pointer (some ⟨B,0,none⟩)) rfl (Or.inl ⟨by rfl,fun W' hW=>by go_simp⟩) hS ?_
   simp only [Act.put,lSI,lSZ,lSS]
   refine take_E 5 17 (.func (.func 219) #[pB B] #[]) rfl (Or.inl ⟨by rfl,fun W' hW=>by go_simp⟩) hS ?_
   simp only [Act.put,lSI,lSZ,lSS]
   refine take_E 7 19 (.func (.func 220) #[] #[bx w.heap.size,bx bd]) rfl (Or.inl ⟨by rfl,fun W' hW=>by go_simp⟩) hS ?_
   simp only [Act.put,lSI,lSZ,lSS]
   refine ready_E [6] ?_
   intro jj hjj
   obtain rfl:=List.mem_singleton.1 hjj
   clear hjj
   refine op_J rfl rfl fun K hK=>?_
   go_simp
   refine (moreX HP5.out.drew sBar 4 bd hbd5).mono ?_
   rintro r w6 ⟨b1,b2,b3,rfl,hc,hp,hf⟩
   have HP6:=hide hp
   have hz6:w.heap.size≤w6.heap.size:=HP6.out.size
   have hb6:=hf.hold (Nat.le_refl _) (hold_dr HB5.out)
   have HB6:=hide hb6
   have HD6:=hide (hf.hold hbd (hold_dr HD5.out))
   have hkw:KP (fun b=>w.heap.size≤b∧b<w5.heap.size) w5 w6:=⟨hf.os,hf.tape,hf.output,hf.size,hf.block⟩
   have HS6:=hide ((HS5.out.keep (hkw.mono fun b hb=>⟨hb.1,hb.2.1⟩)).mono (Q:=fun b=>w.heap.size≤b∧b<w6.heap.size∧b≠bd∧Un w6 b) fun b hb=>⟨hb.1,Nat.lt_of_lt_of_le hb.2.1 hf.size,hb.2.2.1,hb.2.2.2.keep (hkw.block b ⟨hb.1,hb.2.1⟩)⟩)
   have HM6:=hide hc
   have hbd6:bd<w6.heap.size:=HD6.out.lt
   have c6:=hb6.cell 0
   simp only [lGA,lGZ] at c6
   clear hp hf hb6 hc hkw
   refine hK _ _ ⟨fun _=>c6,?_⟩
   clear hK K
   refine ready_E [8] ?_
   intro jj hjj
   obtain rfl:=List.mem_singleton.1 hjj
   clear hjj
   refine op_J rfl rfl fun K hK=>?_
   go_simp
   have c7:=(HB6.out.alloc (.cells #[mth B 4,.func (.func 176) #[] #[bx b1,bx b2,bx b3],.func (.func 220) #[] #[bx w.heap.size,bx bd]] 1)).cell 0
   simp only [lGA,lGZ] at c7
   refine hK _ _ ⟨fun _=>c7,?_⟩
   clear hK K
   refine ready_E [9] ?_
   intro jj hjj
   obtain rfl:=List.mem_singleton.1 hjj
   clear hjj
   refine op_J rfl rfl fun K hK=>?_
   go_simp
   have hT:=thenZ (m:=3) (cap:=3) HP6.out [r0 4,rMore sBar 4,rData (tkAt l (p.tk+1)).tx (namesN (l.drop (p.tk+1+1)))] (L:=[mth B 4,.func (.func 176) #[] #[bx b1,bx b2,bx b3],.func (.func 220) #[] #[bx w.heap.size,bx bd]]) bd (10+(p.ru.length+0)) hn rfl (by decide) hbd6 ⟨⟨by decide,by decide,rfl⟩,HM6.out.ruv,⟨w.heap.size,bd,pn,cn,rfl,colN_new (Nat.le_refl _) (by omega),colN_own hbd,HB6.out,HD6.out,ht,HSO.out,HS6.out.mono fun b hb=>⟨⟨hb.2.1,colN_new hb.1 hb.2.2.1⟩,hb.2.2.2⟩⟩,trivial⟩
   refine hT.mono ?_
   rintro r w7 ⟨rfl,c7',hc7,hp7,hk7⟩
   have hi7:∀ b,Imm c w b→Imm (colN c w bd (10+(p.ru.length+0))) (w6.alloc (.cells [mth B 4,.func (.func 176) #[] #[bx b1,bx b2,bx b3],.func (.func 220) #[] #[bx w.heap.size,bx bd]].toArray 1)) b:=fun b hb=>⟨by have:=hb.1;simp;omega,(colN_old c w _ _ b hb.1).trans hb.2⟩
   have HQ:Hid (RQ c B l w (.inr { p with tk:=p.tk+1+1+(namesN (l.drop (p.tk+1+1))).length+1,ru:=[r0 4,rMore sBar 4,rData (tkAt l (p.tk+1)).tx (namesN (l.drop (p.tk+1+1)))] ++ p.ru }) (.returned (.tuple #[])) w7):=⟨rfl,c7',hp7,fun b hb=>⟨Nat.lt_of_lt_of_le (hi7 b hb).1 hk7.size,(hc7 b (hi7 b hb).1).trans (hi7 b hb).2⟩,(HP6.out.alloc _).imm.trans (hk7.mono hi7)⟩
   have hb7:Hold w.heap.size #[pB B] 58 w7:=(hk7.block _ ⟨by have:=HB6.out.lt;simp;omega,colN_new (Nat.le_refl _) (by omega)⟩).trans (HB6.out.alloc _)
   have c8:=hb7.cell 0
   simp only [lGA,lGZ] at c8
   clear hc7 hp7 hk7 hi7 hb7 hT
   refine hK _ _ ⟨fun _=>c8,?_⟩
   clear hK K
   refine done_J (by kernel_rfl) ?_ _
   go_wp2_with fail
   go_end0
   rw [HX5.out]
   exact HQ.out
 ·obtain rfl:=List.mem_singleton.1 hjj
  clear hjj
  refine op_J rfl rfl fun K hK=>?_
  go_simp
  have HD0:=hide (hold_dr (Hold.new w1 #[.string ⟨#[]⟩,.slice none 0 0,.slice none 0 0] 77))
  have HPa:=hide (HP1.out.alloc (.cells #[.string ⟨#[]⟩,.slice none 0 0,.slice none 0 0] 77)).drew
  have hbxa:=hold_dr (HB1.out.alloc (.cells #[.string ⟨#[]⟩,.slice none 0 0,.slice none 0 0] 77))
  have HBXa:=hide hbxa
  have hSa:=hbxa.cell 0
  simp only [lGA,lGZ] at hSa
  have hza:w.heap.size≤w1.heap.size:=HP1.out.size
  have hba:w.heap.size<w1.heap.size:=HB1.out.lt
  refine hK _ _ ⟨fun _=>hSa,?_⟩
  clear hK K
  have hsz:(w1.alloc (.cells #[.string ⟨#[]⟩,.slice none 0 0,.slice none 0 0] 77)).drew.heap.size=w1.heap.size+1:=by show (w1.alloc (.cells #[.string ⟨#[]⟩,.slice none 0 0,.slice none 0 0] 77)).heap.size=_;simp
  obtain ⟨bd,HBD⟩:∃ bd,Hid (bd=w1.heap.size):=⟨_,rfl⟩
  rw [← HBD.out] at HD0 hza hba hsz ⊢
  generalize hWa:(w1.alloc (.cells #[.string ⟨#[]⟩,.slice none 0 0,.slice none 0 0] 77)).drew=wa at *
  have HWA:=hide hWa
  have HSZ:=hide hsz
  clear hWa hsz
  have hbd:w.heap.size≤bd:=hza
  have hS:(fun W':World=>W'.cell? ⟨w.heap.size,0,none⟩=some (.pointer (some ⟨B,0,none⟩))) wa:=hSa
  refine ready_E [1] ?_
  intro jj hjj
  obtain rfl:=List.mem_singleton.1 hjj
  clear hjj
  refine op_J rfl rfl fun K hK=>?_
  go_simp
  refine (conX HPa.out).mono ?_
  rintro r w2 (⟨rfl,hk,hp⟩ | ⟨rfl,hk,hp,hf⟩)
  ·have HR:Hid (RQ c B l w X (.panicked stuckV) w2):=by
    show RQ c B l w X (.panicked stuckV) w2
    rw [HX1.out.trans (take_st hk)]
    exact hp.stuck rfl
   clear hk hp hK
   unfold stuckV at *
   exact ⟨rfl,HR.out⟩
  have HX2:=hide (HX1.out.trans (take_go hk))
  have hbx2:=hf.hold (Nat.le_refl _) HBXa.out
  have HBX2:=hide hbx2
  have hS2:=hbx2.cell 0
  simp only [lGA,lGZ] at hS2
  have HP2:=hide hp
  have hzz2:=hp.size
  have HD2:=hide (hf.hold hbd HD0.out)
  clear hk hp hf hbx2
  refine hK _ _ ⟨fun _=>hS2,?_⟩
  clear hK K
  have hS:(fun W':World=>W'.cell? ⟨w.heap.size,0,none⟩=some (.pointer (some ⟨B,0,none⟩))) w2:=hS2
  refine ready_E [3] ?_
  intro jj hjj
  obtain rfl:=List.mem_singleton.1 hjj
  clear hjj
  refine op_J rfl rfl fun K hK=>?_
  go_simp
  refine (namesY HP2.out).mono ?_
  rintro r w3 ⟨pn,cn,rfl,hso,hsm,hp,hf⟩
  have hbx3:=hf.hold (Nat.le_refl _) HBX2.out
  have HBX3:=hide hbx3
  have hS3:=hbx3.cell 0
  simp only [lGA,lGZ] at hS3
  have HP3:=hide hp
  have hzz3:=hp.size
  have HSO:=hide hso
  have HSM:=hide hsm
  have HD3:=hide (hf.hold hbd HD2.out)
  clear hp hf hso hsm hbx3
  refine hK _ _ ⟨fun _=>hS3,?_⟩
  clear hK K
  have hS:(fun W':World=>W'.cell? ⟨w.heap.size,0,none⟩=some (.pointer (some ⟨B,0,none⟩))) w3:=hS3
  have HSa:Hid (SM (fun b=>w.heap.size≤b∧b<w3.heap.size∧b≠bd∧Un w3 b) w3 pn (namesN (l.drop (p.tk+1+1)))):=HSM.out.mono fun b hb=>⟨Nat.le_trans HP2.out.size hb.1,hb.2.1,by have:=HD2.out.lt;have:=hb.1;omega,hb.2.2⟩
  refine take_E 4 9 (.agg #[.string (S (tkAt l (p.tk+1)).tx),.slice pn (namesN (l.drop (p.tk+1+1))).length cn,.slice none 0 0]) rfl (Or.inl ⟨by rfl,fun W' hW=>by go_simp⟩) hS ?_
  simp only [Act.put,lSI,lSZ,lSS]
  refine ready_E [6] ?_
  intro jj hjj
  obtain rfl:=List.mem_singleton.1 hjj
  clear hjj
  refine op_J rfl rfl fun K hK=>?_
  have z0:=HD3.out.frozen 0
  have z1:=HD3.out.frozen 1
  have z2:=HD3.out.frozen 2
  have y0:=HD3.out.cell 0
  have y1:=HD3.out.cell 1
  have y2:=HD3.out.cell 2
  simp only [lGA,lGS,lGZ] at y0 y1 y2
  go_simp
  refine hK _ _ ⟨fun h=>absurd h (by omega),?_⟩
  clear hK K
  have kst:KP (fun b=>b≠bd) w3 (((w3.setCell ⟨bd,0,none⟩ (.string (S (tkAt l (p.tk+1)).tx))).setCell ⟨bd,1,none⟩ (.slice pn (namesN (l.drop (p.tk+1+1))).length cn)).setCell ⟨bd,2,none⟩ (.slice none 0 0)):=((KP.setCell _ _ _ _ (fun h=>h rfl)).trans (KP.setCell _ _ _ _ (fun h=>h rfl))).trans (KP.setCell _ _ _ _ (fun h=>h rfl))
  have HD4:Hid (Hold bd #[.string (S (tkAt l (p.tk+1)).tx),.slice pn (namesN (l.drop (p.tk+1+1))).length cn,.slice none 0 0] 77 (((w3.setCell ⟨bd,0,none⟩ (.string (S (tkAt l (p.tk+1)).tx))).setCell ⟨bd,1,none⟩ (.slice pn (namesN (l.drop (p.tk+1+1))).length cn)).setCell ⟨bd,2,none⟩ (.slice none 0 0))):=((HD3.out.set 0 _).set 1 _).set 2 _
  have HBX4:=hide ((kst.block _ (show w.heap.size≠bd by omega)).trans HBX3.out)
  have HP4:=hide (HP3.out.grow (kst.mono fun b hb=>by omega))
  have HSM4:Hid (SM (fun b=>w.heap.size≤b∧b<(((w3.setCell ⟨bd,0,none⟩ (.string (S (tkAt l (p.tk+1)).tx))).setCell ⟨bd,1,none⟩ (.slice pn (namesN (l.drop (p.tk+1+1))).length cn)).setCell ⟨bd,2,none⟩ (.slice none 0 0)).heap.size∧b≠bd∧Un (((w3.setCell ⟨bd,0,none⟩ (.string (S (tkAt l (p.tk+1)).tx))).setCell ⟨bd,1,none⟩ (.slice pn (namesN (l.drop (p.tk+1+1))).length cn)).setCell ⟨bd,2,none⟩ (.slice none 0 0)) b) (((w3.setCell ⟨bd,0,none⟩ (.string (S (tkAt l (p.tk+1)).tx))).setCell ⟨bd,1,none⟩ (.slice pn (namesN (l.drop (p.tk+1+1))).length cn)).setCell ⟨bd,2,none⟩ (.slice none 0 0)) pn (namesN (l.drop (p.tk+1+1)))):=(HSa.out.keep (kst.mono fun b hb=>hb.2.2.1)).mono fun b hb=>⟨hb.1,Nat.lt_of_lt_of_le hb.2.1 kst.size,hb.2.2.1,hb.2.2.2.keep (kst.block b hb.2.2.1)⟩
  clear kst z0 z1 z2 y0 y1 y2
  generalize (((w3.setCell ⟨bd,0,none⟩ (.string (S (tkAt l (p.tk+1)).tx))).setCell ⟨bd,1,none⟩ (.slice pn (namesN (l.drop (p.tk+1+1))).length cn)).setCell ⟨bd,2,none⟩ (.slice none 0 0))=w4 at *
  refine done_J (by kernel_rfl) ?_ _
  have hbx4:Hold w.heap.size #[pB B] 58 w4:=HBX4.out
  have c4:=hbx4.cell 0
  simp only [lGA,lGZ] at c4
  go_wp2_with fail
  refine (keyX HP4.out sEq).mono ?_
  rintro r w5 (⟨rfl,hk,hp⟩ | ⟨rfl,hk,hp,hf⟩)
  ·have HR:Hid (RQ c B l w X (.panicked stuckV) w5):=by
    show RQ c B l w X (.panicked stuckV) w5
    rw [HX2.out.trans (key_st hk)]
    exact hp.stuck rfl
   clear hk hp
   unfold stuckV at *
   go_wp2_with fail
   exact ⟨rfl,HR.out⟩
  have HX5:=hide (HX2.out.trans (key_go hk))
  have HP5:=hide hp
  have hz5:w.heap.size≤w5.heap.size:=HP5.out.size
  have hb5:=hf.hold (Nat.le_refl _) HBX4.out
  have HB5:=hide hb5
  have HD5:=hide (hf.hold hbd HD4.out)
  have HS5:=hide ((HSM4.out.keep (KP.mono hf fun b hb=>⟨hb.1,hb.2.1⟩)).mono (Q:=fun b=>w.heap.size≤b∧b<w5.heap.size∧b≠bd∧Un w5 b) fun b hb=>⟨hb.1,Nat.lt_of_lt_of_le hb.2.1 hf.size,hb.2.2.1,hb.2.2.2.keep (hf.block b ⟨hb.1,hb.2.1⟩)⟩)
  have c5:=hb5.cell 0
  simp only [lGA,lGZ] at c5
  have hbd5:bd<w5.heap.size:=HD5.out.lt
  clear hk hp hf hb5
  go_wp2_with fail
  refine region_J 10 (N:=10) (S:=(fun W':World=>W'.cell? ⟨w.heap.size,0,none⟩=some (.pointer (some ⟨B,0,none⟩)))) (by kernel_rfl) (by kernel_rfl) ?_
  have hS:(fun W':World=>W'.cell? ⟨w.heap.size,0,none⟩=some (.pointer (some ⟨B,0,none⟩))) w5.drew:=c5
  refine take_E 0 12 (.pointer (some ⟨B,0,none⟩)) rfl (Or.inl ⟨by rfl,fun W' hW=>by go_simp⟩) hS ?_
  simp only [Act.put,lSI,lSZ,lSS]
  refine take_E 1 13 (.pointer (some ⟨B,0,none⟩)) rfl (Or.inl ⟨by rfl,fun W' hW=>by go_simp⟩) hS ?_
  simp only [Act.put,lSI,lSZ,lSS]
  refine take_E 2 14 (.func (.func 219) #[pB B] #[]) rfl (Or.inl ⟨by rfl,fun W' hW=>by go_simp⟩) hS ?_
  simp only [Act.put,lSI,lSZ,lSS]
  refine take_E 3 15 (.pointer (some ⟨B,0,none⟩)) rfl (Or.inl ⟨by rfl,fun W' hW=>by go_simp⟩) hS ?_
  simp only [Act.put,lSI,lSZ,lSS]
  refine take_E 4 16 (.pointer (some ⟨B,0,none⟩)) rfl (Or.inl ⟨by rfl,fun W' hW=>by go_simp⟩) hS ?_
  simp only [Act.put,lSI,lSZ,lSS]
  refine take_E 5 17 (.func (.func 219) #[pB B] #[]) rfl (Or.inl ⟨by rfl,fun W' hW=>by go_simp⟩) hS ?_
  simp only [Act.put,lSI,lSZ,lSS]
  refine take_E 7 19 (.func (.func 220) #[] #[bx w.heap.size,bx bd]) rfl (Or.inl ⟨by rfl,fun W' hW=>by go_simp⟩) hS ?_
  simp only [Act.put,lSI,lSZ,lSS]
  refine ready_E [6] ?_
  intro jj hjj
  obtain rfl:=List.mem_singleton.1 hjj
  clear hjj
  refine op_J rfl rfl fun K hK=>?_
  go_simp
  refine (moreX HP5.out.drew sBar 4 bd hbd5).mono ?_
  rintro r w6 ⟨b1,b2,b3,rfl,hc,hp,hf⟩
  have HP6:=hide hp
  have hz6:w.heap.size≤w6.heap.size:=HP6.out.size
  have hb6:=hf.hold (Nat.le_refl _) (hold_dr HB5.out)
  have HB6:=hide hb6
  have HD6:=hide (hf.hold hbd (hold_dr HD5.out))
  have hkw:KP (fun b=>w.heap.size≤b∧b<w5.heap.size) w5 w6:=⟨hf.os,hf.tape,hf.output,hf.size,hf.block⟩
  have HS6:=hide ((HS5.out.keep (hkw.mono fun b hb=>⟨hb.1,hb.2.1⟩)).mono (Q:=fun b=>w.heap.size≤b∧b<w6.heap.size∧b≠bd∧Un w6 b) fun b hb=>⟨hb.1,Nat.lt_of_lt_of_le hb.2.1 hf.size,hb.2.2.1,hb.2.2.2.keep (hkw.block b ⟨hb.1,hb.2.1⟩)⟩)
  have HM6:=hide hc
  have hbd6:bd<w6.heap.size:=HD6.out.lt
  have c6:=hb6.cell 0
  simp only [lGA,lGZ] at c6
  clear hp hf hb6 hc hkw
  refine hK _ _ ⟨fun _=>c6,?_⟩
  clear hK K
  refine ready_E [8] ?_
  intro jj hjj
  obtain rfl:=List.mem_singleton.1 hjj
  clear hjj
  refine op_J rfl rfl fun K hK=>?_
  go_simp
  have c7:=(HB6.out.alloc (.cells #[mth B 4,.func (.func 176) #[] #[bx b1,bx b2,bx b3],.func (.func 220) #[] #[bx w.heap.size,bx bd]] 1)).cell 0
  simp only [lGA,lGZ] at c7
  refine hK _ _ ⟨fun _=>c7,?_⟩
  clear hK K
  refine ready_E [9] ?_
  intro jj hjj
  obtain rfl:=List.mem_singleton.1 hjj
  clear hjj
  refine op_J rfl rfl fun K hK=>?_
  go_simp
  have hT:=thenZ (m:=3) (cap:=3) HP6.out [r0 4,rMore sBar 4,rData (tkAt l (p.tk+1)).tx (namesN (l.drop (p.tk+1+1)))] (L:=[mth B 4,.func (.func 176) #[] #[bx b1,bx b2,bx b3],.func (.func 220) #[] #[bx w.heap.size,bx bd]]) bd (10+(p.ru.length+0)) hn rfl (by decide) hbd6 ⟨⟨by decide,by decide,rfl⟩,HM6.out.ruv,⟨w.heap.size,bd,pn,cn,rfl,colN_new (Nat.le_refl _) (by omega),colN_own hbd,HB6.out,HD6.out,ht,HSO.out,HS6.out.mono fun b hb=>⟨⟨hb.2.1,colN_new hb.1 hb.2.2.1⟩,hb.2.2.2⟩⟩,trivial⟩
  refine hT.mono ?_
  rintro r w7 ⟨rfl,c7',hc7,hp7,hk7⟩
  have hi7:∀ b,Imm c w b→Imm (colN c w bd (10+(p.ru.length+0))) (w6.alloc (.cells [mth B 4,.func (.func 176) #[] #[bx b1,bx b2,bx b3],.func (.func 220) #[] #[bx w.heap.size,bx bd]].toArray 1)) b:=fun b hb=>⟨by have:=hb.1;simp;omega,(colN_old c w _ _ b hb.1).trans hb.2⟩
  have HQ:Hid (RQ c B l w (.inr { p with tk:=p.tk+1+1+(namesN (l.drop (p.tk+1+1))).length+1,ru:=[r0 4,rMore sBar 4,rData (tkAt l (p.tk+1)).tx (namesN (l.drop (p.tk+1+1)))] ++ p.ru }) (.returned (.tuple #[])) w7):=⟨rfl,c7',hp7,fun b hb=>⟨Nat.lt_of_lt_of_le (hi7 b hb).1 hk7.size,(hc7 b (hi7 b hb).1).trans (hi7 b hb).2⟩,(HP6.out.alloc _).imm.trans (hk7.mono hi7)⟩
  have hb7:Hold w.heap.size #[pB B] 58 w7:=(hk7.block _ ⟨by have:=HB6.out.lt;simp;omega,colN_new (Nat.le_refl _) (by omega)⟩).trans (HB6.out.alloc _)
  have c8:=hb7.cell 0
  simp only [lGA,lGZ] at c8
  clear hc7 hp7 hk7 hi7 hb7 hT
  refine hK _ _ ⟨fun _=>c8,?_⟩
  clear hK K
  refine done_J (by kernel_rfl) ?_ _
  go_wp2_with fail
  go_end0
  rw [HX5.out]
  exact HQ.out
end Go.Proofs.YtcnnlecjdkfdjaaGreatDoor
