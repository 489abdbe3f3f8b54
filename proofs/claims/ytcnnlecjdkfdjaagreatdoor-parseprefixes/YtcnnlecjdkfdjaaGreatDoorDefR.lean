/- DefR: the texts of these names, of which the claim is made. -/
import Derived.Test.YtcnnlecjdkfdjaaGreatDoorR5
set_option linter.unusedVariables false
set_option linter.unusedSimpArgs false
set_option maxRecDepth 100000
set_option maxHeartbeats 8000000
namespace Go.Proofs.YtcnnlecjdkfdjaaGreatDoor
open Go.RowKit
theorem thenZ {c:Nat→Nat} {B:Nat} {l:List Tk} {w:World} {p:Ps} {W:World} (h:PW c B l w p W) (rs:List Ru) {L:List Value} (e k:Nat) (hn:p.ru.length≤1000000000) {m cap:Nat} (hm:rs.length=m) (hm':m≤1000) (he:e<W.heap.size) (hR:Rus B (colN c w e k) W p.ru.length rs L) :
 Calls Tryz.prog 55 #[.pointer (some ⟨B,0,none⟩),.slice (some ⟨W.heap.size,0,none⟩) m cap] (W.alloc (.cells L.toArray 1)) (ThenQ (colN c w e k) B l { p with ru:=rs ++ p.ru } (W.alloc (.cells L.toArray 1))):=by
 have hR':=hR.below ((Below.refl _ W).alloc (Nat.le_refl _) (.cells L.toArray 1))
 exact then_any ((h.alloc _).pm (colN c w e k) (colN_old _ _ _ _)) hn hm hm' (Hold.new W _ 1) (colN_new h.size (by omega)) (hR'.len.trans hm) (by subst hm;exact hR'.at)
def mkN (ns:List (List UInt8)) (i n:Nat):List Ru:=(ns.take i).reverse.map fun m=>rMake (bindT 4 m) n
theorem mkN_succ {ns:List (List UInt8)} {i:Nat} (n:Nat) (hi:i<ns.length):mkN ns (i+1) n=rMake (bindT 4 ns[i]) n :: mkN ns i n:=by
 unfold mkN
 rw [List.take_succ_eq_append_getElem hi,List.reverse_append,List.reverse_singleton,List.singleton_append,List.map_cons]
theorem mkN_all (ns:List (List UInt8)) (n:Nat):mkN ns ns.length n=ns.reverse.map fun m=>rMake (bindT 4 m) n:=by
 unfold mkN
 rw [List.take_of_length_le (Nat.le_refl _)]
theorem mkN_len {ns:List (List UInt8)} {i n:Nat} (hi:i≤ns.length):(mkN ns i n).length=i:=by
 unfold mkN
 simp
 omega
structure DefI (c:Nat→Nat) (B:Nat) (l:List Tk) (w:World) (b0:Nat) (ns:List (List UInt8)) (pn:Option Addr) (p:Ps) (ci:Nat→Nat) (W:World):Prop where
 pm:PM ci B l p W
 cbx:ci b0=0
 box:Hold b0 #[pB B] 58 W
 nms:SM (Imm ci W) W pn ns
 imm:∀ b,Imm c w b→Imm ci W b
 kp:KP (Imm c w) w W
theorem def_rule {c:Nat→Nat} {B:Nat} {l:List Tk} {p:Ps} {w:World} (hx:p.ex.length≤1000000000) (hP:PM c B l p w) (hn:p.ru.length≤900000000) :
 Calls Tryz.prog 190 #[.pointer (some ⟨B,0,none⟩)] w (RQ c B l w (defR l p)):=by
 have hmf:=mkf
 have HP0:=hide ((PW.start hP).alloc (.cells #[pB B] 58))
 have HBX:=hide (Hold.new w #[pB B] 58)
 have ht:=((PW.start hP).token p.tk).1
 have h0:0<w.heap.size:=Nat.lt_of_le_of_lt (Nat.zero_le _) HP0.out.ltB
 obtain ⟨X,HX0⟩:∃ X,Hid (X=defR l p):=⟨_,rfl⟩
 rw [← HX0.out]
 clear hP
 go_enter Tryz.func190,Tryz.ntmps190
 go_wp2_with fail
 refine (nameX HP0.out).mono ?_
 rintro r w1 (⟨rfl,hk,hp⟩ | ⟨rfl,hk,hp,hf⟩)
 ·have HR:Hid (RQ c B l w X (.panicked stuckV) w1):=by
   show RQ c B l w X (.panicked stuckV) w1
   rw [HX0.out.trans (take_st hk)]
   exact hp.stuck rfl
  clear hk hp
  unfold stuckV at *
  go_wp2_with fail
  exact ⟨rfl,HR.out⟩
 have HX1:=hide (HX0.out.trans (take_go hk))
 have hz1:=hp.size
 have hbx:=hf.hold (Nat.le_refl _) HBX.out
 generalize (tkAt l p.tk).tx=nm at *
 have HP2:=hide (hp.alloc (.cells #[.string (S nm),.int .i64 0,.string ⟨#[]⟩,.int .i64 0,.slice none 0 0,.slice none 0 0] 79))
 have HB2:=hide (hbx.alloc (.cells #[.string (S nm),.int .i64 0,.string ⟨#[]⟩,.int .i64 0,.slice none 0 0,.slice none 0 0] 79))
 have HF2:=hide (Hold.new w1 #[.string (S nm),.int .i64 0,.string ⟨#[]⟩,.int .i64 0,.slice none 0 0,.slice none 0 0] 79)
 have hl1:=hbx.lt
 have a1:=HB2.out.cell 0
 simp only [lGA,lGZ] at a1
 clear hk hp hf hbx
 go_wp2_with fail
 obtain ⟨w2,hw2⟩:∃ w2,w2=w1.alloc (.cells #[.string (S nm),.int .i64 0,.string ⟨#[]⟩,.int .i64 0,.slice none 0 0,.slice none 0 0] 79):=⟨_,rfl⟩
 have hs2:w2.heap.size=w1.heap.size+1:=by rw [hw2];simp
 rw [← hs2,← hw2]
 rw [← hw2] at HP2 HB2 HF2 a1
 have HS2:=hide hs2
 clear hw2 hs2
 have hT:=thenZ (m:=1) (cap:=1) HP2.out [rDef nm] (L:=[.func (.func 221) #[] #[bx w.heap.size,bx w1.heap.size]]) w1.heap.size (10+(p.ru.length+0)) (by show p.ru.length≤_;omega) rfl (by decide) HF2.out.lt ⟨⟨w.heap.size,w1.heap.size,rfl,colN_new (Nat.le_refl _) (by omega),colN_own hz1,HB2.out,HF2.out,ht⟩,trivial⟩
 refine hT.mono ?_
 rintro r w3 ⟨rfl,c3,hc3,hp3,hk3⟩
 have hz3:w2.heap.size+1≤w3.heap.size:=by have:=hk3.size;simpa using this
 have hB2l:=HB2.out.lt
 have hI3:∀ b,Imm c w b→Imm (colN c w w1.heap.size (10+(p.ru.length+0))) (w2.alloc (.cells [.func (.func 221) #[] #[bx w.heap.size,bx w1.heap.size]].toArray 1)) b:=fun b hb=>⟨by have:=hb.1;have:=HP2.out.size;simp;omega,(colN_old _ _ _ _ b hb.1).trans hb.2⟩
 have HC3:Hid (c3 w.heap.size=0):=(hc3 _ (by simp;omega)).trans (colN_new (Nat.le_refl _) (by omega))
 have HX3:Hid (Hold w.heap.size #[pB B] 58 w3):=(hk3.block _ ⟨by simp;omega,colN_new (Nat.le_refl _) (by omega)⟩).trans (HB2.out.alloc _)
 have HI3:Hid (∀ b,Imm c w b→Imm c3 w3 b):=fun b hb=>⟨Nat.lt_of_lt_of_le (hI3 b hb).1 hk3.size,(hc3 b (hI3 b hb).1).trans (hI3 b hb).2⟩
 have HK3:Hid (KP (Imm c w) w w3):=(HP2.out.alloc _).imm.trans (hk3.mono hI3)
 have HP3:=hide hp3
 have d1:=HX3.out.cell 0
 simp only [lGA,lGZ] at d1
 clear hc3 hp3 hk3 hI3 hT HP2 HB2 HF2 a1
 go_wp2_with fail
 refine (namesX (PW.start HP3.out)).mono ?_
 rintro r w4 ⟨pn,cn,rfl,hso,hsm,hp4,hf4⟩
 have hXe:X=thenR (keyR l sEq { p with tk:=p.tk+1+(namesN (l.drop (p.tk+1))).length,ru:=(namesN (l.drop (p.tk+1))).reverse.map (fun n=>rMake (bindT 4 n) p.ex.length) ++ (rDef nm :: p.ru) }) (pushR [r0 10]):=HX1.out
 have hnl:(namesN (l.drop (p.tk+1))).length≤1000000:=by
  obtain ⟨tp,tc,vr,ve,vs,vf,vd,vp,hL⟩:=(PW.start HP3.out).look
  have:=hL.max
  unfold namesN
  have h1:((l.drop (p.tk+1)).takeWhile fun t=>decide (t.kd=2)).length≤(l.drop (p.tk+1)).length:=(List.takeWhile_sublist _).length_le
  simp at h1 ⊢
  omega
 have hDI:DefI c B l w w.heap.size (namesN (l.drop (p.tk+1))) pn { p with tk:=p.tk+1+(namesN (l.drop (p.tk+1))).length,ru:=rDef nm :: p.ru } (fun b=>if b<w3.heap.size then c3 b else 0) w4:=by
  have hl3:=HX3.out.lt
  have hcB:c3 B=1:=(PW.start HP3.out).colB
  have e3:∀ b,b<w3.heap.size→(fun b=>if b<w3.heap.size then c3 b else 0) b=c3 b:=fun b hb=>by simp [hb]
  refine ⟨hp4.pm _ e3,(e3 _ hl3).trans HC3.out,(hp4.kept.block _ ⟨hl3,fun e=>by have:=HC3.out;rw [e,hcB] at this;cases this⟩).trans HX3.out,hsm.mono fun b hb=>⟨hb.2,?_⟩,fun b hb=>⟨Nat.lt_of_lt_of_le (HI3.out b hb).1 hp4.size,(e3 _ (HI3.out b hb).1).trans (HI3.out b hb).2⟩,HK3.out.trans (hp4.imm.mono HI3.out)⟩
  have h1:=hb.1
  simp [show ¬ b<w3.heap.size by omega]
 simp only at hso
 generalize namesN (l.drop (p.tk+1))=ns at *
 have HXE:=hide hXe
 have HDI:=hide hDI
 have HSO:=hide hso
 obtain ⟨n,hnn⟩:∃ n,n=ns.length:=⟨_,rfl⟩
 have HNN:=hide hnn
 rw [← hnn] at hnl ⊢
 clear hXe hDI hso hsm hp4 hf4 hnn HX1 HC3 HX3 HI3 HK3 HP3 d1
 go_wp2_with fail
 go_loopg [15] n (fun k v15 wr=>∃ (i:Nat) (ci:Nat→Nat),i≤n∧k=n - i∧v15=.int .i64 i∧DefI c B l w w.heap.size ns pn { p with tk:=p.tk+1+ns.length,ru:=mkN ns i p.ex.length ++ (rDef nm :: p.ru) } ci wr)
 case atStart=>exact ⟨0,_,Nat.zero_le _,by omega,rfl,HDI.out⟩
 case round=>
  obtain ⟨i,ci,hi1,rfl,rfl,hd⟩:=hrel
  have HD:=hide hd
  have cb:=hd.box.cell 0
  simp only [lGA,lGZ] at cb
  by_cases hlt:i<n
  ·have hil:i<ns.length:=by rw [← HNN.out];exact hlt
   have hms:=mkN_succ p.ex.length hil
   have hml:=mkN_len (n:=p.ex.length) (Nat.le_of_lt hil)
   rcases hd.nms with he | ⟨b,o,hpn,hPb,hma⟩
   ·rw [he] at hil;simp at hil
   obtain ⟨hsl,hcs⟩:=hma i ns[i] (by simp)
   subst hpn
   generalize ns[i]=s at *
   have HMS:=hide hms
   have HML:=hide hml
   have hii:(i:Int)<n:=by omega
   clear hd hms hml hma
   go_wp2_with fail
   have HPW:=hide (PW.start HD.out.pm)
   have HCB:=hide cb
   have HBX:=hide HD.out.box
   refine region_J 7 (N:=7) (S:=(fun W':World=>W'.cell? ⟨w.heap.size,0,none⟩=some (.pointer (some ⟨B,0,none⟩)))) (by kernel_rfl) (by kernel_rfl) ?_
   have hS:(fun W':World=>W'.cell? ⟨w.heap.size,0,none⟩=some (.pointer (some ⟨B,0,none⟩))) wr.drew:=cb
   have hBne:w.heap.size≠B:=fun e=>by have h1:=HPW.out.colB;have h2:=HD.out.cbx;rw [e,h1] at h2;cases h2
   refine take_E 0 19 (.pointer (some ⟨B,0,none⟩)) rfl (Or.inl ⟨by rfl,fun W' hW=>by go_simp⟩) hS ?_
   simp only [Act.put,lSI,lSZ,lSS]
   refine take_E 1 20 (.pointer (some ⟨B,0,none⟩)) rfl (Or.inl ⟨by rfl,fun W' hW=>by go_simp⟩) hS ?_
   simp only [Act.put,lSI,lSZ,lSS]
   refine take_E 2 21 (.string (S s)) rfl (Or.inl ⟨by rfl,fun W' hW=>by go_simp⟩) hS ?_
   simp only [Act.put,lSI,lSZ,lSS]
   refine ready_E [3] ?_
   intro jj hjj
   obtain rfl:=List.mem_singleton.1 hjj
   clear hjj
   refine op_J rfl rfl fun K hK=>?_
   go_simp
   refine (bindsX HPW.out.drew 4 s hsl).mono ?_
   rintro r w5 ⟨pn5,rfl,hso5,hsm5,hp5,hf5⟩
   have HP5:=hide hp5
   have HSO5:=hide hso5
   have HSM5:=hide hsm5
   have hb5:Hold w.heap.size #[pB B] 58 w5:=(hp5.kept.block _ ⟨HBX.out.lt,hBne⟩).trans HBX.out
   have c5:=hb5.cell 0
   simp only [lGA,lGZ] at c5
   clear hp5 hf5 hso5 hsm5 hb5
   refine hK _ _ ⟨fun _=>c5,?_⟩
   clear hK K
   refine ready_E [4] ?_
   intro jj hjj
   obtain rfl:=List.mem_singleton.1 hjj
   clear hjj
   refine op_J rfl rfl fun K hK=>?_
   go_simp
   refine (makingX HP5.out (pn:=pn5) (cn:=1) (bindT 4 s) 0 (Nat.zero_le _) hx (by simp [bindT]) (by simp [bindT]) HSO5.out HSM5.out).mono ?_
   rintro r w6 ⟨e,bp6,bf6,rfl,hc6,hlt6,hle6,hp6,hf6⟩
   have HP6:=hide hp6
   have HC6:=hide hc6
   have hb6:Hold w.heap.size #[pB B] 58 w6:=(hp6.kept.block _ ⟨HBX.out.lt,hBne⟩).trans HBX.out
   have c6:=hb6.cell 0
   have HB6:=hide hb6
   simp only [lGA,lGZ] at c6
   clear hp6 hf6 hc6 hb6
   refine hK _ _ ⟨fun _=>c6,?_⟩
   clear hK K
   refine ready_E [5] ?_
   intro jj hjj
   obtain rfl:=List.mem_singleton.1 hjj
   clear hjj
   refine op_J rfl rfl fun K hK=>?_
   go_simp
   have c7:=(HB6.out.alloc (.cells #[.func (.func 173) #[] #[bx e,bx bp6,bx bf6]] 1)).cell 0
   simp only [lGA,lGZ] at c7
   refine hK _ _ ⟨fun _=>c7,?_⟩
   clear hK K
   refine ready_E [6] ?_
   intro jj hjj
   obtain rfl:=List.mem_singleton.1 hjj
   clear hjj
   refine op_J rfl rfl fun K hK=>?_
   go_simp
   have hT:=thenZ (m:=1) (cap:=1) HP6.out [rMake (bindT 4 s) p.ex.length] (L:=[.func (.func 173) #[] #[bx e,bx bp6,bx bf6]]) e (10+((mkN ns i p.ex.length ++ (rDef nm :: p.ru)).length+0)) (by rw [List.length_append,HML.out,List.length_cons];omega) rfl (by decide) hlt6 ⟨HC6.out.ruv rfl,trivial⟩
   refine hT.mono ?_
   rintro r w7 ⟨rfl,c7',hc7,hp7,hk7⟩
   have HDN:Hid (DefI c B l w w.heap.size ns (some ⟨b,o,none⟩) { p with tk:=p.tk+1+ns.length,ru:=mkN ns (i+1) p.ex.length ++ (rDef nm :: p.ru) } c7' w7):=by
    have hz6:=HP6.out.size
    have hz6':wr.heap.size≤w6.heap.size:=hz6
    have hold:∀ x,x<wr.heap.size→c7' x=ci x:=fun x hx=>(hc7 x (by simp;omega)).trans (colN_old _ _ _ _ x hx)
    have himm:∀ x,Imm ci wr x→Imm (colN ci wr.drew e (10+((mkN ns i p.ex.length ++ (rDef nm :: p.ru)).length+0))) (w6.alloc (.cells [.func (.func 173) #[] #[bx e,bx bp6,bx bf6]].toArray 1)) x:=fun x hx=>⟨by have:=hx.1;simp;omega,(colN_old ci wr.drew _ _ x hx.1).trans hx.2⟩
    have hkp:KP (Imm ci wr) wr w7:=(show KP (Imm ci wr) wr (w6.alloc (.cells [.func (.func 173) #[] #[bx e,bx bp6,bx bf6]].toArray 1)) from (HP6.out.alloc _).imm).trans (hk7.mono himm)
    have hl:w.heap.size<wr.heap.size:=HBX.out.lt
    have himm7:∀ x,Imm ci wr x→Imm c7' w7 x:=fun x hx=>⟨Nat.lt_of_lt_of_le hx.1 hkp.size,(hold x hx.1).trans hx.2⟩
    refine ⟨?_,(hold _ hl).trans HD.out.cbx,(hkp.block _ ⟨hl,HD.out.cbx⟩).trans HBX.out,(HD.out.nms.keep hkp).mono himm7,fun x hx=>himm7 x (HD.out.imm x hx),HD.out.kp.trans (hkp.mono HD.out.imm)⟩
    rw [HMS.out]
    exact hp7
   clear hc7 hp7 hk7 hT
   refine hK _ _ ⟨fun _=>by have h:=HDN.out.box.cell 0;simpa using h,?_⟩
   clear hK K
   refine done_J (by kernel_rfl) ?_ _
   go_wp2_with fail
   go_roundg (n - (i+1))
   case measure=>omega
   case rel=>exact ⟨i+1,c7',by omega,rfl,by go_num,HDN.out⟩
  ·have hii:¬ (i:Int)<n:=by omega
   obtain rfl:i=ns.length:=by rw [← HNN.out];omega
   have HPW:=hide (PW.start HD.out.pm)
   have hz0:0<wr.heap.size:=Nat.lt_of_le_of_lt (Nat.zero_le _) HPW.out.ltB
   have HIM:=hide HD.out.imm
   have HKP:=hide HD.out.kp
   have hrl:(mkN ns ns.length p.ex.length ++ (rDef nm :: p.ru)).length≤1000000000:=by rw [List.length_append,mkN_len (Nat.le_refl _),List.length_cons,← HNN.out];omega
   have hXm:=HXE.out
   rw [← mkN_all] at hXm
   have HXM:=hide hXm
   have HBX:=hide HD.out.box
   have hBne:w.heap.size≠B:=fun e=>by have h1:=HPW.out.colB;have h2:=HD.out.cbx;rw [e,h1] at h2;cases h2
   clear hd hXm
   go_wp2_with fail
   refine (keyX HPW.out sEq).mono ?_
   rintro r w5 (⟨rfl,hk,hp⟩ | ⟨rfl,hk,hp,hf⟩)
   ·have HR:Hid (RQ c B l w X (.panicked stuckV) w5):=by
     show RQ c B l w X (.panicked stuckV) w5
     rw [HXM.out.trans (key_st hk)]
     exact (hp.stuck rfl).trans HIM.out HKP.out
    clear hk hp
    unfold stuckV at *
    go_wp2_with fail
    exact ⟨rfl,HR.out⟩
   have HX5:=hide (HXM.out.trans (key_go hk))
   have HP5:=hide hp
   have hz5:wr.heap.size≤w5.heap.size:=HP5.out.size
   have hb5:Hold w.heap.size #[pB B] 58 w5:=(hp.kept.block _ ⟨HBX.out.lt,hBne⟩).trans HBX.out
   have c5:=hb5.cell 0
   simp only [lGA,lGZ] at c5
   clear hk hp hf hb5
   go_wp2_with fail
   refine (thenX (m:=1) (cap:=1) HP5.out [r0 10] (L:=[mth B 10]) 0 0 hrl rfl (by decide) (by omega) ⟨⟨by decide,by decide,rfl⟩,trivial⟩).mono ?_
   rintro r w6 ⟨rfl,hq⟩
   have HQ:=hide hq
   clear hq
   go_wp2_with fail
   go_end0
   rw [HX5.out]
   exact RQ.trans HIM.out HKP.out ⟨rfl,HQ.out⟩
end Go.Proofs.YtcnnlecjdkfdjaaGreatDoor
