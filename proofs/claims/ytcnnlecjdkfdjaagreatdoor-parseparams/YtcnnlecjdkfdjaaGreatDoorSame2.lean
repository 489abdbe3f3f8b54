/- Parts of the proof. -/
import Derived.Test.YtcnnlecjdkfdjaaGreatDoorSame
set_option linter.unusedVariables false
set_option linter.unusedSimpArgs false
set_option maxRecDepth 100000
set_option maxHeartbeats 8000000
namespace Go.Proofs.YtcnnlecjdkfdjaaGreatDoor
open Go.RowKit
theorem gm_at {P:Nat→Prop} {w:World} {l:List Sg} {pk:Option Addr} (hE:GM P w pk l) {i:Nat} (hi:i<l.length):∃ b o qk dk,pk=some ⟨b,o,none⟩∧P b∧SgIn P w l[i] [.string (S l[i].nm),.slice qk l[i].ar.length dk] ∧
 w.cell? ⟨b,o+i * 2,none⟩=some (.string (S l[i].nm))∧w.cell? ⟨b,o+i * 2+1,none⟩=some (.slice qk l[i].ar.length dk):=by
 rcases hE with h | ⟨b,o,hp,hb,hm⟩
 ·rw [h] at hi;simp at hi
 ·obtain ⟨ds,h1,h2,h3⟩:=hm i l[i] (by simp)
  obtain ⟨qk,dk,rfl,_⟩:=(SgIn_iff _ _ _ _).1 h3
  exact ⟨b,o,qk,dk,hp,hb,h3,h2 0 _ rfl,h2 1 _ rfl⟩
theorem fm_at {P:Nat→Prop} {w:World} {l:List Fm} {pk:Option Addr} (hE:RM 2 P w (FmIn P w) pk l) {i:Nat} (hi:i<l.length):∃ b o qk dk,pk=some ⟨b,o,none⟩∧P b∧FmIn P w l[i] [.string (S l[i].nm),.slice qk l[i].ar.length dk] ∧
 w.cell? ⟨b,o+i * 2,none⟩=some (.string (S l[i].nm))∧w.cell? ⟨b,o+i * 2+1,none⟩=some (.slice qk l[i].ar.length dk):=by
 rcases hE with h | ⟨b,o,hp,hb,hm⟩
 ·rw [h] at hi;simp at hi
 ·obtain ⟨ds,h1,h2,h3⟩:=hm i l[i] (by simp)
  obtain ⟨qk,dk,rfl,h4⟩:=h3
  exact ⟨b,o,qk,dk,hp,hb,⟨qk,dk,rfl,h4⟩,h2 0 _ rfl,h2 1 _ rfl⟩
theorem dt_at {P:Nat→Prop} {w:World} {l:List Dt} {pk:Option Addr} (hE:RM 3 P w (DtIn P w) pk l) {i:Nat} (hi:i<l.length):∃ b o qk dk ql dl,pk=some ⟨b,o,none⟩∧P b∧DtIn P w l[i] [.string (S l[i].nm),.slice qk l[i].ps.length dk,.slice ql l[i].fs.length dl] ∧
 w.cell? ⟨b,o+i * 3,none⟩=some (.string (S l[i].nm))∧w.cell? ⟨b,o+i * 3+1,none⟩=some (.slice qk l[i].ps.length dk)∧w.cell? ⟨b,o+i * 3+2,none⟩=some (.slice ql l[i].fs.length dl):=by
 rcases hE with h | ⟨b,o,hp,hb,hm⟩
 ·rw [h] at hi;simp at hi
 ·obtain ⟨ds,h1,h2,h3⟩:=hm i l[i] (by simp)
  obtain ⟨qk,dk,ql,dl,rfl,h4⟩:=h3
  exact ⟨b,o,qk,dk,ql,dl,hp,hb,⟨qk,dk,ql,dl,rfl,h4⟩,h2 0 _ rfl,h2 1 _ rfl,h2 2 _ rfl⟩
theorem df_at {P:Nat→Prop} {w:World} {l:List Df} {pk:Option Addr} (hE:RM 6 P w (DfIn P w) pk l) {i:Nat} (hi:i<l.length):∃ b o qn dn qk dk,pk=some ⟨b,o,none⟩∧P b∧TrIn P w l[i].bd [.int .i64 l[i].bd.kd,.string (S l[i].bd.nm),.int .i64 l[i].bd.nu,.slice qn l[i].bd.ns.length dn,.slice qk l[i].bd.ks.length dk]∧l[i].nm.length≤281474976710656 ∧
 w.cell? ⟨b,o+i * 6,none⟩=some (.string (S l[i].nm))∧w.cell? ⟨b,o+i * 6+1,none⟩=some (.int .i64 l[i].bd.kd)∧w.cell? ⟨b,o+i * 6+2,none⟩=some (.string (S l[i].bd.nm))∧w.cell? ⟨b,o+i * 6+3,none⟩=some (.int .i64 l[i].bd.nu)∧w.cell? ⟨b,o+i * 6+4,none⟩=some (.slice qn l[i].bd.ns.length dn)∧w.cell? ⟨b,o+i * 6+5,none⟩=some (.slice qk l[i].bd.ks.length dk):=by
 rcases hE with h | ⟨b,o,hp,hb,hm⟩
 ·rw [h] at hi;simp at hi
 ·obtain ⟨ds,h1,h2,h3⟩:=hm i l[i] (by simp)
  obtain ⟨ds',rfl,hl,h4⟩:=h3
  obtain ⟨qn,dn,qk,dk,rfl,_⟩:=(TrIn_iff _ _ _ _).1 h4
  exact ⟨b,o,qn,dn,qk,dk,hp,hb,h4,hl,h2 0 _ rfl,h2 1 _ rfl,h2 2 _ rfl,h2 3 _ rfl,h2 4 _ rfl,h2 5 _ rfl⟩
theorem same_sig (a:Sg):∀ (b:Sg) {P:Nat→Prop} {w:World} {pk qk:Option Addr} {ck dk:Nat},(∀ b,P b→b<w.heap.size)→SgIn P w a [.string (S a.nm),.slice pk a.ar.length ck]→SgIn P w b [.string (S b.nm),.slice qk b.ar.length dk] →
 Calls Tryz.prog 153 #[.agg #[.string (S a.nm),.slice pk a.ar.length ck],.agg #[.string (S b.nm),.slice qk b.ar.length dk]] w (Tells (a=b) w):=by
 induction a using Sg.ind with
 | _ a ih=>
  intro b P w pk qk ck dk hP hA hB
  obtain ⟨hEA,hka⟩:GM P w pk a.ar∧a.ar.length≤9223372036854775807:=by
   obtain ⟨pk',ck',h1,_,h3,h4⟩:=(SgIn_iff _ _ _ _).1 hA
   simp at h1
   obtain ⟨rfl,rfl⟩:=h1
   exact ⟨h4,Nat.le_trans h3.1 h3.2.1⟩
  obtain ⟨hEB,hkb⟩:GM P w qk b.ar∧b.ar.length≤9223372036854775807:=by
   obtain ⟨pk',ck',h1,_,h3,h4⟩:=(SgIn_iff _ _ _ _).1 hB
   simp at h1
   obtain ⟨rfl,rfl⟩:=h1
   exact ⟨h4,Nat.le_trans h3.1 h3.2.1⟩
  have hB0:Below w.heap.size w ((w.alloc (.cells #[.string (S a.nm),.slice pk a.ar.length ck] 175)).alloc (.cells #[.string (S b.nm),.slice qk b.ar.length dk] 175)):=((Below.refl _ w).alloc (Nat.le_refl _) _).alloc (by simp) _
  obtain ⟨h1,s1⟩:=alloc_step2 (W:=w) rfl #[.string (S a.nm),.slice pk a.ar.length ck] 175
  obtain ⟨h2,s2⟩:=alloc_step2 s1 #[.string (S b.nm),.slice qk b.ar.length dk] 175
  have h1:=h1.alloc (.cells #[.string (S b.nm),.slice qk b.ar.length dk] 175)
  have HIH:=zz ih
  have HEA:=zz hEA
  have HEB:=zz hEB
  have HB0:=zz hB0
  have HH1:=zz h1
  have HH2:=zz h2
  have HS2:=zz s2
  clear ih hA hB hEA hEB hB0 h1 h2 s1 s2
  obtain ⟨pp,hpp⟩:∃ pp:Prop,pp ↔ (a=b):=⟨_,Iff.rfl⟩
  have HPP:=zz hpp
  have hgoal:∀ r w',Tells pp w r w'→Tells (a=b) w r w':=fun r w' h=>⟨fun e=>h.1 (HPP.out.2 e),fun e=>h.2.1 (fun q=>e (HPP.out.1 q)),h.2.2⟩
  refine Calls.mono ?_ hgoal
  clear hgoal hpp
  obtain ⟨na,ksa⟩:=a
  obtain ⟨nb,ksb⟩:=b
  simp only at *
  have hsa:(S na).toList=na:=S_list na
  have hsb:(S nb).toList=nb:=S_list nb
  generalize hma:ksa.length=ma at *
  generalize hmb:ksb.length=mb at *
  generalize hxa:S na=xa at *
  generalize hxb:S nb=xb at *
  have HMA:=zz hma
  have HMB:=zz hmb
  clear hma hmb hxa hxb
  by_cases hk:¬ na=nb
  ·have HF:Hid (¬ (Sg.mk na ksa=Sg.mk nb ksb)):=fun e=>hk (Sg.mk.inj e).1
   have hk2:(xa.toList == xb.toList)=false:=by rw [hsa,hsb];simpa using hk
   clear hsa hsb
   go_enter Tryz.func153,Tryz.ntmps153
   go_wp2_with fail
   go_ret
   exact ⟨fun h=>absurd (HPP.out.1 h) HF.out,fun _=>rfl,HB0.out⟩
  obtain rfl:na=nb:=by simpa using hk
  have hk2:(xa.toList == xb.toList)=true:=by rw [hsa,hsb];simp
  clear hsa hsb
  by_cases hk:¬ ma=mb
  ·have HF:Hid (¬ (Sg.mk na ksa=Sg.mk na ksb)):=fun e=>hk (by rw [← HMA.out,← HMB.out,(Sg.mk.inj e).2])
   have hk3:¬ (ma:Int)=mb:=by omega
   have hk4:((ma:Int) == mb)=false:=by simpa using hk3
   go_enter Tryz.func153,Tryz.ntmps153
   go_wp2_with fail
   go_ret
   exact ⟨fun h=>absurd (HPP.out.1 h) HF.out,fun _=>rfl,HB0.out⟩
  obtain rfl:ma=mb:=by simpa using hk
  obtain ⟨w1,hw1⟩:∃ w1,w1=((w.alloc (.cells #[.string xa,.slice pk ma ck] 175)).alloc (.cells #[.string xb,.slice qk ma dk] 175)):=⟨_,rfl⟩
  rw [← hw1] at HB0 HH1 HH2 HS2
  have HB1:=HB0
  have HG1:=HH1
  have HG2:=HH2
  have HSZ:Hid (w.heap.size+1+1≤w1.heap.size):=Nat.le_of_eq HS2.out.symm
  go_enter Tryz.func153,Tryz.ntmps153
  go_wp2_with fail
  rw [← hw1]
  clear hw1
  go_loopg [5] ma (fun k s5 wr=>∃ i:Nat,i≤ma∧k=ma - i∧s5=.int .i64 i∧Below w.heap.size w wr∧Below (w.heap.size+1+1) w1 wr∧ksa.take i=ksb.take i)
  case atStart=>exact ⟨0,Nat.zero_le _,by omega,rfl,HB1.out,Below.refl _ _,rfl⟩
  case round=>
   obtain ⟨i,hi1,rfl,rfl,hbr,hb2,htk⟩:=hrel
   have HBR:=zz hbr
   have HB2:=zz hb2
   have g1:=HG1.out.below hb2 (by omega)
   have g2:=HG2.out.below hb2 (by omega)
   have c4:=g1.cell 1
   have d4:=g2.cell 1
   simp only [lGA,lGS,lGZ,Nat.zero_add] at c4 d4
   by_cases hlt:i<ma
   ·have hil:i<ksa.length:=by rw [HMA.out];exact hlt
    have him:i<ksb.length:=by rw [HMB.out];exact hlt
    obtain ⟨b1,o1,qk1,dk1,hp1,hPb1,hIn1,a0,a1⟩:=gm_at HEA.out hil
    obtain ⟨b2,o2,qk2,dk2,hp2,hPb2,hIn2,e0,e1⟩:=gm_at HEB.out him
    have hc1:∀ x,wr.cell? ⟨b1,x,none⟩=w.cell? ⟨b1,x,none⟩:=fun x=>hbr.cell (p:=⟨b1,x,none⟩) (hP b1 hPb1)
    have hc2:∀ x,wr.cell? ⟨b2,x,none⟩=w.cell? ⟨b2,x,none⟩:=fun x=>hbr.cell (p:=⟨b2,x,none⟩) (hP b2 hPb2)
    rw [← hc1] at a0 a1
    rw [← hc2] at e0 e1
    have hcall:=fun W (hb:Below w.heap.size w W)=>HIH.out ksa[i] (by simp) ksb[i] (w:=W) (fun b hb'=>Nat.lt_of_lt_of_le (hP b hb') hb.size) (SgIn.keep (KP.of_below hb hP) (fun b hb=>hb) _ _ hIn1) (SgIn.keep (KP.of_below hb hP) (fun b hb=>hb) _ _ hIn2)
    have ht1:ksa.take (i+1)=ksa.take i ++ [ksa[i]]:=List.take_succ_eq_append_getElem hil
    have ht2:ksb.take (i+1)=ksb.take i ++ [ksb[i]]:=List.take_succ_eq_append_getElem him
    have hneq:¬ ksa[i]=ksb[i]→¬ ksa=ksb:=fun h e=>by subst e;exact h rfl
    have hii:(i:Int)<ma:=by omega
    subst hp1 hp2
    generalize ksa[i]=x at *
    generalize ksb[i]=y at *
    have HT1:=zz ht1
    have HT2:=zz ht2
    have HTK:=zz htk
    have HNE:=zz hneq
    have HC:=zz hcall
    have hbd:Below w.heap.size w wr.drew:=⟨hbr.os,hbr.tape,hbr.output,hbr.size,hbr.block⟩
    have hb2d:Below (w.heap.size+1+1) w1 wr.drew:=⟨hb2.os,hb2.tape,hb2.output,hb2.size,hb2.block⟩
    have HBD:=zz hbd
    have HB2D:=zz hb2d
    have hszr:w.heap.size+1+1≤wr.heap.size:=Nat.le_trans HSZ.out hb2.size
    have HSZR:Hid (w.heap.size+1+1≤wr.drew.heap.size):=hszr
    obtain ⟨SS,hSS⟩:∃ SS:World→Prop,SS=fun w'=>w'.cell? ⟨w.heap.size,1,none⟩=some (.slice (some ⟨b1,o1,none⟩) ma ck)∧w'.cell? ⟨w.heap.size+1,1,none⟩=some (.slice (some ⟨b2,o2,none⟩) ma dk)∧w'.cell? ⟨b1,o1+i * 2,none⟩=some (.string (S x.nm))∧w'.cell? ⟨b1,o1+i * 2+1,none⟩=some (.slice qk1 x.ar.length dk1)∧w'.cell? ⟨b2,o2+i * 2,none⟩=some (.string (S y.nm))∧w'.cell? ⟨b2,o2+i * 2+1,none⟩=some (.slice qk2 y.ar.length dk2):=⟨_,rfl⟩
    have hS0:SS wr.drew:=by rw [hSS];exact ⟨c4,d4,a0,a1,e0,e1⟩
    have hkeep:∀ W2,Below wr.drew.heap.size wr.drew W2→SS W2:=fun W2 hb=>by
     have hk1:∀ n x,n<wr.drew.heap.size→W2.cell? ⟨n,x,none⟩=wr.drew.cell? ⟨n,x,none⟩:=fun n x hn=>hb.cell (p:=⟨n,x,none⟩) hn
     have z1:b1<wr.drew.heap.size:=Nat.lt_of_lt_of_le (hP b1 hPb1) hbd.size
     have z2:b2<wr.drew.heap.size:=Nat.lt_of_lt_of_le (hP b2 hPb2) hbd.size
     have z3:w.heap.size<wr.drew.heap.size:=by have:=HSZR.out;omega
     have z4:w.heap.size+1<wr.drew.heap.size:=by have:=HSZR.out;omega
     rw [hSS] at hS0 ⊢
     simp only [hk1 _ _ z1,hk1 _ _ z2,hk1 _ _ z3,hk1 _ _ z4]
     exact hS0
    have HS:=zz hkeep
    rw [hSS] at HS hS0
    obtain ⟨c4,d4,a0,a1,e0,e1⟩:=hS0
    clear hcall hc1 hc2 hbr hb2 hIn1 hIn2 ht1 ht2 htk hneq g1 g2 hkeep hSS hbd hb2d hszr
    by_cases hxy:x=y
    ·have HCT:=zz fun W hb=>(HC.out W hb).mono fun r w' (h:Tells (x=y) W r w')=>(⟨h.1 hxy,h.2.2⟩:r=.returned (.bool true)∧Below W.heap.size W w')
     have HXY:=zz hxy
     clear hxy HC
     go_wp2_with fail
     go_region_held3 (fun w'=>w'.cell? ⟨w.heap.size,1,none⟩=some (.slice (some ⟨b1,o1,none⟩) ma ck)∧w'.cell? ⟨w.heap.size+1,1,none⟩=some (.slice (some ⟨b2,o2,none⟩) ma dk)∧w'.cell? ⟨b1,o1+i * 2,none⟩=some (.string (S x.nm))∧w'.cell? ⟨b1,o1+i * 2+1,none⟩=some (.slice qk1 x.ar.length dk1)∧w'.cell? ⟨b2,o2+i * 2,none⟩=some (.string (S y.nm))∧w'.cell? ⟨b2,o2+i * 2+1,none⟩=some (.slice qk2 y.ar.length dk2)) (first | go_keep | (exact HS.out _ HB5.out)) (first | (go_at_call 153;refine (HCT.out _ HBD.out).mono ?_;rintro r w5 ⟨rfl,hb5⟩;have HB5:=zz hb5;clear hb5))
     go_wp2_with fail
     go_roundg (ma - (i+1))
     case measure=>omega
     case rel=>exact ⟨i+1,by omega,rfl,by go_num,HBD.out.trans (HB5.out.mono HBD.out.size),HB2D.out.trans (HB5.out.mono HSZR.out),by rw [HT1.out,HT2.out,HTK.out,HXY.out]⟩
    ·have HCT:=zz fun W hb=>(HC.out W hb).mono fun r w' (h:Tells (x=y) W r w')=>(⟨h.2.1 hxy,h.2.2⟩:r=.returned (.bool false)∧Below W.heap.size W w')
     have HF:Hid (¬ (Sg.mk na ksa=Sg.mk na ksb)):=fun e=>HNE.out hxy (Sg.mk.inj e).2
     clear hxy HC
     go_wp2_with fail
     go_region_held3 (fun w'=>w'.cell? ⟨w.heap.size,1,none⟩=some (.slice (some ⟨b1,o1,none⟩) ma ck)∧w'.cell? ⟨w.heap.size+1,1,none⟩=some (.slice (some ⟨b2,o2,none⟩) ma dk)∧w'.cell? ⟨b1,o1+i * 2,none⟩=some (.string (S x.nm))∧w'.cell? ⟨b1,o1+i * 2+1,none⟩=some (.slice qk1 x.ar.length dk1)∧w'.cell? ⟨b2,o2+i * 2,none⟩=some (.string (S y.nm))∧w'.cell? ⟨b2,o2+i * 2+1,none⟩=some (.slice qk2 y.ar.length dk2)) (first | go_keep | (exact HS.out _ HB5.out)) (first | (go_at_call 153;refine (HCT.out _ HBD.out).mono ?_;rintro r w5 ⟨rfl,hb5⟩;have HB5:=zz hb5;clear hb5))
     go_wp2_with fail
     go_ret
     exact ⟨fun h=>absurd (HPP.out.1 h) HF.out,fun _=>rfl,HBD.out.trans (HB5.out.mono HBD.out.size)⟩
   ·have HF:Hid (Sg.mk na ksa=Sg.mk na ksb):=by
     rw [List.take_of_length_le (by rw [HMA.out];omega),List.take_of_length_le (by rw [HMB.out];omega)] at htk
     rw [htk]
     rfl
    have hii:¬ (i:Int)<ma:=by omega
    clear hbr htk hb2 g1 g2
    go_wp2_with fail
    go_ret
    exact ⟨fun _=>rfl,fun h=>absurd (HPP.out.2 HF.out) h,HBR.out⟩
theorem same_form {a b:Fm} {P:Nat→Prop} {w:World} {pk qk:Option Addr} {ck dk:Nat} (hP:∀ b,P b→b<w.heap.size) (hA:FmIn P w a [.string (S a.nm),.slice pk a.ar.length ck]) (hB:FmIn P w b [.string (S b.nm),.slice qk b.ar.length dk]) :
 Calls Tryz.prog 83 #[.agg #[.string (S a.nm),.slice pk a.ar.length ck],.agg #[.string (S b.nm),.slice qk b.ar.length dk]] w (Tells (a=b) w):=by
 obtain ⟨pk',ck',e1,_,sa,ga⟩:=hA
 obtain ⟨qk',dk',e2,_,sb,gb⟩:=hB
 simp at e1 e2
 obtain ⟨rfl,rfl⟩:=e1
 obtain ⟨rfl,rfl⟩:=e2
 have hSa:SgIn P w ⟨[],a.ar⟩ [.string (S []),.slice pk a.ar.length ck]:=(SgIn_iff _ _ _ _).2 ⟨pk,ck,rfl,by simp,sa,ga⟩
 have hSb:SgIn P w ⟨[],b.ar⟩ [.string (S []),.slice qk b.ar.length dk]:=(SgIn_iff _ _ _ _).2 ⟨qk,dk,rfl,by simp,sb,gb⟩
 have HC:=zz fun W (hb:Below w.heap.size w W)=>same_sig ⟨[],a.ar⟩ ⟨[],b.ar⟩ (w:=W) (fun b hb'=>Nat.lt_of_lt_of_le (hP b hb') hb.size) (SgIn.keep (KP.of_below hb hP) (fun b hb=>hb) _ _ hSa) (SgIn.keep (KP.of_below hb hP) (fun b hb=>hb) _ _ hSb)
 have hB0:Below w.heap.size w ((w.alloc (.cells #[.string (S a.nm),.slice pk a.ar.length ck] 121)).alloc (.cells #[.string (S b.nm),.slice qk b.ar.length dk] 121)):=((Below.refl _ w).alloc (Nat.le_refl _) _).alloc (by simp) _
 obtain ⟨h1,s1⟩:=alloc_step2 (W:=w) rfl #[.string (S a.nm),.slice pk a.ar.length ck] 121
 obtain ⟨h2,s2⟩:=alloc_step2 s1 #[.string (S b.nm),.slice qk b.ar.length dk] 121
 have h1:=h1.alloc (.cells #[.string (S b.nm),.slice qk b.ar.length dk] 121)
 have HB0:=zz hB0
 obtain ⟨pp,hpp⟩:∃ pp:Prop,pp ↔ (a=b):=⟨_,Iff.rfl⟩
 have HPP:=zz hpp
 have hgoal:∀ r w',Tells pp w r w'→Tells (a=b) w r w':=fun r w' h=>⟨fun e=>h.1 (HPP.out.2 e),fun e=>h.2.1 (fun q=>e (HPP.out.1 q)),h.2.2⟩
 refine Calls.mono ?_ hgoal
 clear hgoal hpp
 clear sa sb ga gb hSa hSb h1 h2 s1 s2 hB0
 obtain ⟨na,ksa⟩:=a
 obtain ⟨nb,ksb⟩:=b
 simp only at *
 have hsa:(S na).toList=na:=S_list na
 have hsb:(S nb).toList=nb:=S_list nb
 generalize ksa.length=ma at *
 generalize ksb.length=mb at *
 generalize S na=xa at *
 generalize S nb=xb at *
 by_cases hk:¬ na=nb
 ·have HF:Hid (¬ (Fm.mk na ksa=Fm.mk nb ksb)):=fun e=>hk (Fm.mk.inj e).1
  have hk2:(xa.toList == xb.toList)=false:=by rw [hsa,hsb];simpa using hk
  clear hsa hsb
  go_enter Tryz.func83,Tryz.ntmps83
  go_wp2_with fail
  go_ret
  exact ⟨fun h=>absurd (HPP.out.1 h) HF.out,fun _=>rfl,HB0.out⟩
 obtain rfl:na=nb:=by simpa using hk
 have hk2:(xa.toList == xb.toList)=true:=by rw [hsa,hsb];simp
 clear hsa hsb
 by_cases hxy:ksa=ksb
 ·have HCT:=zz fun W hb=>(HC.out W hb).mono fun r w' (h:Tells ((⟨[],ksa⟩:Sg)=⟨[],ksb⟩) W r w')=>(⟨h.1 (by rw [hxy]),h.2.2⟩:r=.returned (.bool true)∧Below W.heap.size W w')
  have HF:Hid (Fm.mk na ksa=Fm.mk na ksb):=by rw [hxy];rfl
  clear hxy HC
  go_enter Tryz.func83,Tryz.ntmps83
  go_wp2_with fail
  refine (HCT.out _ HB0.out).mono ?_
  rintro r w1 ⟨rfl,hb1⟩
  have HB1:=zz (HB0.out.trans (hb1.mono HB0.out.size))
  clear hb1
  go_wp2_with fail
  go_ret
  exact ⟨fun _=>rfl,fun h=>absurd (HPP.out.2 HF.out) h,HB1.out⟩
 ·have HCT:=zz fun W hb=>(HC.out W hb).mono fun r w' (h:Tells ((⟨[],ksa⟩:Sg)=⟨[],ksb⟩) W r w')=>(⟨h.2.1 (fun e=>hxy (Sg.mk.inj e).2),h.2.2⟩:r=.returned (.bool false)∧Below W.heap.size W w')
  have HF:Hid (¬ (Fm.mk na ksa=Fm.mk na ksb)):=fun e=>hxy (Fm.mk.inj e).2
  clear hxy HC
  go_enter Tryz.func83,Tryz.ntmps83
  go_wp2_with fail
  refine (HCT.out _ HB0.out).mono ?_
  rintro r w1 ⟨rfl,hb1⟩
  have HB1:=zz (HB0.out.trans (hb1.mono HB0.out.size))
  clear hb1
  go_wp2_with fail
  go_ret
  exact ⟨fun h=>absurd (HPP.out.1 h) HF.out,fun _=>rfl,HB1.out⟩
theorem same_data {a b:Dt} {P:Nat→Prop} {w:World} {pn pk qn qk:Option Addr} {cn ck dn dk:Nat} (hP:∀ b,P b→b<w.heap.size) (hA:DtIn P w a [.string (S a.nm),.slice pn a.ps.length cn,.slice pk a.fs.length ck]) (hB:DtIn P w b [.string (S b.nm),.slice qn b.ps.length dn,.slice qk b.fs.length dk]) :
 Calls Tryz.prog 38 #[.agg #[.string (S a.nm),.slice pn a.ps.length cn,.slice pk a.fs.length ck],.agg #[.string (S b.nm),.slice qn b.ps.length dn,.slice qk b.fs.length dk]] w (Tells (a=b) w):=by
 obtain ⟨pn',cn',pk',ck',e1,_,sa,ta,hSA,hEA⟩:=hA
 obtain ⟨qn',dn',qk',dk',e2,_,sb,tb,hSB,hEB⟩:=hB
 simp at e1 e2
 obtain ⟨⟨rfl,rfl⟩,rfl,rfl⟩:=e1
 obtain ⟨⟨rfl,rfl⟩,rfl,rfl⟩:=e2
 have hna:=Nat.le_trans sa.1 sa.2.1
 have hka:=Nat.le_trans ta.1 ta.2.1
 have HTX:=zz fun W (hb:Below w.heap.size w W)=>texts_any (w:=W) (P:=P) (p:=pn) (q:=qn) (c:=cn) (d:=dn) hna (fun b hb'=>Nat.lt_of_lt_of_le (hP b hb') hb.size) (hSA.keep (KP.of_below hb hP)) (hSB.keep (KP.of_below hb hP))
 have hB0:Below w.heap.size w ((w.alloc (.cells #[.string (S a.nm),.slice pn a.ps.length cn,.slice pk a.fs.length ck] 77)).alloc (.cells #[.string (S b.nm),.slice qn b.ps.length dn,.slice qk b.fs.length dk] 77)):=((Below.refl _ w).alloc (Nat.le_refl _) _).alloc (by simp) _
 obtain ⟨h1,s1⟩:=alloc_step2 (W:=w) rfl #[.string (S a.nm),.slice pn a.ps.length cn,.slice pk a.fs.length ck] 77
 obtain ⟨h2,s2⟩:=alloc_step2 s1 #[.string (S b.nm),.slice qn b.ps.length dn,.slice qk b.fs.length dk] 77
 have h1:=h1.alloc (.cells #[.string (S b.nm),.slice qn b.ps.length dn,.slice qk b.fs.length dk] 77)
 have HEA:=zz hEA
 have HEB:=zz hEB
 have HB0:=zz hB0
 have HH1:=zz h1
 have HH2:=zz h2
 have HS2:=zz s2
 obtain ⟨pp,hpp⟩:∃ pp:Prop,pp ↔ (a=b):=⟨_,Iff.rfl⟩
 have HPP:=zz hpp
 have hgoal:∀ r w',Tells pp w r w'→Tells (a=b) w r w':=fun r w' h=>⟨fun e=>h.1 (HPP.out.2 e),fun e=>h.2.1 (fun q=>e (HPP.out.1 q)),h.2.2⟩
 refine Calls.mono ?_ hgoal
 clear hgoal hpp
 clear sa sb ta tb hSA hSB hEA hEB h1 h2 s1 s2 hB0 hna
 obtain ⟨na,nsa,ksa⟩:=a
 obtain ⟨nb,nsb,ksb⟩:=b
 simp only at *
 have hsa:(S na).toList=na:=S_list na
 have hsb:(S nb).toList=nb:=S_list nb
 generalize hla:nsa.length=la at *
 generalize hlb:nsb.length=lb at *
 generalize hma:ksa.length=ma at *
 generalize hmb:ksb.length=mb at *
 generalize hxa:S na=xa at *
 generalize hxb:S nb=xb at *
 have HMA:=zz hma
 have HMB:=zz hmb
 clear hla hlb hma hmb hxa hxb
 by_cases hk:¬ na=nb
 ·have HF:Hid (¬ (Dt.mk na nsa ksa=Dt.mk nb nsb ksb)):=fun e=>hk (Dt.mk.inj e).1
  have hk2:(xa.toList == xb.toList)=false:=by rw [hsa,hsb];simpa using hk
  clear hsa hsb
  go_enter Tryz.func38,Tryz.ntmps38
  go_wp2_with fail
  go_ret
  exact ⟨fun h=>absurd (HPP.out.1 h) HF.out,fun _=>rfl,HB0.out⟩
 obtain rfl:na=nb:=by simpa using hk
 have hk2:(xa.toList == xb.toList)=true:=by rw [hsa,hsb];simp
 clear hsa hsb
 by_cases hk:¬ nsa=nsb
 ·have HF:Hid (¬ (Dt.mk na nsa ksa=Dt.mk na nsb ksb)):=fun e=>hk (Dt.mk.inj e).2.1
  rw [decide_eq_false hk] at HTX
  go_enter Tryz.func38,Tryz.ntmps38
  go_wp2_with fail
  refine (HTX.out _ HB0.out).mono ?_
  rintro r w1 ⟨rfl,hb1⟩
  have HB1:=zz (HB0.out.trans (hb1.mono HB0.out.size))
  clear hb1
  go_wp2_with fail
  go_ret
  exact ⟨fun h=>absurd (HPP.out.1 h) HF.out,fun _=>rfl,HB1.out⟩
 obtain rfl:nsa=nsb:=by simpa using hk
 rw [decide_eq_true rfl] at HTX
 by_cases hk:¬ ma=mb
 ·have HF:Hid (¬ (Dt.mk na nsa ksa=Dt.mk na nsa ksb)):=fun e=>hk (by rw [← HMA.out,← HMB.out,(Dt.mk.inj e).2.2])
  have hk3:¬ (ma:Int)=mb:=by omega
  have hk4:((ma:Int) == mb)=false:=by simpa using hk3
  go_enter Tryz.func38,Tryz.ntmps38
  go_wp2_with fail
  refine (HTX.out _ HB0.out).mono ?_
  rintro r w1 ⟨rfl,hb1⟩
  have g1:=HH1.out.below hb1 HH1.out.lt
  have g2:=HH2.out.below hb1 HH2.out.lt
  have c2:=g1.cell 2
  have d2:=g2.cell 2
  simp only [lGA,lGS,lGZ,Nat.zero_add] at c2 d2
  have HB1:=zz (HB0.out.trans (hb1.mono HB0.out.size))
  clear hb1 g1 g2
  go_wp2_with fail
  go_ret
  exact ⟨fun h=>absurd (HPP.out.1 h) HF.out,fun _=>rfl,HB1.out⟩
 obtain rfl:ma=mb:=by simpa using hk
 go_enter Tryz.func38,Tryz.ntmps38
 go_wp2_with fail
 refine (HTX.out _ HB0.out).mono ?_
 rintro r w1 ⟨rfl,hb1⟩
 have HB1:=zz (HB0.out.trans (hb1.mono HB0.out.size))
 have HG1:=zz (HH1.out.below hb1 HH1.out.lt)
 have HG2:=zz (HH2.out.below hb1 HH2.out.lt)
 have c2:=HG1.out.cell 2
 have d2:=HG2.out.cell 2
 simp only [lGA,lGS,lGZ,Nat.zero_add] at c2 d2
 have HSZ:=zz (show w.heap.size+1+1≤w1.heap.size from by have:=hb1.size;rw [HS2.out] at this;exact this)
 clear hb1
 go_wp2_with fail
 go_loopg [5] ma (fun k s5 wr=>∃ i:Nat,i≤ma∧k=ma - i∧s5=.int .i64 i∧Below w.heap.size w wr∧Below (w.heap.size+1+1) w1 wr∧ksa.take i=ksb.take i)
 case atStart=>exact ⟨0,Nat.zero_le _,by omega,rfl,HB1.out,Below.refl _ _,rfl⟩
 case round=>
  clear c2 d2
  obtain ⟨i,hi1,rfl,rfl,hbr,hb2,htk⟩:=hrel
  have HBR:=zz hbr
  have HB2:=zz hb2
  have g1:=HG1.out.below hb2 (by omega)
  have g2:=HG2.out.below hb2 (by omega)
  have c4:=g1.cell 2
  have d4:=g2.cell 2
  simp only [lGA,lGS,lGZ,Nat.zero_add] at c4 d4
  by_cases hlt:i<ma
  ·have hil:i<ksa.length:=by rw [HMA.out];exact hlt
   have him:i<ksb.length:=by rw [HMB.out];exact hlt
   obtain ⟨b1,o1,qk1,dk1,hp1,hPb1,hIn1,a0,a1⟩:=fm_at HEA.out hil
   obtain ⟨b2,o2,qk2,dk2,hp2,hPb2,hIn2,e0,e1⟩:=fm_at HEB.out him
   have hc1:∀ x,wr.cell? ⟨b1,x,none⟩=w.cell? ⟨b1,x,none⟩:=fun x=>hbr.cell (p:=⟨b1,x,none⟩) (hP b1 hPb1)
   have hc2:∀ x,wr.cell? ⟨b2,x,none⟩=w.cell? ⟨b2,x,none⟩:=fun x=>hbr.cell (p:=⟨b2,x,none⟩) (hP b2 hPb2)
   rw [← hc1] at a0 a1
   rw [← hc2] at e0 e1
   have hcall:=fun W (hb:Below w.heap.size w W)=>same_form (a:=ksa[i]) (b:=ksb[i]) (w:=W) (fun b hb'=>Nat.lt_of_lt_of_le (hP b hb') hb.size) (FmIn.keep (KP.of_below hb hP) (fun b hb=>hb) _ _ hIn1) (FmIn.keep (KP.of_below hb hP) (fun b hb=>hb) _ _ hIn2)
   have ht1:ksa.take (i+1)=ksa.take i ++ [ksa[i]]:=List.take_succ_eq_append_getElem hil
   have ht2:ksb.take (i+1)=ksb.take i ++ [ksb[i]]:=List.take_succ_eq_append_getElem him
   have hneq:¬ ksa[i]=ksb[i]→¬ ksa=ksb:=fun h e=>by subst e;exact h rfl
   have hii:(i:Int)<ma:=by omega
   subst hp1 hp2
   generalize ksa[i]=x at *
   generalize ksb[i]=y at *
   have HT1:=zz ht1
   have HT2:=zz ht2
   have HTK:=zz htk
   have HNE:=zz hneq
   have HC:=zz hcall
   have hbd:Below w.heap.size w wr.drew:=⟨hbr.os,hbr.tape,hbr.output,hbr.size,hbr.block⟩
   have hb2d:Below (w.heap.size+1+1) w1 wr.drew:=⟨hb2.os,hb2.tape,hb2.output,hb2.size,hb2.block⟩
   have HBD:=zz hbd
   have HB2D:=zz hb2d
   have hszr:w.heap.size+1+1≤wr.heap.size:=Nat.le_trans HSZ.out hb2.size
   have HSZR:Hid (w.heap.size+1+1≤wr.drew.heap.size):=hszr
   obtain ⟨SS,hSS⟩:∃ SS:World→Prop,SS=fun w'=>w'.cell? ⟨w.heap.size,2,none⟩=some (.slice (some ⟨b1,o1,none⟩) ma ck)∧w'.cell? ⟨w.heap.size+1,2,none⟩=some (.slice (some ⟨b2,o2,none⟩) ma dk)∧w'.cell? ⟨b1,o1+i * 2,none⟩=some (.string (S x.nm))∧w'.cell? ⟨b1,o1+i * 2+1,none⟩=some (.slice qk1 x.ar.length dk1)∧w'.cell? ⟨b2,o2+i * 2,none⟩=some (.string (S y.nm))∧w'.cell? ⟨b2,o2+i * 2+1,none⟩=some (.slice qk2 y.ar.length dk2):=⟨_,rfl⟩
   have hS0:SS wr.drew:=by rw [hSS];exact ⟨c4,d4,a0,a1,e0,e1⟩
   have hkeep:∀ W2,Below wr.drew.heap.size wr.drew W2→SS W2:=fun W2 hb=>by
    have hk1:∀ n x,n<wr.drew.heap.size→W2.cell? ⟨n,x,none⟩=wr.drew.cell? ⟨n,x,none⟩:=fun n x hn=>hb.cell (p:=⟨n,x,none⟩) hn
    have z1:b1<wr.drew.heap.size:=Nat.lt_of_lt_of_le (hP b1 hPb1) hbd.size
    have z2:b2<wr.drew.heap.size:=Nat.lt_of_lt_of_le (hP b2 hPb2) hbd.size
    have z3:w.heap.size<wr.drew.heap.size:=by have:=HSZR.out;omega
    have z4:w.heap.size+1<wr.drew.heap.size:=by have:=HSZR.out;omega
    rw [hSS] at hS0 ⊢
    simp only [hk1 _ _ z1,hk1 _ _ z2,hk1 _ _ z3,hk1 _ _ z4]
    exact hS0
   have HS:=zz hkeep
   rw [hSS] at HS hS0
   obtain ⟨c4,d4,a0,a1,e0,e1⟩:=hS0
   clear hcall hc1 hc2 hbr hb2 hIn1 hIn2 ht1 ht2 htk hneq g1 g2 hkeep hSS hbd hb2d hszr
   by_cases hxy:x=y
   ·have HCT:=zz fun W hb=>(HC.out W hb).mono fun r w' (h:Tells (x=y) W r w')=>(⟨h.1 hxy,h.2.2⟩:r=.returned (.bool true)∧Below W.heap.size W w')
    have HXY:=zz hxy
    clear hxy HC
    go_wp2_with fail
    go_region_held3 (fun w'=>w'.cell? ⟨w.heap.size,2,none⟩=some (.slice (some ⟨b1,o1,none⟩) ma ck)∧w'.cell? ⟨w.heap.size+1,2,none⟩=some (.slice (some ⟨b2,o2,none⟩) ma dk)∧w'.cell? ⟨b1,o1+i * 2,none⟩=some (.string (S x.nm))∧w'.cell? ⟨b1,o1+i * 2+1,none⟩=some (.slice qk1 x.ar.length dk1)∧w'.cell? ⟨b2,o2+i * 2,none⟩=some (.string (S y.nm))∧w'.cell? ⟨b2,o2+i * 2+1,none⟩=some (.slice qk2 y.ar.length dk2)) (first | go_keep | (exact HS.out _ HB5.out)) (first | (go_at_call 83;refine (HCT.out _ HBD.out).mono ?_;rintro r w5 ⟨rfl,hb5⟩;have HB5:=zz hb5;clear hb5))
    go_wp2_with fail
    go_roundg (ma - (i+1))
    case measure=>omega
    case rel=>exact ⟨i+1,by omega,rfl,by go_num,HBD.out.trans (HB5.out.mono HBD.out.size),HB2D.out.trans (HB5.out.mono HSZR.out),by rw [HT1.out,HT2.out,HTK.out,HXY.out]⟩
   ·have HCT:=zz fun W hb=>(HC.out W hb).mono fun r w' (h:Tells (x=y) W r w')=>(⟨h.2.1 hxy,h.2.2⟩:r=.returned (.bool false)∧Below W.heap.size W w')
    have HF:Hid (¬ (Dt.mk na nsa ksa=Dt.mk na nsa ksb)):=fun e=>HNE.out hxy (Dt.mk.inj e).2.2
    clear hxy HC
    go_wp2_with fail
    go_region_held3 (fun w'=>w'.cell? ⟨w.heap.size,2,none⟩=some (.slice (some ⟨b1,o1,none⟩) ma ck)∧w'.cell? ⟨w.heap.size+1,2,none⟩=some (.slice (some ⟨b2,o2,none⟩) ma dk)∧w'.cell? ⟨b1,o1+i * 2,none⟩=some (.string (S x.nm))∧w'.cell? ⟨b1,o1+i * 2+1,none⟩=some (.slice qk1 x.ar.length dk1)∧w'.cell? ⟨b2,o2+i * 2,none⟩=some (.string (S y.nm))∧w'.cell? ⟨b2,o2+i * 2+1,none⟩=some (.slice qk2 y.ar.length dk2)) (first | go_keep | (exact HS.out _ HB5.out)) (first | (go_at_call 83;refine (HCT.out _ HBD.out).mono ?_;rintro r w5 ⟨rfl,hb5⟩;have HB5:=zz hb5;clear hb5))
    go_wp2_with fail
    go_ret
    exact ⟨fun h=>absurd (HPP.out.1 h) HF.out,fun _=>rfl,HBD.out.trans (HB5.out.mono HBD.out.size)⟩
  ·have HF:Hid (Dt.mk na nsa ksa=Dt.mk na nsa ksb):=by
    rw [List.take_of_length_le (by rw [HMA.out];omega),List.take_of_length_le (by rw [HMB.out];omega)] at htk
    rw [htk]
    rfl
   have hii:¬ (i:Int)<ma:=by omega
   clear hbr htk hb2 g1 g2
   go_wp2_with fail
   go_ret
   exact ⟨fun _=>rfl,fun h=>absurd (HPP.out.2 HF.out) h,HBR.out⟩
theorem same_prog {a b:Pg} {P:Nat→Prop} {w:World} {pd pf qd qf:Option Addr} {cd cf dd df:Nat} (hP:∀ b,P b→b<w.heap.size) (hA:PgIn P w a [.slice pd a.ds.length cd,.slice pf a.fs.length cf]) (hB:PgIn P w b [.slice qd b.ds.length dd,.slice qf b.fs.length df]) :
 Calls Tryz.prog 16 #[.agg #[.slice pd a.ds.length cd,.slice pf a.fs.length cf],.agg #[.slice qd b.ds.length dd,.slice qf b.fs.length df]] w (Tells (a=b) w):=by
 obtain ⟨pn',cn',pk',ck',e1,sa,ta,hDA,hFA⟩:=hA
 obtain ⟨qn',dn',qk',dk',e2,sb,tb,hDB,hFB⟩:=hB
 simp at e1 e2
 obtain ⟨⟨rfl,rfl⟩,rfl,rfl⟩:=e1
 obtain ⟨⟨rfl,rfl⟩,rfl,rfl⟩:=e2
 have hna:=Nat.le_trans sa.1 sa.2.1
 have hka:=Nat.le_trans ta.1 ta.2.1
 have hB0:Below w.heap.size w ((w.alloc (.cells #[.slice pd a.ds.length cd,.slice pf a.fs.length cf] 38)).alloc (.cells #[.slice qd b.ds.length dd,.slice qf b.fs.length df] 38)):=((Below.refl _ w).alloc (Nat.le_refl _) _).alloc (by simp) _
 obtain ⟨h1,s1⟩:=alloc_step2 (W:=w) rfl #[.slice pd a.ds.length cd,.slice pf a.fs.length cf] 38
 obtain ⟨h2,s2⟩:=alloc_step2 s1 #[.slice qd b.ds.length dd,.slice qf b.fs.length df] 38
 have h1:=h1.alloc (.cells #[.slice qd b.ds.length dd,.slice qf b.fs.length df] 38)
 have HEA:=zz hDA
 have HEB:=zz hDB
 have HEC:=zz hFA
 have HED:=zz hFB
 have HB0:=zz hB0
 have HH1:=zz h1
 have HH2:=zz h2
 have HS2:=zz s2
 obtain ⟨pp,hpp⟩:∃ pp:Prop,pp ↔ (a=b):=⟨_,Iff.rfl⟩
 have HPP:=zz hpp
 have hgoal:∀ r w',Tells pp w r w'→Tells (a=b) w r w':=fun r w' h=>⟨fun e=>h.1 (HPP.out.2 e),fun e=>h.2.1 (fun q=>e (HPP.out.1 q)),h.2.2⟩
 refine Calls.mono ?_ hgoal
 clear hgoal hpp
 clear sa sb ta tb hDA hDB hFA hFB h1 h2 s1 s2 hB0
 obtain ⟨dsa,fsa⟩:=a
 obtain ⟨dsb,fsb⟩:=b
 simp only at *
 generalize hma:dsa.length=ma at *
 generalize hmb:dsb.length=mb at *
 generalize hnf:fsa.length=nf at *
 generalize hng:fsb.length=ng at *
 have HMA:=zz hma
 have HMB:=zz hmb
 have HMC:=zz hnf
 have HMD:=zz hng
 clear hma hmb hnf hng
 by_cases hk:¬ ma=mb
 ·have HF:Hid (¬ (Pg.mk dsa fsa=Pg.mk dsb fsb)):=fun e=>hk (by rw [← HMA.out,← HMB.out,(Pg.mk.inj e).1])
  have hk3:¬ (ma:Int)=mb:=by omega
  have hk4:((ma:Int) == mb)=false:=by simpa using hk3
  go_enter Tryz.func16,Tryz.ntmps16
  go_wp2_with fail
  go_ret
  exact ⟨fun h=>absurd (HPP.out.1 h) HF.out,fun _=>rfl,HB0.out⟩
 obtain rfl:ma=mb:=by simpa using hk
 by_cases hk:¬ nf=ng
 ·have HF:Hid (¬ (Pg.mk dsa fsa=Pg.mk dsb fsb)):=fun e=>hk (by rw [← HMC.out,← HMD.out,(Pg.mk.inj e).2])
  have hk3:¬ (nf:Int)=ng:=by omega
  have hk4:((nf:Int) == ng)=false:=by simpa using hk3
  go_enter Tryz.func16,Tryz.ntmps16
  go_wp2_with fail
  go_ret
  exact ⟨fun h=>absurd (HPP.out.1 h) HF.out,fun _=>rfl,HB0.out⟩
 obtain rfl:nf=ng:=by simpa using hk
 obtain ⟨w1,hw1⟩:∃ w1,w1=((w.alloc (.cells #[.slice pd ma cd,.slice pf nf cf] 38)).alloc (.cells #[.slice qd ma dd,.slice qf nf df] 38)):=⟨_,rfl⟩
 rw [← hw1] at HB0 HH1 HH2 HS2
 have HB1:=HB0
 have HG1:=HH1
 have HG2:=HH2
 have HSZ:Hid (w.heap.size+1+1≤w1.heap.size):=Nat.le_of_eq HS2.out.symm
 go_enter Tryz.func16,Tryz.ntmps16
 go_wp2_with fail
 rw [← hw1]
 clear hw1
 go_loopg [5] ma (fun k s5 wr=>∃ i:Nat,i≤ma∧k=ma - i∧s5=.int .i64 i∧Below w.heap.size w wr∧Below (w.heap.size+1+1) w1 wr∧dsa.take i=dsb.take i)
 case atStart=>exact ⟨0,Nat.zero_le _,by omega,rfl,HB1.out,Below.refl _ _,rfl⟩
 case round=>
  obtain ⟨i,hi1,rfl,rfl,hbr,hb2,htk⟩:=hrel
  have HBR:=zz hbr
  have HB2:=zz hb2
  have g1:=HG1.out.below hb2 (by omega)
  have g2:=HG2.out.below hb2 (by omega)
  have c4:=g1.cell 0
  have d4:=g2.cell 0
  simp only [lGA,lGS,lGZ,Nat.zero_add] at c4 d4
  by_cases hlt:i<ma
  ·have hil:i<dsa.length:=by rw [HMA.out];exact hlt
   have him:i<dsb.length:=by rw [HMB.out];exact hlt
   obtain ⟨b1,o1,qk1,dk1,ql1,dl1,hp1,hPb1,hIn1,a0,a1,a2⟩:=dt_at HEA.out hil
   obtain ⟨b2,o2,qk2,dk2,ql2,dl2,hp2,hPb2,hIn2,e0,e1,e2⟩:=dt_at HEB.out him
   have hc1:∀ x,wr.cell? ⟨b1,x,none⟩=w.cell? ⟨b1,x,none⟩:=fun x=>hbr.cell (p:=⟨b1,x,none⟩) (hP b1 hPb1)
   have hc2:∀ x,wr.cell? ⟨b2,x,none⟩=w.cell? ⟨b2,x,none⟩:=fun x=>hbr.cell (p:=⟨b2,x,none⟩) (hP b2 hPb2)
   rw [← hc1] at a0 a1 a2
   rw [← hc2] at e0 e1 e2
   have hcall:=fun W (hb:Below w.heap.size w W)=>same_data (a:=dsa[i]) (b:=dsb[i]) (w:=W) (fun b hb'=>Nat.lt_of_lt_of_le (hP b hb') hb.size) (DtIn.keep (KP.of_below hb hP) (fun b hb=>hb) _ _ hIn1) (DtIn.keep (KP.of_below hb hP) (fun b hb=>hb) _ _ hIn2)
   have ht1:dsa.take (i+1)=dsa.take i ++ [dsa[i]]:=List.take_succ_eq_append_getElem hil
   have ht2:dsb.take (i+1)=dsb.take i ++ [dsb[i]]:=List.take_succ_eq_append_getElem him
   have hneq:¬ dsa[i]=dsb[i]→¬ dsa=dsb:=fun h e=>by subst e;exact h rfl
   have hii:(i:Int)<ma:=by omega
   subst hp1 hp2
   generalize dsa[i]=x at *
   generalize dsb[i]=y at *
   have HT1:=zz ht1
   have HT2:=zz ht2
   have HTK:=zz htk
   have HNE:=zz hneq
   have HC:=zz hcall
   have hbd:Below w.heap.size w wr.drew:=⟨hbr.os,hbr.tape,hbr.output,hbr.size,hbr.block⟩
   have hb2d:Below (w.heap.size+1+1) w1 wr.drew:=⟨hb2.os,hb2.tape,hb2.output,hb2.size,hb2.block⟩
   have HBD:=zz hbd
   have HB2D:=zz hb2d
   have hszr:w.heap.size+1+1≤wr.heap.size:=Nat.le_trans HSZ.out hb2.size
   have HSZR:Hid (w.heap.size+1+1≤wr.drew.heap.size):=hszr
   obtain ⟨SS,hSS⟩:∃ SS:World→Prop,SS=fun w'=>w'.cell? ⟨w.heap.size,0,none⟩=some (.slice (some ⟨b1,o1,none⟩) ma cd)∧w'.cell? ⟨w.heap.size+1,0,none⟩=some (.slice (some ⟨b2,o2,none⟩) ma dd)∧w'.cell? ⟨b1,o1+i * 3,none⟩=some (.string (S x.nm))∧w'.cell? ⟨b1,o1+i * 3+1,none⟩=some (.slice qk1 x.ps.length dk1)∧w'.cell? ⟨b1,o1+i * 3+2,none⟩=some (.slice ql1 x.fs.length dl1)∧w'.cell? ⟨b2,o2+i * 3,none⟩=some (.string (S y.nm))∧w'.cell? ⟨b2,o2+i * 3+1,none⟩=some (.slice qk2 y.ps.length dk2)∧w'.cell? ⟨b2,o2+i * 3+2,none⟩=some (.slice ql2 y.fs.length dl2):=⟨_,rfl⟩
   have hS0:SS wr.drew:=by rw [hSS];exact ⟨c4,d4,a0,a1,a2,e0,e1,e2⟩
   have hkeep:∀ W2,Below wr.drew.heap.size wr.drew W2→SS W2:=fun W2 hb=>by
    have hk1:∀ n x,n<wr.drew.heap.size→W2.cell? ⟨n,x,none⟩=wr.drew.cell? ⟨n,x,none⟩:=fun n x hn=>hb.cell (p:=⟨n,x,none⟩) hn
    have z1:b1<wr.drew.heap.size:=Nat.lt_of_lt_of_le (hP b1 hPb1) hbd.size
    have z2:b2<wr.drew.heap.size:=Nat.lt_of_lt_of_le (hP b2 hPb2) hbd.size
    have z3:w.heap.size<wr.drew.heap.size:=by have:=HSZR.out;omega
    have z4:w.heap.size+1<wr.drew.heap.size:=by have:=HSZR.out;omega
    rw [hSS] at hS0 ⊢
    simp only [hk1 _ _ z1,hk1 _ _ z2,hk1 _ _ z3,hk1 _ _ z4]
    exact hS0
   have HS:=zz hkeep
   rw [hSS] at HS hS0
   obtain ⟨c4,d4,a0,a1,a2,e0,e1,e2⟩:=hS0
   clear hcall hc1 hc2 hbr hb2 hIn1 hIn2 ht1 ht2 htk hneq g1 g2 hkeep hSS hbd hb2d hszr
   by_cases hxy:x=y
   ·have HCT:=zz fun W hb=>(HC.out W hb).mono fun r w' (h:Tells (x=y) W r w')=>(⟨h.1 hxy,h.2.2⟩:r=.returned (.bool true)∧Below W.heap.size W w')
    have HXY:=zz hxy
    clear hxy HC
    go_wp2_with fail
    go_region_held3 (fun w'=>w'.cell? ⟨w.heap.size,0,none⟩=some (.slice (some ⟨b1,o1,none⟩) ma cd)∧w'.cell? ⟨w.heap.size+1,0,none⟩=some (.slice (some ⟨b2,o2,none⟩) ma dd)∧w'.cell? ⟨b1,o1+i * 3,none⟩=some (.string (S x.nm))∧w'.cell? ⟨b1,o1+i * 3+1,none⟩=some (.slice qk1 x.ps.length dk1)∧w'.cell? ⟨b1,o1+i * 3+2,none⟩=some (.slice ql1 x.fs.length dl1)∧w'.cell? ⟨b2,o2+i * 3,none⟩=some (.string (S y.nm))∧w'.cell? ⟨b2,o2+i * 3+1,none⟩=some (.slice qk2 y.ps.length dk2)∧w'.cell? ⟨b2,o2+i * 3+2,none⟩=some (.slice ql2 y.fs.length dl2)) (first | go_keep | (exact HS.out _ HB5.out)) (first | (go_at_call 38;refine (HCT.out _ HBD.out).mono ?_;rintro r w5 ⟨rfl,hb5⟩;have HB5:=zz hb5;clear hb5))
    go_wp2_with fail
    go_roundg (ma - (i+1))
    case measure=>omega
    case rel=>exact ⟨i+1,by omega,rfl,by go_num,HBD.out.trans (HB5.out.mono HBD.out.size),HB2D.out.trans (HB5.out.mono HSZR.out),by rw [HT1.out,HT2.out,HTK.out,HXY.out]⟩
   ·have HCT:=zz fun W hb=>(HC.out W hb).mono fun r w' (h:Tells (x=y) W r w')=>(⟨h.2.1 hxy,h.2.2⟩:r=.returned (.bool false)∧Below W.heap.size W w')
    have HF:Hid (¬ (Pg.mk dsa fsa=Pg.mk dsb fsb)):=fun e=>HNE.out hxy (Pg.mk.inj e).1
    clear hxy HC
    go_wp2_with fail
    go_region_held3 (fun w'=>w'.cell? ⟨w.heap.size,0,none⟩=some (.slice (some ⟨b1,o1,none⟩) ma cd)∧w'.cell? ⟨w.heap.size+1,0,none⟩=some (.slice (some ⟨b2,o2,none⟩) ma dd)∧w'.cell? ⟨b1,o1+i * 3,none⟩=some (.string (S x.nm))∧w'.cell? ⟨b1,o1+i * 3+1,none⟩=some (.slice qk1 x.ps.length dk1)∧w'.cell? ⟨b1,o1+i * 3+2,none⟩=some (.slice ql1 x.fs.length dl1)∧w'.cell? ⟨b2,o2+i * 3,none⟩=some (.string (S y.nm))∧w'.cell? ⟨b2,o2+i * 3+1,none⟩=some (.slice qk2 y.ps.length dk2)∧w'.cell? ⟨b2,o2+i * 3+2,none⟩=some (.slice ql2 y.fs.length dl2)) (first | go_keep | (exact HS.out _ HB5.out)) (first | (go_at_call 38;refine (HCT.out _ HBD.out).mono ?_;rintro r w5 ⟨rfl,hb5⟩;have HB5:=zz hb5;clear hb5))
    go_wp2_with fail
    go_ret
    exact ⟨fun h=>absurd (HPP.out.1 h) HF.out,fun _=>rfl,HBD.out.trans (HB5.out.mono HBD.out.size)⟩
  ·have HDD:Hid (dsa=dsb):=by
    rw [List.take_of_length_le (by rw [HMA.out];omega),List.take_of_length_le (by rw [HMB.out];omega)] at htk
    exact htk
   have hii:¬ (i:Int)<ma:=by omega
   have c1:=g1.cell 1
   have d1:=g2.cell 1
   simp only [lGA,lGS,lGZ,Nat.zero_add] at c1 d1
   clear hbr htk hb2 g1 g2
   have HMA:=HMC
   have HMB:=HMD
   have HEA:=HEC
   have HEB:=HED
   go_wp2_with fail
   go_loopg [7] nf (fun k s7 wx=>∃ i:Nat,i≤nf∧k=nf - i∧s7=.int .i64 i∧Below w.heap.size w wx∧Below (w.heap.size+1+1) w1 wx∧fsa.take i=fsb.take i)
   case atStart=>exact ⟨0,Nat.zero_le _,by omega,rfl,HBR.out,HB2.out,rfl⟩
   case round=>
    clear c4 d4 c1 d1
    obtain ⟨i,hi1,rfl,rfl,hbr,hb2,htk⟩:=hrel
    have HBR:=zz hbr
    have HB2:=zz hb2
    have g1:=HG1.out.below hb2 (by omega)
    have g2:=HG2.out.below hb2 (by omega)
    have c4:=g1.cell 1
    have d4:=g2.cell 1
    simp only [lGA,lGS,lGZ,Nat.zero_add] at c4 d4
    by_cases hlt:i<nf
    ·have hil:i<fsa.length:=by rw [HMA.out];exact hlt
     have him:i<fsb.length:=by rw [HMB.out];exact hlt
     obtain ⟨b1,o1,qn1,dn1,qk1,dk1,hp1,hPb1,hIn1,-,a0,a1,a2,a3,a4,a5⟩:=df_at HEA.out hil
     obtain ⟨b2,o2,qn2,dn2,qk2,dk2,hp2,hPb2,hIn2,-,e0,e1,e2,e3,e4,e5⟩:=df_at HEB.out him
     have hc1:∀ x,wr.cell? ⟨b1,x,none⟩=w.cell? ⟨b1,x,none⟩:=fun x=>hbr.cell (p:=⟨b1,x,none⟩) (hP b1 hPb1)
     have hc2:∀ x,wr.cell? ⟨b2,x,none⟩=w.cell? ⟨b2,x,none⟩:=fun x=>hbr.cell (p:=⟨b2,x,none⟩) (hP b2 hPb2)
     rw [← hc1] at a0 a1 a2 a3 a4 a5
     rw [← hc2] at e0 e1 e2 e3 e4 e5
     have hcall:=fun W (hb:Below w.heap.size w W)=>same_tree fsa[i].bd fsb[i].bd (w:=W) (fun b hb'=>Nat.lt_of_lt_of_le (hP b hb') hb.size) (TrIn.keep (KP.of_below hb hP) (fun b hb=>hb) _ _ hIn1) (TrIn.keep (KP.of_below hb hP) (fun b hb=>hb) _ _ hIn2)
     have ht1:fsa.take (i+1)=fsa.take i ++ [fsa[i]]:=List.take_succ_eq_append_getElem hil
     have ht2:fsb.take (i+1)=fsb.take i ++ [fsb[i]]:=List.take_succ_eq_append_getElem him
     have hneq:¬ fsa[i]=fsb[i]→¬ fsa=fsb:=fun h e=>by subst e;exact h rfl
     have hii:(i:Int)<nf:=by omega
     subst hp1 hp2
     generalize fsa[i]=x at *
     generalize fsb[i]=y at *
     have HT1:=zz ht1
     have HT2:=zz ht2
     have HTK:=zz htk
     have HNE:=zz hneq
     have HC:=zz hcall
     have hbd:Below w.heap.size w wr.drew:=⟨hbr.os,hbr.tape,hbr.output,hbr.size,hbr.block⟩
     have hb2d:Below (w.heap.size+1+1) w1 wr.drew:=⟨hb2.os,hb2.tape,hb2.output,hb2.size,hb2.block⟩
     have HBD:=zz hbd
     have HB2D:=zz hb2d
     have hszr:w.heap.size+1+1≤wr.heap.size:=Nat.le_trans HSZ.out hb2.size
     have HSZR:Hid (w.heap.size+1+1≤wr.drew.heap.size):=hszr
     obtain ⟨SS,hSS⟩:∃ SS:World→Prop,SS=fun w'=>w'.cell? ⟨w.heap.size,1,none⟩=some (.slice (some ⟨b1,o1,none⟩) nf cf)∧w'.cell? ⟨w.heap.size+1,1,none⟩=some (.slice (some ⟨b2,o2,none⟩) nf df)∧w'.cell? ⟨b1,o1+i * 6,none⟩=some (.string (S x.nm))∧w'.cell? ⟨b1,o1+i * 6+1,none⟩=some (.int .i64 x.bd.kd)∧w'.cell? ⟨b1,o1+i * 6+2,none⟩=some (.string (S x.bd.nm))∧w'.cell? ⟨b1,o1+i * 6+3,none⟩=some (.int .i64 x.bd.nu)∧w'.cell? ⟨b1,o1+i * 6+4,none⟩=some (.slice qn1 x.bd.ns.length dn1)∧w'.cell? ⟨b1,o1+i * 6+5,none⟩=some (.slice qk1 x.bd.ks.length dk1)∧w'.cell? ⟨b2,o2+i * 6,none⟩=some (.string (S y.nm))∧w'.cell? ⟨b2,o2+i * 6+1,none⟩=some (.int .i64 y.bd.kd)∧w'.cell? ⟨b2,o2+i * 6+2,none⟩=some (.string (S y.bd.nm))∧w'.cell? ⟨b2,o2+i * 6+3,none⟩=some (.int .i64 y.bd.nu)∧w'.cell? ⟨b2,o2+i * 6+4,none⟩=some (.slice qn2 y.bd.ns.length dn2)∧w'.cell? ⟨b2,o2+i * 6+5,none⟩=some (.slice qk2 y.bd.ks.length dk2):=⟨_,rfl⟩
     have hS0:SS wr.drew:=by rw [hSS];exact ⟨c4,d4,a0,a1,a2,a3,a4,a5,e0,e1,e2,e3,e4,e5⟩
     have hkeep:∀ W2,Below wr.drew.heap.size wr.drew W2→SS W2:=fun W2 hb=>by
      have hk1:∀ n x,n<wr.drew.heap.size→W2.cell? ⟨n,x,none⟩=wr.drew.cell? ⟨n,x,none⟩:=fun n x hn=>hb.cell (p:=⟨n,x,none⟩) hn
      have z1:b1<wr.drew.heap.size:=Nat.lt_of_lt_of_le (hP b1 hPb1) hbd.size
      have z2:b2<wr.drew.heap.size:=Nat.lt_of_lt_of_le (hP b2 hPb2) hbd.size
      have z3:w.heap.size<wr.drew.heap.size:=by have:=HSZR.out;omega
      have z4:w.heap.size+1<wr.drew.heap.size:=by have:=HSZR.out;omega
      rw [hSS] at hS0 ⊢
      simp only [hk1 _ _ z1,hk1 _ _ z2,hk1 _ _ z3,hk1 _ _ z4]
      exact hS0
     have HS:=zz hkeep
     rw [hSS] at HS hS0
     obtain ⟨c4,d4,a0,a1,a2,a3,a4,a5,e0,e1,e2,e3,e4,e5⟩:=hS0
     clear hcall hc1 hc2 hbr hb2 hIn1 hIn2 ht1 ht2 htk hneq g1 g2 hkeep hSS hbd hb2d hszr
     by_cases hxy:x.bd=y.bd
     ·have HCT:=zz fun W hb=>(HC.out W hb).mono fun r w' (h:Tells (x.bd=y.bd) W r w')=>(⟨h.1 hxy,h.2.2⟩:r=.returned (.bool true)∧Below W.heap.size W w')
      have hs1:(S x.nm).toList=x.nm:=S_list _
      have hs2:(S y.nm).toList=y.nm:=S_list _
      have HXY:=zz hxy
      clear hxy HC
      by_cases hnm:x.nm=y.nm
      ·have hqq:((S x.nm).toList == (S y.nm).toList)=true:=by rw [hs1,hs2,hnm];simp
       have HXX:Hid (x=y):=by
        show x=y
        obtain ⟨xn,xb⟩:=x
        obtain ⟨yn,yb⟩:=y
        have h1:=HXY.out
        simp only at h1 hnm
        rw [h1,hnm]
       clear hs1 hs2 hnm
       go_wp2_with fail
       go_region_held3 (fun w'=>w'.cell? ⟨w.heap.size,1,none⟩=some (.slice (some ⟨b1,o1,none⟩) nf cf)∧w'.cell? ⟨w.heap.size+1,1,none⟩=some (.slice (some ⟨b2,o2,none⟩) nf df)∧w'.cell? ⟨b1,o1+i * 6,none⟩=some (.string (S x.nm))∧w'.cell? ⟨b1,o1+i * 6+1,none⟩=some (.int .i64 x.bd.kd)∧w'.cell? ⟨b1,o1+i * 6+2,none⟩=some (.string (S x.bd.nm))∧w'.cell? ⟨b1,o1+i * 6+3,none⟩=some (.int .i64 x.bd.nu)∧w'.cell? ⟨b1,o1+i * 6+4,none⟩=some (.slice qn1 x.bd.ns.length dn1)∧w'.cell? ⟨b1,o1+i * 6+5,none⟩=some (.slice qk1 x.bd.ks.length dk1)∧w'.cell? ⟨b2,o2+i * 6,none⟩=some (.string (S y.nm))∧w'.cell? ⟨b2,o2+i * 6+1,none⟩=some (.int .i64 y.bd.kd)∧w'.cell? ⟨b2,o2+i * 6+2,none⟩=some (.string (S y.bd.nm))∧w'.cell? ⟨b2,o2+i * 6+3,none⟩=some (.int .i64 y.bd.nu)∧w'.cell? ⟨b2,o2+i * 6+4,none⟩=some (.slice qn2 y.bd.ns.length dn2)∧w'.cell? ⟨b2,o2+i * 6+5,none⟩=some (.slice qk2 y.bd.ks.length dk2)) (first | go_keep | (exact HS.out _ HB5.out)) (first | (go_at_call 13;refine (HCT.out _ HBD.out).mono ?_;rintro r w5 ⟨rfl,hb5⟩;have HB5:=zz hb5;clear hb5))
       obtain ⟨c4,d4,a0,a1,a2,a3,a4,a5,e0,e1,e2,e3,e4,e5⟩:=HS.out _ HB5.out
       have HB6:=zz (HBD.out.trans (HB5.out.mono HBD.out.size))
       have HB7:=zz (HB2D.out.trans (HB5.out.mono HSZR.out))
       go_wp2_with fail
       go_quiet (fail)
       go_wp2_with fail
       go_roundg (nf - (i+1))
       case measure=>omega
       case rel=>exact ⟨i+1,by omega,rfl,by go_num,⟨HB6.out.os,HB6.out.tape,HB6.out.output,HB6.out.size,HB6.out.block⟩,⟨HB7.out.os,HB7.out.tape,HB7.out.output,HB7.out.size,HB7.out.block⟩,by rw [HT1.out,HT2.out,HTK.out,HXX.out]⟩
      ·have hqq:((S x.nm).toList == (S y.nm).toList)=false:=by rw [hs1,hs2];simpa using hnm
       have HF:Hid (¬ (Pg.mk dsa fsa=Pg.mk dsb fsb)):=fun e=>HNE.out (fun q=>hnm (by rw [q])) (Pg.mk.inj e).2
       clear hs1 hs2 hnm
       go_wp2_with fail
       go_region_held3 (fun w'=>w'.cell? ⟨w.heap.size,1,none⟩=some (.slice (some ⟨b1,o1,none⟩) nf cf)∧w'.cell? ⟨w.heap.size+1,1,none⟩=some (.slice (some ⟨b2,o2,none⟩) nf df)∧w'.cell? ⟨b1,o1+i * 6,none⟩=some (.string (S x.nm))∧w'.cell? ⟨b1,o1+i * 6+1,none⟩=some (.int .i64 x.bd.kd)∧w'.cell? ⟨b1,o1+i * 6+2,none⟩=some (.string (S x.bd.nm))∧w'.cell? ⟨b1,o1+i * 6+3,none⟩=some (.int .i64 x.bd.nu)∧w'.cell? ⟨b1,o1+i * 6+4,none⟩=some (.slice qn1 x.bd.ns.length dn1)∧w'.cell? ⟨b1,o1+i * 6+5,none⟩=some (.slice qk1 x.bd.ks.length dk1)∧w'.cell? ⟨b2,o2+i * 6,none⟩=some (.string (S y.nm))∧w'.cell? ⟨b2,o2+i * 6+1,none⟩=some (.int .i64 y.bd.kd)∧w'.cell? ⟨b2,o2+i * 6+2,none⟩=some (.string (S y.bd.nm))∧w'.cell? ⟨b2,o2+i * 6+3,none⟩=some (.int .i64 y.bd.nu)∧w'.cell? ⟨b2,o2+i * 6+4,none⟩=some (.slice qn2 y.bd.ns.length dn2)∧w'.cell? ⟨b2,o2+i * 6+5,none⟩=some (.slice qk2 y.bd.ks.length dk2)) (first | go_keep | (exact HS.out _ HB5.out)) (first | (go_at_call 13;refine (HCT.out _ HBD.out).mono ?_;rintro r w5 ⟨rfl,hb5⟩;have HB5:=zz hb5;clear hb5))
       obtain ⟨c4,d4,a0,a1,a2,a3,a4,a5,e0,e1,e2,e3,e4,e5⟩:=HS.out _ HB5.out
       have HB6:=zz (HBD.out.trans (HB5.out.mono HBD.out.size))
       go_wp2_with fail
       go_quiet (fail)
       go_wp2_with fail
       go_ret
       exact ⟨fun h=>absurd (HPP.out.1 h) HF.out,fun _=>rfl,⟨HB6.out.os,HB6.out.tape,HB6.out.output,HB6.out.size,HB6.out.block⟩⟩
     ·have HCT:=zz fun W hb=>(HC.out W hb).mono fun r w' (h:Tells (x.bd=y.bd) W r w')=>(⟨h.2.1 hxy,h.2.2⟩:r=.returned (.bool false)∧Below W.heap.size W w')
      have HF:Hid (¬ (Pg.mk dsa fsa=Pg.mk dsb fsb)):=fun e=>HNE.out (fun q=>hxy (by rw [q])) (Pg.mk.inj e).2
      clear hxy HC
      go_wp2_with fail
      go_region_held3 (fun w'=>w'.cell? ⟨w.heap.size,1,none⟩=some (.slice (some ⟨b1,o1,none⟩) nf cf)∧w'.cell? ⟨w.heap.size+1,1,none⟩=some (.slice (some ⟨b2,o2,none⟩) nf df)∧w'.cell? ⟨b1,o1+i * 6,none⟩=some (.string (S x.nm))∧w'.cell? ⟨b1,o1+i * 6+1,none⟩=some (.int .i64 x.bd.kd)∧w'.cell? ⟨b1,o1+i * 6+2,none⟩=some (.string (S x.bd.nm))∧w'.cell? ⟨b1,o1+i * 6+3,none⟩=some (.int .i64 x.bd.nu)∧w'.cell? ⟨b1,o1+i * 6+4,none⟩=some (.slice qn1 x.bd.ns.length dn1)∧w'.cell? ⟨b1,o1+i * 6+5,none⟩=some (.slice qk1 x.bd.ks.length dk1)∧w'.cell? ⟨b2,o2+i * 6,none⟩=some (.string (S y.nm))∧w'.cell? ⟨b2,o2+i * 6+1,none⟩=some (.int .i64 y.bd.kd)∧w'.cell? ⟨b2,o2+i * 6+2,none⟩=some (.string (S y.bd.nm))∧w'.cell? ⟨b2,o2+i * 6+3,none⟩=some (.int .i64 y.bd.nu)∧w'.cell? ⟨b2,o2+i * 6+4,none⟩=some (.slice qn2 y.bd.ns.length dn2)∧w'.cell? ⟨b2,o2+i * 6+5,none⟩=some (.slice qk2 y.bd.ks.length dk2)) (first | go_keep | (exact HS.out _ HB5.out)) (first | (go_at_call 13;refine (HCT.out _ HBD.out).mono ?_;rintro r w5 ⟨rfl,hb5⟩;have HB5:=zz hb5;clear hb5))
      have HB6:=zz (HBD.out.trans (HB5.out.mono HBD.out.size))
      go_wp2_with fail
      go_quiet (fail)
      go_wp2_with fail
      go_ret
      exact ⟨fun h=>absurd (HPP.out.1 h) HF.out,fun _=>rfl,⟨HB6.out.os,HB6.out.tape,HB6.out.output,HB6.out.size,HB6.out.block⟩⟩
    ·have HF:Hid (Pg.mk dsa fsa=Pg.mk dsb fsb):=by
      rw [List.take_of_length_le (by rw [HMA.out];omega),List.take_of_length_le (by rw [HMB.out];omega)] at htk
      rw [htk,HDD.out]
      rfl
     have hii:¬ (i:Int)<nf:=by omega
     clear hbr htk hb2 g1 g2
     go_wp2_with fail
     go_ret
     exact ⟨fun _=>rfl,fun h=>absurd (HPP.out.2 HF.out) h,HBR.out⟩
end Go.Proofs.YtcnnlecjdkfdjaaGreatDoor
