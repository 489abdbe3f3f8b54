/- Parts of the proof. -/
import Derived.Test.YtcnnlecjdkfdjaaGreatDoorEmOf
set_option linter.unusedVariables false
set_option linter.unusedSimpArgs false
set_option maxRecDepth 100000
set_option maxHeartbeats 8000000
namespace Go.Proofs.YtcnnlecjdkfdjaaGreatDoor
open Go.RowKit
theorem texts_any {P:Nat→Prop} {p q:Option Addr} {c d:Nat} {l m:List (List UInt8)} {w:World} (hn:l.length≤9223372036854775807) (hP:∀ b,P b→b<w.heap.size) (hL:SM P w p l) (hM:SM P w q m) :
 Calls Tryz.prog 33 #[.slice p l.length c,.slice q m.length d] w fun r w'=>r=.returned (.bool (decide (l=m)))∧Below w.heap.size w w':=by
 generalize hll:l.length=nl at *
 generalize hml:m.length=ml at *
 have HLL:=zz hll
 have HML:=zz hml
 have HL:=zz hL
 have HM:=zz hM
 clear hL hM hll hml
 by_cases hne:¬ nl=ml
 ·have HF:Hid (decide (l=m)=false):=by
   show _=_
   rw [decide_eq_false_iff_not]
   rintro rfl
   exact hne (HLL.out.symm.trans HML.out)
  have h1:¬ (nl:Int)=ml:=by omega
  have h2:((nl:Int) == ml)=false:=by simpa using h1
  go_enter Tryz.func33,Tryz.ntmps33
  go_wp2_with fail
  go_ret
  exact ⟨by rw [HF.out];rfl,Below.refl _ _⟩
 ·obtain rfl:nl=ml:=by omega
  go_enter Tryz.func33,Tryz.ntmps33
  go_wp2_with fail
  go_loopg [5] nl (fun k s5 wr=>∃ i:Nat,i≤nl∧k=nl - i∧s5=.int .i64 i∧Below w.heap.size w wr∧l.take i=m.take i)
  case atStart=>exact ⟨0,Nat.zero_le _,by omega,rfl,Below.refl _ _,rfl⟩
  case round=>
   obtain ⟨i,hi1,rfl,rfl,hbr,htk⟩:=hrel
   have HBR:=zz hbr
   by_cases hlt:i<nl
   ·have hil:i<l.length:=by rw [HLL.out];exact hlt
    have him:i<m.length:=by rw [HML.out];exact hlt
    rcases HL.out with he | ⟨b,o,rfl,hPb,hma⟩
    ·rw [he] at hil;simp at hil
    rcases HM.out with he | ⟨b',o',rfl,hPb',hma'⟩
    ·rw [he] at him;simp at him
    have a1:wr.cell? ⟨b,o+i,none⟩=some (.string (S l[i])):=(hbr.cell (p:=⟨b,o+i,none⟩) (hP b hPb)).trans (hma i l[i] (by simp)).2
    have a2:wr.cell? ⟨b',o'+i,none⟩=some (.string (S m[i])):=(hbr.cell (p:=⟨b',o'+i,none⟩) (hP b' hPb')).trans (hma' i m[i] (by simp)).2
    have ht1:l.take (i+1)=l.take i ++ [l[i]]:=List.take_succ_eq_append_getElem hil
    have ht2:m.take (i+1)=m.take i ++ [m[i]]:=List.take_succ_eq_append_getElem him
    have hneq:¬ l[i]=m[i]→¬ l=m:=fun h e=>by subst e;exact h rfl
    have hs1:(S l[i]).toList=l[i]:=S_list _
    have hs2:(S m[i]).toList=m[i]:=S_list _
    have hii:(i:Int)<nl:=by omega
    generalize l[i]=x at *
    generalize m[i]=y at *
    have HT1:=zz ht1
    have HT2:=zz ht2
    have HTK:=zz htk
    have HNE:=zz hneq
    clear ht1 ht2 htk hneq hma hma' hbr
    by_cases hxy:x=y
    ·subst hxy
     have hqq:((S x).toList == (S x).toList)=true:=by simp
     clear hs1 hs2
     go_wp2_with fail
     go_quiet (fail)
     go_wp2_with fail
     go_roundg (nl - (i+1))
     case measure=>omega
     case rel=>exact ⟨i+1,by omega,rfl,by go_num,⟨HBR.out.os,HBR.out.tape,HBR.out.output,HBR.out.size,HBR.out.block⟩,by rw [HT1.out,HT2.out,HTK.out]⟩
    ·have hqq:((S x).toList == (S y).toList)=false:=by rw [hs1,hs2];simpa using hxy
     have HF:Hid (decide (l=m)=false):=by show _=_;rw [decide_eq_false_iff_not];exact HNE.out hxy
     clear hs1 hs2 hxy
     go_wp2_with fail
     go_quiet (fail)
     go_wp2_with fail
     go_ret
     exact ⟨by rw [HF.out];rfl,⟨HBR.out.os,HBR.out.tape,HBR.out.output,HBR.out.size,HBR.out.block⟩⟩
   ·have HF:Hid (decide (l=m)=true):=by
     show _=_
     rw [decide_eq_true_iff]
     rw [List.take_of_length_le (by rw [HLL.out];omega),List.take_of_length_le (by rw [HML.out];omega)] at htk
     exact htk
    have hii:¬ (i:Int)<nl:=by omega
    clear hbr htk
    go_wp2_with fail
    go_ret
    exact ⟨by rw [HF.out];rfl,HBR.out⟩
theorem alloc_step2 {W:World} {n:Nat} (hs:W.heap.size=n) (C:Array Value) (t:TypeId):Hold n C t (W.alloc (.cells C t))∧(W.alloc (.cells C t)).heap.size=n+1:=by
 subst hs
 exact ⟨Hold.new W C t,by simp⟩
def Tells (p:Prop) (w:World) (r:Ending) (w':World):Prop:=(p→r=.returned (.bool true))∧(¬ p→r=.returned (.bool false))∧Below w.heap.size w w'
theorem same_tree (a:Tr):∀ (b:Tr) {P:Nat→Prop} {w:World} {pn pk qn qk:Option Addr} {cn ck dn dk:Nat},(∀ b,P b→b<w.heap.size)→TrIn P w a [.int .i64 a.kd,.string (S a.nm),.int .i64 a.nu,.slice pn a.ns.length cn,.slice pk a.ks.length ck]→TrIn P w b [.int .i64 b.kd,.string (S b.nm),.int .i64 b.nu,.slice qn b.ns.length dn,.slice qk b.ks.length dk] →
 Calls Tryz.prog 13 #[.agg (cs5 a pn cn pk ck),.agg (cs5 b qn dn qk dk)] w (Tells (a=b) w):=by
 induction a using Tr.ind with
 | _ a ih=>
  intro b P w pn pk qn qk cn ck dn dk hP hA hB
  obtain ⟨hEA,hka,hSA,hna,_⟩:=em_of hA
  obtain ⟨hEB,hkb,hSB,hnb,_⟩:=em_of hB
  have hB0:Below w.heap.size w ((w.alloc (.cells (cs5 a pn cn pk ck) 27)).alloc (.cells (cs5 b qn dn qk dk) 27)):=((Below.refl _ w).alloc (Nat.le_refl _) _).alloc (by simp) _
  obtain ⟨h1,s1⟩:=alloc_step2 (W:=w) rfl (cs5 a pn cn pk ck) 27
  obtain ⟨h2,s2⟩:=alloc_step2 s1 (cs5 b qn dn qk dk) 27
  have h1:=h1.alloc (.cells (cs5 b qn dn qk dk) 27)
  have HTX:=zz fun W (hb:Below w.heap.size w W)=>texts_any (w:=W) (P:=P) (p:=pn) (q:=qn) (c:=cn) (d:=dn) hna (fun b hb'=>Nat.lt_of_lt_of_le (hP b hb') hb.size) (hSA.keep (KP.of_below hb hP)) (hSB.keep (KP.of_below hb hP))
  have HIH:=zz ih
  have HEA:=zz hEA
  have HEB:=zz hEB
  have HB0:=zz hB0
  have HH1:=zz h1
  have HH2:=zz h2
  have HS2:=zz s2
  clear ih hA hB hEA hEB hSA hSB hB0 h1 h2 s1 s2 hna hnb
  obtain ⟨pp,hpp⟩:∃ pp:Prop,pp ↔ (a=b):=⟨_,Iff.rfl⟩
  have HPP:=zz hpp
  have hgoal:∀ r w',Tells pp w r w'→Tells (a=b) w r w':=fun r w' h=>⟨fun e=>h.1 (HPP.out.2 e),fun e=>h.2.1 (fun q=>e (HPP.out.1 q)),h.2.2⟩
  refine Calls.mono ?_ hgoal
  clear hgoal hpp
  obtain ⟨ka,na,ua,nsa,ksa⟩:=a
  obtain ⟨kb,nb,ub,nsb,ksb⟩:=b
  unfold cs5 at *
  simp only at *
  have hsa:(S na).toList=na:=S_list na
  have hsb:(S nb).toList=nb:=S_list nb
  generalize hla:nsa.length=la at *
  generalize hlb:nsb.length=lb at *
  generalize hma:ksa.length=ma at *
  generalize hmb:ksb.length=mb at *
  generalize hxa:S na=xa at *
  generalize hxb:S nb=xb at *
  have HMA:=zz hma
  have HMB:=zz hmb
  clear hla hlb hma hmb hxa hxb
  by_cases hk:¬ ka=kb
  ·have HF:Hid (¬ (Tr.mk ka na ua nsa ksa=Tr.mk kb nb ub nsb ksb)):=fun e=>hk (Tr.mk.inj e).1
   have hk2:(ka == kb)=false:=by simpa using hk
   go_enter Tryz.func13,Tryz.ntmps13
   go_wp2_with fail
   go_ret
   exact ⟨fun h=>absurd (HPP.out.1 h) HF.out,fun _=>rfl,HB0.out⟩
  obtain rfl:ka=kb:=by simpa using hk
  by_cases hk:¬ na=nb
  ·have HF:Hid (¬ (Tr.mk ka na ua nsa ksa=Tr.mk ka nb ub nsb ksb)):=fun e=>hk (Tr.mk.inj e).2.1
   have hk2:(xa.toList == xb.toList)=false:=by rw [hsa,hsb];simpa using hk
   clear hsa hsb
   go_enter Tryz.func13,Tryz.ntmps13
   go_wp2_with fail
   go_ret
   exact ⟨fun h=>absurd (HPP.out.1 h) HF.out,fun _=>rfl,HB0.out⟩
  obtain rfl:na=nb:=by simpa using hk
  have hk2:(xa.toList == xb.toList)=true:=by rw [hsa,hsb];simp
  clear hsa hsb
  by_cases hk:¬ ua=ub
  ·have HF:Hid (¬ (Tr.mk ka na ua nsa ksa=Tr.mk ka na ub nsb ksb)):=fun e=>hk (Tr.mk.inj e).2.2.1
   have hk3:(ua == ub)=false:=by simpa using hk
   go_enter Tryz.func13,Tryz.ntmps13
   go_wp2_with fail
   go_ret
   exact ⟨fun h=>absurd (HPP.out.1 h) HF.out,fun _=>rfl,HB0.out⟩
  obtain rfl:ua=ub:=by simpa using hk
  by_cases hk:¬ ma=mb
  ·have HF:Hid (¬ (Tr.mk ka na ua nsa ksa=Tr.mk ka na ua nsb ksb)):=fun e=>hk (by rw [← HMA.out,← HMB.out,(Tr.mk.inj e).2.2.2.2])
   have hk3:¬ (ma:Int)=mb:=by omega
   have hk4:((ma:Int) == mb)=false:=by simpa using hk3
   go_enter Tryz.func13,Tryz.ntmps13
   go_wp2_with fail
   go_ret
   exact ⟨fun h=>absurd (HPP.out.1 h) HF.out,fun _=>rfl,HB0.out⟩
  obtain rfl:ma=mb:=by simpa using hk
  by_cases hk:¬ nsa=nsb
  ·have HF:Hid (¬ (Tr.mk ka na ua nsa ksa=Tr.mk ka na ua nsb ksb)):=fun e=>hk (Tr.mk.inj e).2.2.2.1
   rw [decide_eq_false hk] at HTX
   go_enter Tryz.func13,Tryz.ntmps13
   go_wp2_with fail
   refine (HTX.out _ HB0.out).mono ?_
   rintro r w1 ⟨rfl,hb1⟩
   have HB1:=zz (HB0.out.trans (hb1.mono HB0.out.size))
   clear hb1
   go_wp2_with fail
   go_ret
   exact ⟨fun h=>absurd (HPP.out.1 h) HF.out,fun _=>rfl,HB1.out⟩
  obtain rfl:nsa=nsb:=by simpa using hk
  rw [decide_eq_true rfl] at HTX
  go_enter Tryz.func13,Tryz.ntmps13
  go_wp2_with fail
  refine (HTX.out _ HB0.out).mono ?_
  rintro r w1 ⟨rfl,hb1⟩
  have HB1:=zz (HB0.out.trans (hb1.mono HB0.out.size))
  have HG1:=zz (HH1.out.below hb1 HH1.out.lt)
  have HG2:=zz (HH2.out.below hb1 HH2.out.lt)
  have HSZ:=zz (show w.heap.size+1+1≤w1.heap.size from by have:=hb1.size;rw [HS2.out] at this;exact this)
  clear hb1
  go_wp2_with fail
  go_loopg [5] ma (fun k s5 wr=>∃ i:Nat,i≤ma∧k=ma - i∧s5=.int .i64 i∧Below w.heap.size w wr∧Below (w.heap.size+1+1) w1 wr∧ksa.take i=ksb.take i)
  case atStart=>exact ⟨0,Nat.zero_le _,by omega,rfl,HB1.out,Below.refl _ _,rfl⟩
  case round=>
   obtain ⟨i,hi1,rfl,rfl,hbr,hb2,htk⟩:=hrel
   have HBR:=zz hbr
   have HB2:=zz hb2
   have g1:=HG1.out.below hb2 (by omega)
   have g2:=HG2.out.below hb2 (by omega)
   have c4:=g1.cell 4
   have d4:=g2.cell 4
   simp only [lGA,lGS,lGZ,Nat.zero_add] at c4 d4
   by_cases hlt:i<ma
   ·have hil:i<ksa.length:=by rw [HMA.out];exact hlt
    have him:i<ksb.length:=by rw [HMB.out];exact hlt
    obtain ⟨b1,o1,qn1,dn1,qk1,dk1,hp1,hPb1,hIn1,a0,a1,a2,a3,a4⟩:=em_at HEA.out hil
    obtain ⟨b2,o2,qn2,dn2,qk2,dk2,hp2,hPb2,hIn2,e0,e1,e2,e3,e4⟩:=em_at HEB.out him
    have hc1:∀ x,wr.cell? ⟨b1,x,none⟩=w.cell? ⟨b1,x,none⟩:=fun x=>hbr.cell (p:=⟨b1,x,none⟩) (hP b1 hPb1)
    have hc2:∀ x,wr.cell? ⟨b2,x,none⟩=w.cell? ⟨b2,x,none⟩:=fun x=>hbr.cell (p:=⟨b2,x,none⟩) (hP b2 hPb2)
    rw [← hc1] at a0 a1 a2 a3 a4
    rw [← hc2] at e0 e1 e2 e3 e4
    have hcall:=fun W (hb:Below w.heap.size w W)=>HIH.out ksa[i] (by simp) ksb[i] (w:=W) (fun b hb'=>Nat.lt_of_lt_of_le (hP b hb') hb.size) (TrIn.keep (KP.of_below hb hP) (fun b hb=>hb) _ _ hIn1) (TrIn.keep (KP.of_below hb hP) (fun b hb=>hb) _ _ hIn2)
    have ht1:ksa.take (i+1)=ksa.take i ++ [ksa[i]]:=List.take_succ_eq_append_getElem hil
    have ht2:ksb.take (i+1)=ksb.take i ++ [ksb[i]]:=List.take_succ_eq_append_getElem him
    have hneq:¬ ksa[i]=ksb[i]→¬ ksa=ksb:=fun h e=>by subst e;exact h rfl
    have hii:(i:Int)<ma:=by omega
    subst hp1 hp2
    generalize ksa[i]=x at *
    generalize ksb[i]=y at *
    have HT1:=zz ht1
    have HT2:=zz ht2
    have HTK:=zz htk
    have HNE:=zz hneq
    have HC:=zz hcall
    have hbd:Below w.heap.size w wr.drew:=⟨hbr.os,hbr.tape,hbr.output,hbr.size,hbr.block⟩
    have hb2d:Below (w.heap.size+1+1) w1 wr.drew:=⟨hb2.os,hb2.tape,hb2.output,hb2.size,hb2.block⟩
    have HBD:=zz hbd
    have HB2D:=zz hb2d
    have hszr:w.heap.size+1+1≤wr.heap.size:=Nat.le_trans HSZ.out hb2.size
    have HSZR:Hid (w.heap.size+1+1≤wr.drew.heap.size):=hszr
    obtain ⟨SS,hSS⟩:∃ SS:World→Prop,SS=fun w'=>w'.cell? ⟨w.heap.size,4,none⟩=some (.slice (some ⟨b1,o1,none⟩) ma ck)∧w'.cell? ⟨w.heap.size+1,4,none⟩=some (.slice (some ⟨b2,o2,none⟩) ma dk)∧w'.cell? ⟨b1,o1+i * 5,none⟩=some (.int .i64 x.kd)∧w'.cell? ⟨b1,o1+i * 5+1,none⟩=some (.string (S x.nm))∧w'.cell? ⟨b1,o1+i * 5+2,none⟩=some (.int .i64 x.nu)∧w'.cell? ⟨b1,o1+i * 5+3,none⟩=some (.slice qn1 x.ns.length dn1)∧w'.cell? ⟨b1,o1+i * 5+4,none⟩=some (.slice qk1 x.ks.length dk1) ∧
     w'.cell? ⟨b2,o2+i * 5,none⟩=some (.int .i64 y.kd)∧w'.cell? ⟨b2,o2+i * 5+1,none⟩=some (.string (S y.nm))∧w'.cell? ⟨b2,o2+i * 5+2,none⟩=some (.int .i64 y.nu)∧w'.cell? ⟨b2,o2+i * 5+3,none⟩=some (.slice qn2 y.ns.length dn2)∧w'.cell? ⟨b2,o2+i * 5+4,none⟩=some (.slice qk2 y.ks.length dk2):=⟨_,rfl⟩
    have hS0:SS wr.drew:=by rw [hSS];exact ⟨c4,d4,a0,a1,a2,a3,a4,e0,e1,e2,e3,e4⟩
    have hkeep:∀ W2,Below wr.drew.heap.size wr.drew W2→SS W2:=fun W2 hb=>by
     have hk1:∀ n x,n<wr.drew.heap.size→W2.cell? ⟨n,x,none⟩=wr.drew.cell? ⟨n,x,none⟩:=fun n x hn=>hb.cell (p:=⟨n,x,none⟩) hn
     have z1:b1<wr.drew.heap.size:=Nat.lt_of_lt_of_le (hP b1 hPb1) hbd.size
     have z2:b2<wr.drew.heap.size:=Nat.lt_of_lt_of_le (hP b2 hPb2) hbd.size
     have z3:w.heap.size<wr.drew.heap.size:=by have:=HSZR.out;omega
     have z4:w.heap.size+1<wr.drew.heap.size:=by have:=HSZR.out;omega
     rw [hSS] at hS0 ⊢
     simp only [hk1 _ _ z1,hk1 _ _ z2,hk1 _ _ z3,hk1 _ _ z4]
     exact hS0
    have HS:=zz hkeep
    rw [hSS] at HS hS0
    obtain ⟨c4,d4,a0,a1,a2,a3,a4,e0,e1,e2,e3,e4⟩:=hS0
    clear hcall hc1 hc2 hbr hb2 hIn1 hIn2 ht1 ht2 htk hneq g1 g2 hkeep hSS hbd hb2d hszr
    by_cases hxy:x=y
    ·have HCT:=zz fun W hb=>(HC.out W hb).mono fun r w' (h:Tells (x=y) W r w')=>(⟨h.1 hxy,h.2.2⟩:r=.returned (.bool true)∧Below W.heap.size W w')
     have HXY:=zz hxy
     clear hxy HC
     go_wp2_with fail
     go_region_held3 (fun w'=>w'.cell? ⟨w.heap.size,4,none⟩=some (.slice (some ⟨b1,o1,none⟩) ma ck)∧w'.cell? ⟨w.heap.size+1,4,none⟩=some (.slice (some ⟨b2,o2,none⟩) ma dk)∧w'.cell? ⟨b1,o1+i * 5,none⟩=some (.int .i64 x.kd)∧w'.cell? ⟨b1,o1+i * 5+1,none⟩=some (.string (S x.nm))∧w'.cell? ⟨b1,o1+i * 5+2,none⟩=some (.int .i64 x.nu)∧w'.cell? ⟨b1,o1+i * 5+3,none⟩=some (.slice qn1 x.ns.length dn1)∧w'.cell? ⟨b1,o1+i * 5+4,none⟩=some (.slice qk1 x.ks.length dk1)∧w'.cell? ⟨b2,o2+i * 5,none⟩=some (.int .i64 y.kd)∧w'.cell? ⟨b2,o2+i * 5+1,none⟩=some (.string (S y.nm))∧w'.cell? ⟨b2,o2+i * 5+2,none⟩=some (.int .i64 y.nu)∧w'.cell? ⟨b2,o2+i * 5+3,none⟩=some (.slice qn2 y.ns.length dn2)∧w'.cell? ⟨b2,o2+i * 5+4,none⟩=some (.slice qk2 y.ks.length dk2)) (first | go_keep | (exact HS.out _ HB5.out)) (first | (go_at_call 13;refine (HCT.out _ HBD.out).mono ?_;rintro r w5 ⟨rfl,hb5⟩;have HB5:=zz hb5;clear hb5))
     go_wp2_with fail
     go_roundg (ma - (i+1))
     case measure=>omega
     case rel=>exact ⟨i+1,by omega,rfl,by go_num,HBD.out.trans (HB5.out.mono HBD.out.size),HB2D.out.trans (HB5.out.mono HSZR.out),by rw [HT1.out,HT2.out,HTK.out,HXY.out]⟩
    ·have HCT:=zz fun W hb=>(HC.out W hb).mono fun r w' (h:Tells (x=y) W r w')=>(⟨h.2.1 hxy,h.2.2⟩:r=.returned (.bool false)∧Below W.heap.size W w')
     have HF:Hid (¬ (Tr.mk ka na ua nsa ksa=Tr.mk ka na ua nsa ksb)):=fun e=>HNE.out hxy (Tr.mk.inj e).2.2.2.2
     clear hxy HC
     go_wp2_with fail
     go_region_held3 (fun w'=>w'.cell? ⟨w.heap.size,4,none⟩=some (.slice (some ⟨b1,o1,none⟩) ma ck)∧w'.cell? ⟨w.heap.size+1,4,none⟩=some (.slice (some ⟨b2,o2,none⟩) ma dk)∧w'.cell? ⟨b1,o1+i * 5,none⟩=some (.int .i64 x.kd)∧w'.cell? ⟨b1,o1+i * 5+1,none⟩=some (.string (S x.nm))∧w'.cell? ⟨b1,o1+i * 5+2,none⟩=some (.int .i64 x.nu)∧w'.cell? ⟨b1,o1+i * 5+3,none⟩=some (.slice qn1 x.ns.length dn1)∧w'.cell? ⟨b1,o1+i * 5+4,none⟩=some (.slice qk1 x.ks.length dk1)∧w'.cell? ⟨b2,o2+i * 5,none⟩=some (.int .i64 y.kd)∧w'.cell? ⟨b2,o2+i * 5+1,none⟩=some (.string (S y.nm))∧w'.cell? ⟨b2,o2+i * 5+2,none⟩=some (.int .i64 y.nu)∧w'.cell? ⟨b2,o2+i * 5+3,none⟩=some (.slice qn2 y.ns.length dn2)∧w'.cell? ⟨b2,o2+i * 5+4,none⟩=some (.slice qk2 y.ks.length dk2)) (first | go_keep | (exact HS.out _ HB5.out)) (first | (go_at_call 13;refine (HCT.out _ HBD.out).mono ?_;rintro r w5 ⟨rfl,hb5⟩;have HB5:=zz hb5;clear hb5))
     go_wp2_with fail
     go_ret
     exact ⟨fun h=>absurd (HPP.out.1 h) HF.out,fun _=>rfl,HBD.out.trans (HB5.out.mono HBD.out.size)⟩
   ·have HF:Hid (Tr.mk ka na ua nsa ksa=Tr.mk ka na ua nsa ksb):=by
     rw [List.take_of_length_le (by rw [HMA.out];omega),List.take_of_length_le (by rw [HMB.out];omega)] at htk
     rw [htk]
     rfl
    have hii:¬ (i:Int)<ma:=by omega
    clear hbr htk hb2 g1 g2
    go_wp2_with fail
    go_ret
    exact ⟨fun _=>rfl,fun h=>absurd (HPP.out.2 HF.out) h,HBR.out⟩
theorem TR.ge {base:Nat} {w:World} {v:Value} {l:List Tk} (h:TR base w v l):∀ g,v.ownBlock=some g→base≤g:=by
 intro g e
 rcases h.1.2 with ⟨rfl,_⟩ | ⟨g',cap,cur,rfl,h2,h3,_⟩
 ·cases e
 ·cases e;exact h2
theorem TR.fresh {base:Nat} {w:World} {v:Value} {l:List Tk} (h:TR base w v l):v.ownBlock≠some w.heap.size:=by
 rcases h.1.2 with ⟨rfl,_⟩ | ⟨g',cap,cur,rfl,_,h3,_⟩
 ·intro e;cases e
 ·intro e
  have h4:g'=w.heap.size:=Option.some.inj e
  have:=(Array.getElem?_eq_some_iff.1 h3).1
  omega
theorem bel_app {w W W':World} {v:Value} (hB:Below w.heap.size w W) (hT:∀ g,v.ownBlock=some g→w.heap.size≤g) (hg:W.grownBy W' v.ownBlock):Below w.heap.size w W':=⟨hg.os.trans hB.os,hg.tape.trans hB.tape,hg.output.trans hB.output,Nat.le_trans hB.size hg.size,fun b hb=>(hg.block b (Nat.lt_of_lt_of_le hb hB.size) (fun e=>absurd (hT b e.symm) (by omega))).trans (hB.block b hb)⟩
theorem wpList_appT {w:World} {ops:Array Oper} {rest:List Oper} {o:Oper} {a:Act} {Q:Exit→Act→World→Prop} (hgd:o.guard=none) (s x:Operand)
 (ho:o.op=.call { callee:=.builtin .append,args:=#[s,x],argTypes:=#[22,22] })
 (base:Nat) (v:Value) (xs:List Tk) (hs:a.eval s=v) (hR:TR base w v xs)
 {P:Nat→Prop} (p:Option Addr) (m c:Nat) (l:List Tk) (hx:a.eval x=.slice p m c) (hl:l.length=m) (hK:KM P w p l) (hp:p=none→c=0)
 (hb:xs.length+m≤1000000) (hbase:base≤w.heap.size)
 (h:∀ v' w',TR base w' v' (xs ++ l)→w.grownBy w' v.ownBlock→(v'.ownBlock=v.ownBlock∨v'.ownBlock=some w.heap.size)→wpList Tryz.prog ops Q rest (a.put o.dst v') w'):wpList Tryz.prog ops Q (o :: rest) a w:=
 wpList_plain hgd fun _ hK'=>wp_appT s x ho base v xs hs hR p m c l hx hl hK hp hb hbase fun v' w' h1 h2 h3=>hK' _ _ (h v' w' h1 h2 h3)
theorem two_new2 (w:World) (A B:Array Value) (t u:TypeId):Below w.heap.size w ((w.alloc (.cells A t)).alloc (.cells B u))∧Hold w.heap.size A t ((w.alloc (.cells A t)).alloc (.cells B u)):=⟨((Below.refl _ w).alloc (Nat.le_refl _) _).alloc (by simp) _,(Hold.new w A t).alloc _⟩
theorem tkb_sgn (s:List UInt8) (h:s.length≤2):TkB (sgn s):=⟨by show s.length≤_;omega,by show _≤(0:Int);omega,by show (0:Int)≤_;omega⟩
end Go.Proofs.YtcnnlecjdkfdjaaGreatDoor
namespace Go.Proofs.YtcnnlecjdkfdjaaGreatDoor
def lw (l:List Wd):Nat:=(l.map fun x=>x.2.length+1).sum
theorem lw_nil:lw []=0:=rfl
theorem lw_cons (x:Wd) (l:List Wd):lw (x :: l)=x.2.length+1+lw l:=by simp [lw]
theorem lw_app (a b:List Wd):lw (a ++ b)=lw a+lw b:=by simp [lw]
theorem lw_pw (s:List UInt8) (l:List Wd):lw (pw s :: l)=s.length+1+lw l:=lw_cons _ _
theorem pw_snd (s:List UInt8):(pw s).2=s:=rfl
theorem lw_names {ns:List (List UInt8)} (h:∀ s ∈ ns,s.length≤20):lw (ns.map pw)≤21 * ns.length:=by
 induction ns with
 | nil=>exact Nat.le_refl _
 | cons a r ih=>
  have h1:=ih fun s hs=>h s (List.mem_cons_of_mem _ hs)
  have h2:=h a List.mem_cons_self
  rw [List.map_cons,lw_pw,List.length_cons]
  omega
theorem lw_br (l:List Wd):lw (brW l)=lw l+4:=by
 unfold brW
 rw [lw_cons,lw_app]
 simp [lw]
 omega
theorem lw_at (k:Tr × List Wd):lw (atW k)≤lw k.2+4:=by
 unfold atW
 split
 ·omega
 ·rw [lw_br];exact Nat.le_refl _
theorem lw_sep (s:List UInt8) (l:List (List Wd)):lw (sepW s l)≤(l.map fun x=>lw x+(s.length+1)).sum:=by
 cases l with
 | nil=>exact Nat.zero_le _
 | cons a r=>
  have:lw (r.flatMap fun b=>pw s :: b)=(r.map fun x=>lw x+(s.length+1)).sum:=by
   induction r with
   | nil=>rfl
   | cons b r ih=>rw [List.flatMap_cons,lw_app,ih,lw_pw,List.map_cons,List.sum_cons];omega
  show lw (a ++ _)≤_
  rw [lw_app,this,List.map_cons,List.sum_cons]
  omega
theorem oneA_short (x:Wd) (o:List UInt8) (t:Bool) (h:o.length+(x.2.length+1)≤2147483647):∃ o' t',oneA x (some (o,t))=some (o',t')∧o'.length≤o.length+(x.2.length+1):=by
 have hw:∀ t:Bool,∃ o',wdA x.2 (some (o,t))=some (o',false)∧o'.length≤o.length+(x.2.length+1):=fun t=>by
  have hl:(o ++ ((if t then [] else [32]) ++ x.2)).length≤o.length+(x.2.length+1):=by
   cases t <;> simp <;> omega
  refine ⟨o ++ ((if t then [] else [32]) ++ x.2),?_,hl⟩
  show (if (o ++ ((if t then [] else [32]) ++ x.2)).length≤2147483647 then some (o ++ ((if t then [] else [32]) ++ x.2),false) else none)=_
  exact if_pos (Nat.le_trans hl h)
 unfold oneA
 split
 ·obtain ⟨o',h1,h2⟩:=hw t
  exact ⟨o',_,h1,h2⟩
 ·split
  ·obtain ⟨o',h1,h2⟩:=hw t
   exact ⟨o',true,by rw [h1];rfl,h2⟩
  ·obtain ⟨o',h1,h2⟩:=hw true
   exact ⟨o',_,h1,h2⟩
theorem runA_short (l:List Wd):∀ (o:List UInt8) (t:Bool),o.length+lw l≤2147483647→∃ o' t',runA l (some (o,t))=some (o',t'):=by
 induction l with
 | nil=>intro o t _;exact ⟨o,t,rfl⟩
 | cons x r ih=>
  intro o t h
  rw [lw_cons] at h
  obtain ⟨o',t',h1,h2⟩:=oneA_short x o t (by omega)
  rw [runA_cons,h1]
  exact ih o' t' (by omega)
theorem wd_20 {l:List UInt8} (h:wd l=true):l.length≤20:=by
 unfold wd at h
 simp only [Bool.and_eq_true,decide_eq_true_eq] at h
 exact h.1.2
theorem nm_20 {l:List UInt8} (h:nm l=true):l.length≤20:=by
 unfold nm at h
 simp only [Bool.and_eq_true] at h
 exact wd_20 h.1.1
theorem cn_20 {l:List UInt8} (h:cn l=true):l.length≤20:=by
 unfold cn at h
 simp only [Bool.and_eq_true] at h
 exact wd_20 h.1
theorem names_20 {l:List (List UInt8)} (h:namesM l=true):∀ s ∈ l,s.length≤20:=fun s hs=>by
 unfold namesM at h
 simp only [Bool.and_eq_true,List.all_eq_true] at h
 exact nm_20 (h.1 s hs)
theorem op_2 {l:List UInt8} (h:(isOp l || isCmp l)=true):l.length≤2:=by
 unfold isOp isCmp at h
 simp only [Bool.or_eq_true,beq_iff_eq] at h
 rcases h with (((rfl | rfl) | rfl) | rfl) | (rfl | rfl) <;> simp
theorem one_of {α:Type} {l:List α} (h:l.length=1):∃ a,l=[a]:=by
 match l,h with
 | [a],_=>exact ⟨a,rfl⟩
theorem two_of {α:Type} {l:List α} (h:l.length=2):∃ a b,l=[a,b]:=by
 match l,h with
 | [a,b],_=>exact ⟨a,b,rfl⟩
theorem three_of {α:Type} {l:List α} (h:l.length=3):∃ a b c,l=[a,b,c]:=by
 match l,h with
 | [a,b,c],_=>exact ⟨a,b,c,rfl⟩
def NuOK (x:Int):Prop:=-9223372036854775808≤x∧x≤9223372036854775807
theorem lw_kids {s:List UInt8} (hs:s.length≤2) (l:List Tr) (h:∀ k ∈ l,lw (ws k)+4≤40 * mass k):lw (sepW s (l.map fun x=>ws x))≤40 * (l.map mass).sum:=by
 refine Nat.le_trans (lw_sep s _) ?_
 induction l with
 | nil=>exact Nat.le_refl _
 | cons a r ih=>
  have h1:=ih fun k hk=>h k (List.mem_cons_of_mem _ hk)
  have h2:=h a List.mem_cons_self
  simp only [List.map_cons,List.sum_cons] at h1 ⊢
  omega
theorem lw_ws (e:Tr):∀ n,(∀ x ∈ po e n,soundM x.2=true∧NuOK x.2.nu)→lw (ws e)+4≤40 * mass e:=by
 induction e using Tr.ind with
 | _ e ih=>
  intro n hall
  have hs:=(hall (n,e) (by rw [po_eq];exact List.mem_cons_self)).1
  have hu:=(hall (n,e) (by rw [po_eq];exact List.mem_cons_self)).2
  have hk:∀ k ∈ e.ks,lw (ws k)+4≤40 * mass k:=fun k hk=>ih k hk (n+1) fun x hx=>hall x (by rw [po_eq];exact List.mem_cons_of_mem _ (List.mem_flatMap.2 ⟨k,hk,hx⟩))
  clear ih hall
  unfold soundM at hs
  simp only [Bool.and_eq_true] at hs
  obtain ⟨⟨⟨⟨hnum,hname⟩,hnames⟩,hkids⟩,-⟩:=hs
  rw [ws_eq,mass_eq]
  obtain ⟨kd,nm',nu,ns,ks⟩:=e
  simp only at *
  unfold hasNameM at hname
  unfold hasNamesM at hnames
  unfold hasKidsM at hkids
  simp only at *
  by_cases h1:kd=1
  ·subst h1
   have:=Lib.itoa_length_le nu hu.1 hu.2
   simp only [wsF,if_true,lw_pw,lw_nil]
   omega
  by_cases h2:kd=2
  ·subst h2
   have:=nm_20 (show nm nm'=true by simpa using hname)
   simp [wsF,lw_pw,lw_nil]
   omega
  by_cases h3:kd=3
  ·subst h3
   have:=cn_20 (show cn nm'=true by simpa using hname)
   simp [wsF,lw_pw,lw_nil]
   omega
  by_cases h4:kd=4
  ·subst h4
   obtain ⟨a,rfl⟩:=one_of (l:=ks) (by simpa using hkids)
   have:=lw_names (names_20 (show namesM ns=true by simp at hnames;exact hnames.2))
   have:=hk a (by simp)
   simp [wsF,g0,lw_cons,lw_app,pw_snd,lw_nil]
   omega
  by_cases h5:kd=5
  ·subst h5
   obtain ⟨a,b,rfl⟩:=two_of (l:=ks) (by simpa using hkids)
   have:=hk a (by simp)
   have:=hk b (by simp)
   have:=lw_at (a,ws a)
   have:=lw_at (b,ws b)
   simp [wsF,g0,lw_cons,lw_app,pw_snd,lw_nil] at *
   omega
  by_cases h6:kd=6
  ·subst h6
   obtain ⟨a,b,rfl⟩:=two_of (l:=ks) (by simpa using hkids)
   have:=lw_names (names_20 (show namesM ns=true by simp at hnames;exact hnames.2))
   have:=hk a (by simp)
   have:=hk b (by simp)
   simp [wsF,g0,lw_cons,lw_app,pw_snd,lw_nil]
   omega
  by_cases h7:kd=7
  ·subst h7
   have hl:1<ks.length:=by simpa using hkids
   obtain ⟨a,r,rfl⟩:∃ a r,ks=a :: r:=by cases ks with | nil=>simp at hl | cons a r=>exact ⟨a,r,rfl⟩
   have h1:=lw_kids (s:=[59]) (by simp) r fun k hk'=>hk k (by simp [hk'])
   have:=hk a (by simp)
   simp [wsF,g0,lw_cons,lw_app,pw_snd,lw_nil,Function.comp_def]
   omega
  by_cases h8:kd=8
  ·subst h8
   obtain ⟨a,rfl⟩:=one_of (l:=ks) (by simpa using hkids)
   have:=lw_names (names_20 (show namesM ns=true by simpa using hnames))
   have:=cn_20 (show cn nm'=true by simpa using hname)
   have:=hk a (by simp)
   simp [wsF,g0,lw_cons,lw_app,pw_snd,lw_nil]
   omega
  by_cases h9:kd=9
  ·subst h9
   obtain ⟨a,b,rfl⟩:=two_of (l:=ks) (by simpa using hkids)
   have:=op_2 (l:=nm') (by simpa using hname)
   have:=hk a (by simp)
   have:=hk b (by simp)
   have:=lw_at (a,ws a)
   have:=lw_at (b,ws b)
   simp [wsF,g0,lw_cons,lw_app,pw_snd,lw_nil] at *
   omega
  by_cases h10:kd=10
  ·subst h10
   obtain ⟨a,b,c,rfl⟩:=three_of (l:=ks) (by simpa using hkids)
   have:=hk a (by simp)
   have:=hk b (by simp)
   have:=hk c (by simp)
   simp [wsF,g0,lw_cons,lw_app,pw_snd,lw_nil]
   omega
  by_cases h11:kd=11
  ·subst h11
   have:=lw_kids (s:=[59]) (by simp) ks hk
   simp [wsF,lw_cons,lw_app,pw_snd,lw_nil,Function.comp_def]
   omega
  by_cases h12:kd=12
  ·subst h12
   have:=lw_kids (s:=[59]) (by simp) ks hk
   simp [wsF,lw_cons,lw_app,pw_snd,lw_nil,Function.comp_def]
   omega
  by_cases h13:kd=13
  ·subst h13
   obtain ⟨a,rfl⟩:=one_of (l:=ks) (by simpa using hkids)
   have:=lw_names (names_20 (show namesM ns=true by simp at hnames;exact hnames.2))
   have:=hk a (by simp)
   simp [wsF,g0,lw_cons,lw_app,pw_snd,lw_nil]
   omega
  ·exfalso
   simp [h1,h2,h3,h4,h5,h6,h7,h8,h9,h10,h11,h12,h13] at hkids
theorem trin_nu (e:Tr):∀ {P:Nat→Prop} {w:World} {cs:List Value} (n:Nat),TrIn P w e cs→∀ x ∈ po e n,NuOK x.2.nu:=by
 induction e using Tr.ind with
 | _ e ih=>
  intro P w cs n h x hx
  obtain ⟨pn,cn,pk,ck,_,_,hu,_,_,_,hE⟩:=(TrIn_iff _ _ _ _).1 h
  rw [po_eq] at hx
  rcases List.mem_cons.1 hx with rfl | hx
  ·exact hu
  ·obtain ⟨k,hk,hx⟩:=List.mem_flatMap.1 hx
   obtain ⟨i,hi⟩:=List.getElem?_of_mem hk
   rcases hE with h0 | ⟨b,o,_,_,hm⟩
   ·rw [h0] at hk;cases hk
   ·obtain ⟨ds,_,_,hT⟩:=hm i k hi
    exact ih k hk (n+1) hT x hx
theorem checkM_sound {e:Tr} (h:checkM e=true):∀ x ∈ po e 1,soundM x.2=true:=fun x hx=>(check_mem h x hx).2.2
theorem expr_prints {e:Tr} (hc:checkM e=true) (hm:mass e≤900000) (hn:∀ x ∈ po e 1,NuOK x.2.nu):∃ o,exprV e=.tuple #[.string (S o),.int .i64 0]:=by
 have h1:=lw_ws e 1 fun x hx=>⟨checkM_sound hc x hx,hn x hx⟩
 obtain ⟨o,t,ho⟩:=runA_short (ws e) [] true (by show 0+_≤_;omega)
 refine ⟨o,?_⟩
 unfold exprV
 rw [if_pos hc]
 unfold ptA
 rw [show ptOK 0 (pExpr e)=true from rfl,if_pos rfl,show ptW (pExpr e)=ws e from rfl,ho]
 rfl
def appT (e:Tr):Tr:=⟨5,[],0,[],[e,e]⟩
theorem exprM_of {l:List Tk} {q:Ps} {e:Tr} (h:exprRun l=.inr q) (he:q.ex=[e]):exprM l=if checkM e then (e,(0,0),0) else (t0,plM l 0,61):=by
 have h1:q.ex.headD t0=e:=by rw [he];rfl
 unfold exprM
 rw [h]
 show (if checkM (q.ex.headD t0)=true then (q.ex.headD t0,((0:Int),(0:Int)),(0:Int)) else (t0,plM l 0,61))=_
 rw [h1]
theorem exprM_ok {l:List Tk} (h:(exprM l).2.2=0):∃ q e,exprRun l=.inr q∧q.ex=[e]∧(exprM l).1=e∧checkM e=true:=by
 unfold exprM at h ⊢
 cases hx:exprRun l with
 | inl n=>rw [hx] at h;exact absurd (show (60:Int)=0 from h) (by decide)
 | inr q=>
  rw [hx] at h
  obtain ⟨e,h1,hq⟩:=expr_inv hx
  have he:q.ex=[e]:=by rw [hq]
  have h2:=exprM_of hx he
  unfold exprM at h2
  rw [hx] at h2
  rw [h2] at h ⊢
  clear h2
  refine ⟨q,e,rfl,he,?_⟩
  by_cases hc:checkM e=true
  ·rw [if_pos hc];exact ⟨rfl,hc⟩
  ·rw [if_neg hc] at h;exact absurd (show (61:Int)=0 from h) (by decide)
theorem exprM_no {l:List Tk} (h:(exprM l).2.2≠0):(exprM l).1=t0:=by
 unfold exprM at h ⊢
 cases hx:exprRun l with
 | inl n=>rfl
 | inr q=>
  rw [hx] at h
  simp only at h ⊢
  split
  ·rename_i hc
   rw [if_pos hc] at h
   exact absurd rfl h
  ·rfl
theorem expr_mass_of {l:List Tk} {q:Ps} {e:Tr} (hl:l.length≤10000) (h:exprRun l=.inr q) (he:q.ex=[e]):mass e≤30000:=by
 have h1:=run_mass (l:=l) (nd:=1) (ps0 [r0 10,r0 0]) good_expr (Nat.zero_le _) q h
 have h2:=run_pos (l:=l) (nd:=1) (ps0 [r0 10,r0 0]) good_expr (Nat.zero_le _)
 have h3:run l (ps0 [r0 10,r0 0])=.inr q:=h
 rw [h3] at h2
 have h4:q.tk≤l.length:=h2.2
 unfold massP at h1
 rw [he] at h1
 simp only [List.map_cons,List.map_nil,List.sum_cons,List.sum_nil] at h1
 omega
theorem wraps_out {l:List Tk} (h:(exprM l).2.2=0) (k:Nat):exprM (wrapT (k+1) l)=((exprM l).1,(0,0),0)∧(exprM (wrapT (k+1) l ++ wrapT (k+1) l)).1=(if checkM (appT (exprM l).1) then appT (exprM l).1 else t0)∧(exprM (wrapT (k+1) l ++ wrapT (k+1) l)).2.2=(if checkM (appT (exprM l).1) then 0 else 61):=by
 obtain ⟨q,e,h1,h2,h3,h4⟩:=exprM_ok h
 rw [h3]
 obtain ⟨e',h5,⟨q1,h6,h7⟩,q2,h8,h9⟩:=wraps_one h1 k
 rw [h2] at h5
 cases h5
 refine ⟨?_,?_,?_⟩
 ·rw [exprM_of h6 h7,if_pos h4]
 ·rw [exprM_of h8 h9]
  show (if checkM (appT e)=true then _ else _:Tr × (Int × Int) × Int).1=_
  split <;> rfl
 ·rw [exprM_of h8 h9]
  show (if checkM (appT e)=true then _ else _:Tr × (Int × Int) × Int).2.2=_
  split <;> rfl
end Go.Proofs.YtcnnlecjdkfdjaaGreatDoor
