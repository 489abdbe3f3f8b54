/- Parts of the proof. -/
import Derived.Test.YtcnnlecjdkfdjaaGreatDoorExpr7
set_option linter.unusedVariables false
set_option linter.unusedSimpArgs false
set_option maxRecDepth 100000
set_option maxHeartbeats 8000000
namespace Go.Proofs.YtcnnlecjdkfdjaaGreatDoor
open Go.RowKit
def sgPs (s:Sg):List Pt:=if s.ar.isEmpty then [pSig s] else [pOpn [40],pSig s,pCls [41]]
theorem sgs_snoc (lv:Nat) (l:List Sg) (s:Sg) (st:St):ptA lv (pSigs (l ++ [s])) st=ptsA lv (sgPs s) (ptA lv (pSigs l) st):=by
 have e1:ptA lv (pSigs (l ++ [s])) st=if (l.all fun s=>sgOK s lv) && sgOK s lv then runA (sgsW l ++ sgAt (s,sgW s)) st else none:=by
  unfold ptA
  simp only [pSigs,ptOK,p0OK,ptW,p0W,sgsW,List.map_append,List.map_cons,List.map_nil,List.flatMap_append,List.flatMap_cons,List.flatMap_nil,List.append_nil,List.all_append,List.all_cons,List.all_nil,Bool.and_true]
 have e2:∀ x,ptsA lv (sgPs s) x=if sgOK s lv then runA (sgAt (s,sgW s)) x else none:=by
  intro x
  rw [ptsA_eq]
  unfold sgPs sgAt
  by_cases h:s.ar.isEmpty=true
  ·rw [if_pos h,if_pos h]
   simp [pSig,ptOK,p0OK,ptW,p0W]
  ·rw [if_neg h,if_neg h]
   simp [pSig,pOpn,pCls,ptOK,p0OK,ptW,p0W,brW]
 have e0:ptA lv (pSigs l) st=if (l.all fun s=>sgOK s lv)=true then runA (sgsW l) st else none:=rfl
 rw [e1,e2,e0]
 by_cases h1:(l.all fun s=>sgOK s lv)=true
 ·rw [h1,Bool.true_and]
  by_cases h2:sgOK s lv=true
  ·rw [if_pos h2,if_pos h2,if_pos rfl,runA_append]
  ·rw [if_neg h2,if_neg h2]
 ·rw [if_neg h1,runA_none,if_neg (fun h=>h1 (by rw [Bool.and_eq_true] at h;exact h.1))]
  split <;> rfl
theorem sgPs_w (s:Sg):ptsw (sgPs s)≤sw s+2:=by
 unfold sgPs
 split <;> simp [ptsw,ptw,pSig,pOpn,pCls,p0w] <;> omega
theorem argsT {n:Nat} (IH:PutOK n) {P:Nat→Prop} {t:Nat} {st:St} {lv:Nat} {w:World} {l:List Sg} {p:Option Addr} {c:Nat} (hw:∀ s ∈ l,sw s+2≤n) (hlv:lv≤30) (hG:GP P w) (hT:TX P t st lv w) (hs:SlOK p l.length c) (hM:GM P w p l) :
 Calls Tryz.prog 208 #[.pointer (some ⟨t,0,none⟩),.slice p l.length c] w fun e' w'=>e'=.returned (.tuple #[])∧TX P t (ptA lv (pSigs l) st) lv w'∧KP P w w':=by
 have hm63:l.length≤9223372036854775807:=Nat.le_trans hs.1 hs.2.1
 generalize hm:l.length=m at *
 have HM:=zz hM
 have HG:=zz hG
 have HT:=zz hT
 have HIH:=zz IH
 clear hM hG hT IH hs
 go_enter Tryz.func208,Tryz.ntmps208
 go_wp2_with fail
 go_loopg [8] m (fun k s8 wr=>∃ i:Nat,i≤m∧k=m - i∧s8=.int .i64 i∧TX P t (ptA lv (pSigs (l.take i)) st) lv wr∧KP P w wr)
 case atStart=>exact ⟨0,Nat.zero_le _,by omega,rfl,by simpa [ptA,pSigs,ptOK,p0OK,ptW,p0W,sgsW,runA_nil] using HT.out,KP.refl _ _⟩
 case round=>
  obtain ⟨i,hi1,rfl,rfl,hTi,hKi⟩:=hrel
  have HTi:=zz hTi
  have HKi:=zz hKi
  by_cases hlt:i<m
  ·have hil:i<l.length:=by omega
   have htk:l.take (i+1)=l.take i ++ [l[i]]:=List.take_succ_eq_append_getElem hil
   have hst:=sgs_snoc lv (l.take i) l[i] st
   rw [← htk] at hst
   rcases HM.out with he | ⟨ba,oa,rfl,hba,hma⟩
   ·rw [he] at hil;simp at hil
   obtain ⟨ds,hdl,hcs,hin⟩:=hma i l[i] (by simp)
   have hsw:=hw l[i] (by simp)
   generalize l[i]=s at *
   obtain ⟨pk,ck,rfl,hnm,hsk,hgm⟩:=(SgIn_iff _ _ _ _).1 hin
   have a0:wr.cell? ⟨ba,oa+i * 2,none⟩=some (.string (S s.nm)):=(hKi.cell hba _).trans (hcs 0 _ rfl)
   have a1:wr.cell? ⟨ba,oa+i * 2+1,none⟩=some (.slice pk s.ar.length ck):=(hKi.cell hba _).trans (hcs 1 _ rfl)
   have hin2:=SgIn.keep hKi (Q:=P) (fun b hb=>hb) s _ hin
   have hB:Below wr.heap.size wr (wr.alloc (.cells #[.string (S s.nm),.slice pk s.ar.length ck] 175)):=(Below.refl _ _).alloc (Nat.le_refl _) _
   have hGr:=HG.out.keep hKi fun b hb=>hb
   have HST:=zz hst
   have hwp:=sgPs_w s
   by_cases h0:s.ar.length=0
   ·have hps:sgPs s=[pSig s]:=by unfold sgPs;rw [if_pos (by simpa using List.length_eq_zero_iff.1 h0)]
    rw [hps] at hwp
    have H1:=zz (put_new HIH.out [pSig s] [.iface 175 (.agg #[.string (S s.nm),.slice pk s.ar.length ck])] rfl (vs_cons ⟨_,rfl,hin2⟩ vs_nil) (by omega) hlv hGr hTi hB (wr.heap.size+1) 1 (by simp) rfl (by omega))
    have HPS:=zz hps
    rw [h0] at H1 a1
    clear hma hcs hin hgm hin2 hB hGr hTi hKi hst htk hsw hwp hps hsk hnm hdl
    go_wp2_with fail
    refine H1.out.mono ?_
    rintro e' w' ⟨rfl,hT',hK'⟩
    have HT':=zz hT'
    have HK':=zz hK'
    clear hT' hK'
    go_wp2_with fail
    go_roundg (m - (i+1))
    case measure=>omega
    case rel=>exact ⟨i+1,by omega,rfl,by go_num,by rw [HST.out,HPS.out];exact HT'.out,HKi.out.trans HK'.out⟩
   ·have hps:sgPs s=[pOpn [40],pSig s,pCls [41]]:=by unfold sgPs;rw [if_neg (by simpa using fun h=>h0 (by rw [h];rfl))]
    rw [hps] at hwp
    have H1:=zz (put_new HIH.out [pOpn [40],pSig s,pCls [41]] [.iface 212 (.string (S [40])),.iface 175 (.agg #[.string (S s.nm),.slice pk s.ar.length ck]),.iface 213 (.string (S [41]))] rfl (vs_cons ⟨rfl,by simp⟩ (vs_cons ⟨_,rfl,hin2⟩ (vs_cons ⟨rfl,by simp⟩ vs_nil))) (by omega) hlv hGr hTi hB (wr.heap.size+1) 3 (by simp) rfl (by omega))
    have HPS:=zz hps
    have h0i:¬ ((s.ar.length:Int)=0):=by omega
    generalize s.ar.length=na at *
    clear hma hcs hin hgm hin2 hB hGr hTi hKi hst htk hsw hwp hps hsk hnm hdl
    go_wp2_with fail
    refine H1.out.mono ?_
    rintro e' w' ⟨rfl,hT',hK'⟩
    have HT':=zz hT'
    have HK':=zz hK'
    clear hT' hK'
    go_wp2_with fail
    go_roundg (m - (i+1))
    case measure=>omega
    case rel=>exact ⟨i+1,by omega,rfl,by go_num,by rw [HST.out,HPS.out];exact HT'.out,HKi.out.trans HK'.out⟩
  ·have HX:Hid (l.take i=l):=by show l.take i=l;rw [List.take_of_length_le (by omega)]
   clear hTi hKi
   go_wp2_with fail
   go_end0
   exact ⟨rfl,by have:=HTi.out;rw [HX.out] at this;exact this,HKi.out⟩
theorem TX.deeper {P:Nat→Prop} {t:Nat} {o:List UInt8} {tg:Bool} {lv:Nat} {w:World} (h:TX P t (some (o,tg)) lv w) (lv':Nat) (x:Int) (hx:x=lv'):TX P t (some (o,tg)) lv' (w.setCell ⟨t,4,none⟩ (.int .i64 x))∧KP P w (w.setCell ⟨t,4,none⟩ (.int .i64 x)):=by
 subst hx
 obtain ⟨a0,pa,ca,o1,r,tg1,l,nn,hT,rfl,rfl,rfl,rfl,rfl⟩:=h
 obtain ⟨h1,h2⟩:=hT.level' (lv':Int)
 exact ⟨⟨a0,pa,ca,o1,_,tg1,_,false,h1,rfl,rfl,rfl,rfl,rfl⟩,h2⟩
theorem TX.gone {P:Nat→Prop} {t:Nat} {st:St} {lv:Nat} {w:World} (h:TX P t st lv w) (lv':Nat):TX P t none lv' (w.setCell ⟨t,5,none⟩ (.bool true))∧KP P w (w.setCell ⟨t,5,none⟩ (.bool true)):=by
 obtain ⟨a0,pa,ca,o1,r,tg1,l,nn,hT,hS⟩:=h
 obtain ⟨h1,h2⟩:=hT.none' true
 exact ⟨⟨a0,pa,ca,o1,_,tg1,_,true,h1,rfl⟩,h2⟩
theorem TX.any {P:Nat→Prop} {t:Nat} {lv:Nat} {w:World} (h:TX P t none lv w) (lv':Nat) (x:Int):TX P t none lv' (w.setCell ⟨t,4,none⟩ (.int .i64 x))∧KP P w (w.setCell ⟨t,4,none⟩ (.int .i64 x)):=by
 obtain ⟨a0,pa,ca,o1,r,tg1,l,nn,hT,rfl⟩:=h
 obtain ⟨h1,h2⟩:=hT.level' x
 exact ⟨⟨a0,pa,ca,o1,_,tg1,_,true,h1,rfl⟩,h2⟩
theorem TX.level {P:Nat→Prop} {t:Nat} {st:St} {lv:Nat} {w:World} (h:TX P t st lv w):∃ x:Int,w.cell? ⟨t,4,none⟩=some (.int .i64 x)∧w.frozen? ⟨t,4,none⟩=false∧w.cell? ⟨t,5,none⟩=some (.bool (st == none))∧w.frozen? ⟨t,5,none⟩=false∧(st≠none→x=lv)∧t<w.heap.size:=by
 obtain ⟨a0,pa,ca,o1,r,tg1,l,nn,hT,hS⟩:=h
 obtain ⟨c0,c1,c2,c3,c4,c5⟩:=hT.cells
 refine ⟨l,c4,hT.hold.frozen 4,?_,hT.hold.frozen 5,fun hn=>?_,hT.hold.lt⟩
 ·rw [c5]
  cases st with
  | none=>rw [show nn=true from hS];rfl
  | some q=>obtain ⟨_,_,_,_,rfl⟩:=hS;rfl
 ·cases st with
  | none=>exact absurd rfl hn
  | some q=>obtain ⟨_,_,_,rfl,_⟩:=hS;rfl
theorem TX.back {P:Nat→Prop} {t:Nat} {st:St} {lv:Nat} {w:World} (h:TX P t st (lv+1) w) (x:Int) (hx:st≠none→x=lv):TX P t st lv (w.setCell ⟨t,4,none⟩ (.int .i64 x))∧KP P w (w.setCell ⟨t,4,none⟩ (.int .i64 x)):=by
 cases st with
 | none=>exact h.any lv x
 | some q=>exact h.deeper lv x (hx (by simp))
theorem sig_A1 (lv:Nat) (s:Sg) (h1:lv+1≤30) (h2:s.ar.length≤40) (h:¬ (s.nm=[45,62]∧s.ar.length=2)) (st:St):ptsA (lv+1) [pStr s.nm,pSigs s.ar] st=ptA lv (pSig s) st:=by
 rw [ptsA_eq]
 unfold ptA
 have e1:ptOK lv (pSig s)=s.ar.all fun k=>sgOK k (lv+1):=by
  show sgOK s lv=_
  rw [sgOK_eq];simp [h1,h2]
 have e2:ptW (pSig s)=pw s.nm :: sgsW s.ar:=by
  show sgW s=_
  rw [sgW_eq];unfold sgF
  rw [if_neg (by simpa using h)];rfl
 rw [e1,e2]
 simp [pStr,pSigs,ptOK,p0OK,ptW,p0W]
theorem sig_A2 (lv:Nat) (s:Sg) (h1:lv+1≤30) (h2:s.ar.length≤40) (h:s.nm=[45,62]∧s.ar.length=2) (st:St):ptsA (lv+1) [pSigs (s.ar.take 1),pStr [45,62],pSigs (s.ar.drop 1)] st=ptA lv (pSig s) st:=by
 rw [ptsA_eq]
 unfold ptA
 have e1:ptOK lv (pSig s)=s.ar.all fun k=>sgOK k (lv+1):=by
  show sgOK s lv=_
  rw [sgOK_eq];simp [h1,h2]
 have e2:ptW (pSig s)=sgsW (s.ar.take 1) ++ (pw [45,62] :: sgsW (s.ar.drop 1)):=by
  show sgW s=_
  rw [sgW_eq];unfold sgF
  rw [if_pos (by simpa using h)];simp [sgsW,List.map_take,List.map_drop]
 rw [e1,e2]
 have e3:(s.ar.all fun k=>sgOK k (lv+1))=((s.ar.take 1).all (fun k=>sgOK k (lv+1)) && (s.ar.drop 1).all (fun k=>sgOK k (lv+1))):=by
  rw [← List.all_append,List.take_append_drop]
 rw [e3]
 simp [pStr,pSigs,ptOK,p0OK,ptW,p0W]
theorem sig_no (lv:Nat) (s:Sg) (h:¬ (lv+1≤30∧s.ar.length≤40)) (st:St):ptA lv (pSig s) st=none:=by
 unfold ptA
 rw [if_neg]
 show ¬ sgOK s lv=true
 rw [sgOK_eq]
 simp
 intro a b
 exact absurd ⟨by omega,b⟩ h
theorem take_some {α:Type} {l:List α} {k i:Nat} {x:α} (h:(l.take k)[i]?=some x):l[i]?=some x:=by
 rw [List.getElem?_take] at h
 split at h
 ·exact h
 ·cases h
theorem sig_okp {n:Nat} (IH:PutOK n) {P:Nat→Prop} {t:Nat} {o:List UInt8} {tg:Bool} {lv:Nat} {w:World} {s:Sg} {cs:List Value} (hw:sw s≤n+1) (hlv:lv≤30) (hG:GP P w) (hT:TX P t (some (o,tg)) lv w) (hE:SgIn P w s cs) (ha:¬ (s.nm=[45,62]∧s.ar.length=2)) (hk:lv+1≤30∧s.ar.length≤40) :
 Calls Tryz.prog 209 #[.pointer (some ⟨t,0,none⟩),.agg cs.toArray] w fun e' w'=>e'=.returned (.tuple #[])∧TX P t (ptA lv (pSig s) (some (o,tg))) lv w'∧KP P w w':=by
 obtain ⟨pk,ck,rfl,hnm,hsk,hgm⟩:=(SgIn_iff _ _ _ _).1 hE
 rw [sw_eq] at hw
 obtain ⟨x,c4,f4,c5,f5,hx,htl⟩:=hT.level
 obtain rfl:=hx (by simp)
 have hne:¬ t=w.heap.size:=by omega
 have hne':¬ w.heap.size=t:=by omega
 obtain ⟨hT1,hK1⟩:=hT.deeper (lv+1) ((lv:Int)+1) (by omega)
 have hT2:=hT1
 have hK2:=hK1
 have hlv1:lv+1≤30:=hk.1
 obtain ⟨W,hW⟩:∃ W,W=(w.setCell ⟨t,4,none⟩ (.int .i64 ((lv:Int)+1))).alloc (.cells #[.string (S s.nm),.slice pk s.ar.length ck] 175):=⟨_,rfl⟩
 have hT3:TX (fun b=>P b∨b=w.heap.size) t (some (o,tg)) (lv+1) W:=by rw [hW];have:=hT2.new (.cells #[.string (S s.nm),.slice pk s.ar.length ck] 175);simpa using this
 have hK:KP P w W:=by rw [hW];exact hK2.trans (KP.alloc _ _ hT2.lt)
 have hG1:GP (fun b=>P b∨b=w.heap.size) W:=hG.keep hK fun b hb=>.inl hb
 have hWs:W.heap.size=w.heap.size+1:=by rw [hW];simp
 have hH:Hold w.heap.size #[.string (S s.nm),.slice pk s.ar.length ck] 175 W:=by
  rw [hW];have:=Hold.new (w.setCell ⟨t,4,none⟩ (.int .i64 ((lv:Int)+1))) #[.string (S s.nm),.slice pk s.ar.length ck] 175;simpa using this
 have b1:=hH.cell 1
 simp only [lGA,lGS,lGZ] at b1
 have hgm1:=GM.keep hK (Q:=fun b=>P b∨b=w.heap.size) (fun b hb=>.inl hb) hgm
 have H1:=zz (put_new IH [pStr s.nm,pSigs s.ar] [.iface 9 (.string (S s.nm)),.iface 60 (.slice pk s.ar.length ck)] rfl (vs_cons ⟨rfl,hnm⟩ (vs_cons ⟨_,_,rfl,hsk,hgm1⟩ vs_nil)) (by simp [ptsw,ptw,pStr,pSigs,p0w];omega) hlv1 hG1 hT3 (Below.refl _ _) (w.heap.size+1) 2 hWs rfl (by omega))
 have A1:Hid (ptsA (lv+1) [pStr s.nm,pSigs s.ar] (some (o,tg))=ptA lv (pSig s) (some (o,tg))):=sig_A1 lv s hk.1 hk.2 ha _
 have HK:=zz hK
 have hna:((S s.nm).toList == [45,62])=false∨((S s.nm).toList == [45,62])=true∧¬ s.ar.length=2:=by
  rw [S_list]
  by_cases h:s.nm=[45,62]
  ·right;exact ⟨by rw [h];rfl,fun h2=>ha ⟨h,h2⟩⟩
  ·left;simpa using h
 have hkn:¬ (30:Int)<(lv:Int)+1∧¬ (40:Int)<s.ar.length:=by omega
 generalize s.ar.length=na at *
 generalize S s.nm=sb at *
 clear hgm hE hT hG IH hK hK1 hK2 hT1 hT2 hT3 hG1 hH hsk hw hnm hx hgm1 ha hk
 rcases hna with hq | ⟨hq,hn2⟩
 ·go_enter Tryz.func209,Tryz.ntmps209
  go_wp2_with fail
  rw [← hW]
  refine H1.out.mono ?_
  rintro e' w' ⟨rfl,hT',hK'⟩
  obtain ⟨x',d4,g4,d5,g5,hx',htl'⟩:=hT'.level
  have HX:=zz hx'
  have HT':=zz hT'
  have HK':=zz hK'
  clear hT' hK' hx' d5 g5
  go_wp2_with fail
  go_end0
  exact ⟨rfl,by rw [← A1.out];exact (HT'.out.back (lv:=lv) _ (by intro h;rw [HX.out h];first | omega | (unfold wrap64;omega))).1.weak fun b hb=>.inl hb,HK.out.trans ((HK'.out.trans (HT'.out.back (lv:=lv) _ (by intro h;rw [HX.out h];first | omega | (unfold wrap64;omega))).2).mono fun b hb=>.inl hb)⟩
 ·have hn2i:¬ (na:Int)=2:=by omega
  go_enter Tryz.func209,Tryz.ntmps209
  go_wp2_with fail
  rw [← hW]
  refine H1.out.mono ?_
  rintro e' w' ⟨rfl,hT',hK'⟩
  obtain ⟨x',d4,g4,d5,g5,hx',htl'⟩:=hT'.level
  have HX:=zz hx'
  have HT':=zz hT'
  have HK':=zz hK'
  clear hT' hK' hx' d5 g5
  go_wp2_with fail
  go_end0
  exact ⟨rfl,by rw [← A1.out];exact (HT'.out.back (lv:=lv) _ (by intro h;rw [HX.out h];first | omega | (unfold wrap64;omega))).1.weak fun b hb=>.inl hb,HK.out.trans ((HK'.out.trans (HT'.out.back (lv:=lv) _ (by intro h;rw [HX.out h];first | omega | (unfold wrap64;omega))).2).mono fun b hb=>.inl hb)⟩
theorem sig_oka {n:Nat} (IH:PutOK n) {P:Nat→Prop} {t:Nat} {o:List UInt8} {tg:Bool} {lv:Nat} {w:World} {s:Sg} {cs:List Value} (hw:sw s≤n+1) (hlv:lv≤30) (hG:GP P w) (hT:TX P t (some (o,tg)) lv w) (hE:SgIn P w s cs) (ha:s.nm=[45,62]∧s.ar.length=2) (hk:lv+1≤30∧s.ar.length≤40) :
 Calls Tryz.prog 209 #[.pointer (some ⟨t,0,none⟩),.agg cs.toArray] w fun e' w'=>e'=.returned (.tuple #[])∧TX P t (ptA lv (pSig s) (some (o,tg))) lv w'∧KP P w w':=by
 obtain ⟨pk,ck,rfl,hnm,hsk,hgm⟩:=(SgIn_iff _ _ _ _).1 hE
 rw [sw_eq] at hw
 obtain ⟨x,c4,f4,c5,f5,hx,htl⟩:=hT.level
 obtain rfl:=hx (by simp)
 have hne:¬ t=w.heap.size:=by omega
 have hne':¬ w.heap.size=t:=by omega
 obtain ⟨hT1,hK1⟩:=hT.deeper (lv+1) ((lv:Int)+1) (by omega)
 have hT2:=hT1
 have hK2:=hK1
 have hlv1:lv+1≤30:=hk.1
 obtain ⟨W,hW⟩:∃ W,W=(w.setCell ⟨t,4,none⟩ (.int .i64 ((lv:Int)+1))).alloc (.cells #[.string (S s.nm),.slice pk s.ar.length ck] 175):=⟨_,rfl⟩
 have hT3:TX (fun b=>P b∨b=w.heap.size) t (some (o,tg)) (lv+1) W:=by rw [hW];have:=hT2.new (.cells #[.string (S s.nm),.slice pk s.ar.length ck] 175);simpa using this
 have hK:KP P w W:=by rw [hW];exact hK2.trans (KP.alloc _ _ hT2.lt)
 have hG1:GP (fun b=>P b∨b=w.heap.size) W:=hG.keep hK fun b hb=>.inl hb
 have hWs:W.heap.size=w.heap.size+1:=by rw [hW];simp
 have hH:Hold w.heap.size #[.string (S s.nm),.slice pk s.ar.length ck] 175 W:=by
  rw [hW];have:=Hold.new (w.setCell ⟨t,4,none⟩ (.int .i64 ((lv:Int)+1))) #[.string (S s.nm),.slice pk s.ar.length ck] 175;simpa using this
 have b1:=hH.cell 1
 simp only [lGA,lGS,lGZ] at b1
 obtain ⟨a0,a1,hab⟩:∃ a0 a1,s.ar=[a0,a1]:=by
  obtain ⟨_,h2⟩:=ha
  match hs:s.ar,h2 with
  | [a0,a1],_=>exact ⟨a0,a1,rfl⟩
 have hgm0:=GM.keep hK (Q:=fun b=>P b∨b=w.heap.size) (fun b hb=>.inl hb) hgm
 obtain ⟨b,ob,hpk,hPb,hmm⟩:∃ b ob,pk=some ⟨b,ob,none⟩∧(P b∨b=w.heap.size)∧∀ i t,s.ar[i]?=some t→∃ ds:List Value,ds.length=2∧(∀ j d,ds[j]?=some d→W.cell? ⟨b,ob+i * 2+j,none⟩=some d)∧SgIn (fun b=>P b∨b=w.heap.size) W t ds:=by
  rcases hgm0 with h | ⟨b,ob,h1,h2,h3⟩
  ·rw [hab] at h;cases h
  ·exact ⟨b,ob,h1,h2,h3⟩
 subst hpk
 have hg1:GM (fun b=>P b∨b=w.heap.size) W (some ⟨b,ob,none⟩) (s.ar.take 1):=.inr ⟨b,ob,rfl,hPb,fun i t ht=>hmm i t (take_some ht)⟩
 have hg2:GM (fun b=>P b∨b=w.heap.size) W (some ⟨b,ob+2,none⟩) (s.ar.drop 1):=.inr ⟨b,ob+2,rfl,hPb,fun i t ht=>by
  rw [List.getElem?_drop] at ht
  obtain ⟨ds,h1,h2,h3⟩:=hmm (1+i) t ht
  exact ⟨ds,h1,fun j d hd=>by rw [← h2 j d hd];congr 2;omega,h3⟩⟩
 have hl1:(s.ar.take 1).length=1:=by rw [hab];rfl
 have hl2:(s.ar.drop 1).length=1:=by rw [hab];rfl
 have hck:2≤ck:=by have:=hsk.1;rw [ha.2] at this;exact this
 have hck9:=hsk.2.1
 have H1:=zz (put_new IH (w:=W) (W:=W.drew) [pSigs (s.ar.take 1),pStr [45,62],pSigs (s.ar.drop 1)] [.iface 60 (.slice (some ⟨b,ob,none⟩) 1 ck),.iface 9 (.string (S [45,62])),.iface 60 (.slice (some ⟨b,ob+2,none⟩) 1 (ck - 1))] rfl (vs_cons ⟨some ⟨b,ob,none⟩,ck,by rw [hl1],⟨by omega,by omega,fun h=>by cases h⟩,hg1⟩ (vs_cons ⟨rfl,by simp⟩ (vs_cons ⟨some ⟨b,ob+2,none⟩,ck - 1,by rw [hl2],⟨by omega,by omega,fun h=>by cases h⟩,hg2⟩ vs_nil))) (by simp [ptsw,ptw,pStr,pSigs,p0w,hab] at hw ⊢;omega) hlv1 hG1 hT3 ⟨rfl,rfl,rfl,Nat.le_refl _,fun _ _=>rfl⟩ (w.heap.size+1) 3 hWs rfl (by omega))
 have A1:Hid (ptsA (lv+1) [pSigs (s.ar.take 1),pStr [45,62],pSigs (s.ar.drop 1)] (some (o,tg))=ptA lv (pSig s) (some (o,tg))):=sig_A2 lv s hk.1 hk.2 ha _
 have HK:=zz hK
 have hq:((S s.nm).toList == [45,62])=true:=by rw [S_list,ha.1];rfl
 have hkn:¬ (30:Int)<(lv:Int)+1:=by omega
 have h2n:s.ar.length=2:=ha.2
 rw [h2n] at hW b1
 have h1ck:(1:Int)≤ck:=by omega
 have hckn:¬ ck=1:=by omega
 have HS:Hid (∀ w',KP (fun b=>P b∨b=w.heap.size) W w'→w'.cell? ⟨w.heap.size,1,none⟩=some (.slice (some ⟨b,ob,none⟩) 2 ck)):=fun w' k=>(k.cell (.inr rfl) _).trans b1
 generalize S s.nm=sb at *
 rw [h2n]
 clear hgm hE hT hG IH hK hK1 hK2 hT1 hT2 hT3 hG1 hH hsk hw hnm hx hgm0 hmm hg1 hg2 hPb ha hk hl1 hl2 hab h2n
 go_enter Tryz.func209,Tryz.ntmps209
 go_wp2_with fail
 rw [← hW]
 clear hW
 go_region_held3 (fun w'=>w'.cell? ⟨w.heap.size,1,none⟩=some (.slice (some ⟨b,ob,none⟩) 2 ck)) (first | go_keep | (exact HS.out _ HK'.out)) (first | (go_at_call 168;refine H1.out.mono ?_;rintro e' w' ⟨rfl,hT',hK'⟩;obtain ⟨x',d4,g4,d5,g5,hx',htl'⟩:=hT'.level;have HX:=zz hx';have HT':=zz hT';have HK':=zz hK';clear hT' hK' hx' d5 g5))
 go_wp2_with fail
 go_end0
 exact ⟨rfl,by rw [← A1.out];exact (HT'.out.back (lv:=lv) _ (by intro h;rw [HX.out h];first | omega | (unfold wrap64;omega))).1.weak fun b hb=>.inl hb,HK.out.trans ((HK'.out.trans (HT'.out.back (lv:=lv) _ (by intro h;rw [HX.out h];first | omega | (unfold wrap64;omega))).2).mono fun b hb=>.inl hb)⟩
theorem sig_b1p {n:Nat} (IH:PutOK n) {P:Nat→Prop} {t:Nat} {o:List UInt8} {tg:Bool} {lv:Nat} {w:World} {s:Sg} {cs:List Value} (hw:sw s≤n+1) (hlv:lv≤30) (hG:GP P w) (hT:TX P t (some (o,tg)) lv w) (hE:SgIn P w s cs) (ha:¬ (s.nm=[45,62]∧s.ar.length=2)) (hk:¬ lv+1≤30) :
 Calls Tryz.prog 209 #[.pointer (some ⟨t,0,none⟩),.agg cs.toArray] w fun e' w'=>e'=.returned (.tuple #[])∧TX P t (ptA lv (pSig s) (some (o,tg))) lv w'∧KP P w w':=by
 obtain ⟨pk,ck,rfl,hnm,hsk,hgm⟩:=(SgIn_iff _ _ _ _).1 hE
 rw [sw_eq] at hw
 obtain ⟨x,c4,f4,c5,f5,hx,htl⟩:=hT.level
 obtain rfl:=hx (by simp)
 have hne:¬ t=w.heap.size:=by omega
 have hne':¬ w.heap.size=t:=by omega
 obtain ⟨hT1,hK1⟩:=hT.deeper (lv+1) ((lv:Int)+1) (by omega)
 obtain ⟨hT2,hK2'⟩:=hT1.gone 1
 have hK2:=hK1.trans hK2'
 have hlv1:1≤30:=by omega
 obtain ⟨W,hW⟩:∃ W,W=((w.setCell ⟨t,4,none⟩ (.int .i64 ((lv:Int)+1))).setCell ⟨t,5,none⟩ (.bool true)).alloc (.cells #[.string (S s.nm),.slice pk s.ar.length ck] 175):=⟨_,rfl⟩
 have hT3:TX (fun b=>P b∨b=w.heap.size) t none 1 W:=by rw [hW];have:=hT2.new (.cells #[.string (S s.nm),.slice pk s.ar.length ck] 175);simpa using this
 have hK:KP P w W:=by rw [hW];exact hK2.trans (KP.alloc _ _ hT2.lt)
 have hG1:GP (fun b=>P b∨b=w.heap.size) W:=hG.keep hK fun b hb=>.inl hb
 have hWs:W.heap.size=w.heap.size+1:=by rw [hW];simp
 have hH:Hold w.heap.size #[.string (S s.nm),.slice pk s.ar.length ck] 175 W:=by
  rw [hW];have:=Hold.new ((w.setCell ⟨t,4,none⟩ (.int .i64 ((lv:Int)+1))).setCell ⟨t,5,none⟩ (.bool true)) #[.string (S s.nm),.slice pk s.ar.length ck] 175;simpa using this
 have b1:=hH.cell 1
 simp only [lGA,lGS,lGZ] at b1
 have hgm1:=GM.keep hK (Q:=fun b=>P b∨b=w.heap.size) (fun b hb=>.inl hb) hgm
 have H1:=zz (put_new IH [pStr s.nm,pSigs s.ar] [.iface 9 (.string (S s.nm)),.iface 60 (.slice pk s.ar.length ck)] rfl (vs_cons ⟨rfl,hnm⟩ (vs_cons ⟨_,_,rfl,hsk,hgm1⟩ vs_nil)) (by simp [ptsw,ptw,pStr,pSigs,p0w];omega) hlv1 hG1 hT3 (Below.refl _ _) (w.heap.size+1) 2 hWs rfl (by omega))
 have HK:=zz hK
 have AN:Hid (ptA lv (pSig s) (some (o,tg))=none):=sig_no lv s (by omega) _
 have hna:((S s.nm).toList == [45,62])=false∨((S s.nm).toList == [45,62])=true∧¬ s.ar.length=2:=by
  rw [S_list]
  by_cases h:s.nm=[45,62]
  ·right;exact ⟨by rw [h];rfl,fun h2=>ha ⟨h,h2⟩⟩
  ·left;simpa using h
 have hkn:(30:Int)<(lv:Int)+1:=by omega
 generalize s.ar.length=na at *
 generalize S s.nm=sb at *
 clear hgm hE hT hG IH hK hK1 hK2 hT1 hT2 hT3 hG1 hH hsk hw hnm hx hK2' hgm1 ha hk
 rcases hna with hq | ⟨hq,hn2⟩
 ·go_enter Tryz.func209,Tryz.ntmps209
  go_wp2_with fail
  rw [← hW]
  refine H1.out.mono ?_
  rintro e' w' ⟨rfl,hT',hK'⟩
  obtain ⟨x',d4,g4,d5,g5,hx',htl'⟩:=hT'.level
  have HX:=zz hx'
  have HT':=zz hT'
  have HK':=zz hK'
  clear hT' hK' hx' d5 g5
  go_wp2_with fail
  go_end0
  have q:=HT'.out
  rw [ptsA_none] at q
  exact ⟨rfl,by rw [AN.out];exact (q.any lv _).1.weak fun b hb=>.inl hb,HK.out.trans ((HK'.out.trans (q.any lv _).2).mono fun b hb=>.inl hb)⟩
 ·have hn2i:¬ (na:Int)=2:=by omega
  go_enter Tryz.func209,Tryz.ntmps209
  go_wp2_with fail
  rw [← hW]
  refine H1.out.mono ?_
  rintro e' w' ⟨rfl,hT',hK'⟩
  obtain ⟨x',d4,g4,d5,g5,hx',htl'⟩:=hT'.level
  have HX:=zz hx'
  have HT':=zz hT'
  have HK':=zz hK'
  clear hT' hK' hx' d5 g5
  go_wp2_with fail
  go_end0
  have q:=HT'.out
  rw [ptsA_none] at q
  exact ⟨rfl,by rw [AN.out];exact (q.any lv _).1.weak fun b hb=>.inl hb,HK.out.trans ((HK'.out.trans (q.any lv _).2).mono fun b hb=>.inl hb)⟩
theorem sig_b1a {n:Nat} (IH:PutOK n) {P:Nat→Prop} {t:Nat} {o:List UInt8} {tg:Bool} {lv:Nat} {w:World} {s:Sg} {cs:List Value} (hw:sw s≤n+1) (hlv:lv≤30) (hG:GP P w) (hT:TX P t (some (o,tg)) lv w) (hE:SgIn P w s cs) (ha:s.nm=[45,62]∧s.ar.length=2) (hk:¬ lv+1≤30) :
 Calls Tryz.prog 209 #[.pointer (some ⟨t,0,none⟩),.agg cs.toArray] w fun e' w'=>e'=.returned (.tuple #[])∧TX P t (ptA lv (pSig s) (some (o,tg))) lv w'∧KP P w w':=by
 obtain ⟨pk,ck,rfl,hnm,hsk,hgm⟩:=(SgIn_iff _ _ _ _).1 hE
 rw [sw_eq] at hw
 obtain ⟨x,c4,f4,c5,f5,hx,htl⟩:=hT.level
 obtain rfl:=hx (by simp)
 have hne:¬ t=w.heap.size:=by omega
 have hne':¬ w.heap.size=t:=by omega
 obtain ⟨hT1,hK1⟩:=hT.deeper (lv+1) ((lv:Int)+1) (by omega)
 obtain ⟨hT2,hK2'⟩:=hT1.gone 1
 have hK2:=hK1.trans hK2'
 have hlv1:1≤30:=by omega
 obtain ⟨W,hW⟩:∃ W,W=((w.setCell ⟨t,4,none⟩ (.int .i64 ((lv:Int)+1))).setCell ⟨t,5,none⟩ (.bool true)).alloc (.cells #[.string (S s.nm),.slice pk s.ar.length ck] 175):=⟨_,rfl⟩
 have hT3:TX (fun b=>P b∨b=w.heap.size) t none 1 W:=by rw [hW];have:=hT2.new (.cells #[.string (S s.nm),.slice pk s.ar.length ck] 175);simpa using this
 have hK:KP P w W:=by rw [hW];exact hK2.trans (KP.alloc _ _ hT2.lt)
 have hG1:GP (fun b=>P b∨b=w.heap.size) W:=hG.keep hK fun b hb=>.inl hb
 have hWs:W.heap.size=w.heap.size+1:=by rw [hW];simp
 have hH:Hold w.heap.size #[.string (S s.nm),.slice pk s.ar.length ck] 175 W:=by
  rw [hW];have:=Hold.new ((w.setCell ⟨t,4,none⟩ (.int .i64 ((lv:Int)+1))).setCell ⟨t,5,none⟩ (.bool true)) #[.string (S s.nm),.slice pk s.ar.length ck] 175;simpa using this
 have b1:=hH.cell 1
 simp only [lGA,lGS,lGZ] at b1
 obtain ⟨a0,a1,hab⟩:∃ a0 a1,s.ar=[a0,a1]:=by
  obtain ⟨_,h2⟩:=ha
  match hs:s.ar,h2 with
  | [a0,a1],_=>exact ⟨a0,a1,rfl⟩
 have hgm0:=GM.keep hK (Q:=fun b=>P b∨b=w.heap.size) (fun b hb=>.inl hb) hgm
 obtain ⟨b,ob,hpk,hPb,hmm⟩:∃ b ob,pk=some ⟨b,ob,none⟩∧(P b∨b=w.heap.size)∧∀ i t,s.ar[i]?=some t→∃ ds:List Value,ds.length=2∧(∀ j d,ds[j]?=some d→W.cell? ⟨b,ob+i * 2+j,none⟩=some d)∧SgIn (fun b=>P b∨b=w.heap.size) W t ds:=by
  rcases hgm0 with h | ⟨b,ob,h1,h2,h3⟩
  ·rw [hab] at h;cases h
  ·exact ⟨b,ob,h1,h2,h3⟩
 subst hpk
 have hg1:GM (fun b=>P b∨b=w.heap.size) W (some ⟨b,ob,none⟩) (s.ar.take 1):=.inr ⟨b,ob,rfl,hPb,fun i t ht=>hmm i t (take_some ht)⟩
 have hg2:GM (fun b=>P b∨b=w.heap.size) W (some ⟨b,ob+2,none⟩) (s.ar.drop 1):=.inr ⟨b,ob+2,rfl,hPb,fun i t ht=>by
  rw [List.getElem?_drop] at ht
  obtain ⟨ds,h1,h2,h3⟩:=hmm (1+i) t ht
  exact ⟨ds,h1,fun j d hd=>by rw [← h2 j d hd];congr 2;omega,h3⟩⟩
 have hl1:(s.ar.take 1).length=1:=by rw [hab];rfl
 have hl2:(s.ar.drop 1).length=1:=by rw [hab];rfl
 have hck:2≤ck:=by have:=hsk.1;rw [ha.2] at this;exact this
 have hck9:=hsk.2.1
 have H1:=zz (put_new IH (w:=W) (W:=W.drew) [pSigs (s.ar.take 1),pStr [45,62],pSigs (s.ar.drop 1)] [.iface 60 (.slice (some ⟨b,ob,none⟩) 1 ck),.iface 9 (.string (S [45,62])),.iface 60 (.slice (some ⟨b,ob+2,none⟩) 1 (ck - 1))] rfl (vs_cons ⟨some ⟨b,ob,none⟩,ck,by rw [hl1],⟨by omega,by omega,fun h=>by cases h⟩,hg1⟩ (vs_cons ⟨rfl,by simp⟩ (vs_cons ⟨some ⟨b,ob+2,none⟩,ck - 1,by rw [hl2],⟨by omega,by omega,fun h=>by cases h⟩,hg2⟩ vs_nil))) (by simp [ptsw,ptw,pStr,pSigs,p0w,hab] at hw ⊢;omega) hlv1 hG1 hT3 ⟨rfl,rfl,rfl,Nat.le_refl _,fun _ _=>rfl⟩ (w.heap.size+1) 3 hWs rfl (by omega))
 have HK:=zz hK
 have AN:Hid (ptA lv (pSig s) (some (o,tg))=none):=sig_no lv s (by omega) _
 have hq:((S s.nm).toList == [45,62])=true:=by rw [S_list,ha.1];rfl
 have hkn:(30:Int)<(lv:Int)+1:=by omega
 have h2n:s.ar.length=2:=ha.2
 rw [h2n] at hW b1
 have h1ck:(1:Int)≤ck:=by omega
 have hckn:¬ ck=1:=by omega
 have HS:Hid (∀ w',KP (fun b=>P b∨b=w.heap.size) W w'→w'.cell? ⟨w.heap.size,1,none⟩=some (.slice (some ⟨b,ob,none⟩) 2 ck)):=fun w' k=>(k.cell (.inr rfl) _).trans b1
 generalize S s.nm=sb at *
 rw [h2n]
 clear hgm hE hT hG IH hK hK1 hK2 hT1 hT2 hT3 hG1 hH hsk hw hnm hx hK2' hgm0 hmm hg1 hg2 hPb ha hk hl1 hl2 hab h2n
 go_enter Tryz.func209,Tryz.ntmps209
 go_wp2_with fail
 rw [← hW]
 clear hW
 go_region_held3 (fun w'=>w'.cell? ⟨w.heap.size,1,none⟩=some (.slice (some ⟨b,ob,none⟩) 2 ck)) (first | go_keep | (exact HS.out _ HK'.out)) (first | (go_at_call 168;refine H1.out.mono ?_;rintro e' w' ⟨rfl,hT',hK'⟩;obtain ⟨x',d4,g4,d5,g5,hx',htl'⟩:=hT'.level;have HX:=zz hx';have HT':=zz hT';have HK':=zz hK';clear hT' hK' hx' d5 g5))
 go_wp2_with fail
 go_end0
 have q:=HT'.out
 rw [ptsA_none] at q
 exact ⟨rfl,by rw [AN.out];exact (q.any lv _).1.weak fun b hb=>.inl hb,HK.out.trans ((HK'.out.trans (q.any lv _).2).mono fun b hb=>.inl hb)⟩
theorem sig_b2p {n:Nat} (IH:PutOK n) {P:Nat→Prop} {t:Nat} {o:List UInt8} {tg:Bool} {lv:Nat} {w:World} {s:Sg} {cs:List Value} (hw:sw s≤n+1) (hlv:lv≤30) (hG:GP P w) (hT:TX P t (some (o,tg)) lv w) (hE:SgIn P w s cs) (ha:¬ (s.nm=[45,62]∧s.ar.length=2)) (hk:lv+1≤30∧¬ s.ar.length≤40) :
 Calls Tryz.prog 209 #[.pointer (some ⟨t,0,none⟩),.agg cs.toArray] w fun e' w'=>e'=.returned (.tuple #[])∧TX P t (ptA lv (pSig s) (some (o,tg))) lv w'∧KP P w w':=by
 obtain ⟨pk,ck,rfl,hnm,hsk,hgm⟩:=(SgIn_iff _ _ _ _).1 hE
 rw [sw_eq] at hw
 obtain ⟨x,c4,f4,c5,f5,hx,htl⟩:=hT.level
 obtain rfl:=hx (by simp)
 have hne:¬ t=w.heap.size:=by omega
 have hne':¬ w.heap.size=t:=by omega
 obtain ⟨hT1,hK1⟩:=hT.deeper (lv+1) ((lv:Int)+1) (by omega)
 obtain ⟨hT2,hK2'⟩:=hT1.gone 1
 have hK2:=hK1.trans hK2'
 have hlv1:1≤30:=by omega
 obtain ⟨W,hW⟩:∃ W,W=((w.setCell ⟨t,4,none⟩ (.int .i64 ((lv:Int)+1))).setCell ⟨t,5,none⟩ (.bool true)).alloc (.cells #[.string (S s.nm),.slice pk s.ar.length ck] 175):=⟨_,rfl⟩
 have hT3:TX (fun b=>P b∨b=w.heap.size) t none 1 W:=by rw [hW];have:=hT2.new (.cells #[.string (S s.nm),.slice pk s.ar.length ck] 175);simpa using this
 have hK:KP P w W:=by rw [hW];exact hK2.trans (KP.alloc _ _ hT2.lt)
 have hG1:GP (fun b=>P b∨b=w.heap.size) W:=hG.keep hK fun b hb=>.inl hb
 have hWs:W.heap.size=w.heap.size+1:=by rw [hW];simp
 have hH:Hold w.heap.size #[.string (S s.nm),.slice pk s.ar.length ck] 175 W:=by
  rw [hW];have:=Hold.new ((w.setCell ⟨t,4,none⟩ (.int .i64 ((lv:Int)+1))).setCell ⟨t,5,none⟩ (.bool true)) #[.string (S s.nm),.slice pk s.ar.length ck] 175;simpa using this
 have b1:=hH.cell 1
 simp only [lGA,lGS,lGZ] at b1
 have hgm1:=GM.keep hK (Q:=fun b=>P b∨b=w.heap.size) (fun b hb=>.inl hb) hgm
 have H1:=zz (put_new IH [pStr s.nm,pSigs s.ar] [.iface 9 (.string (S s.nm)),.iface 60 (.slice pk s.ar.length ck)] rfl (vs_cons ⟨rfl,hnm⟩ (vs_cons ⟨_,_,rfl,hsk,hgm1⟩ vs_nil)) (by simp [ptsw,ptw,pStr,pSigs,p0w];omega) hlv1 hG1 hT3 (Below.refl _ _) (w.heap.size+1) 2 hWs rfl (by omega))
 have HK:=zz hK
 have AN:Hid (ptA lv (pSig s) (some (o,tg))=none):=sig_no lv s (by omega) _
 have hna:((S s.nm).toList == [45,62])=false∨((S s.nm).toList == [45,62])=true∧¬ s.ar.length=2:=by
  rw [S_list]
  by_cases h:s.nm=[45,62]
  ·right;exact ⟨by rw [h];rfl,fun h2=>ha ⟨h,h2⟩⟩
  ·left;simpa using h
 have hkn:¬ (30:Int)<(lv:Int)+1∧(40:Int)<s.ar.length:=by omega
 generalize s.ar.length=na at *
 generalize S s.nm=sb at *
 clear hgm hE hT hG IH hK hK1 hK2 hT1 hT2 hT3 hG1 hH hsk hw hnm hx hK2' hgm1 ha hk
 rcases hna with hq | ⟨hq,hn2⟩
 ·go_enter Tryz.func209,Tryz.ntmps209
  go_wp2_with fail
  rw [← hW]
  refine H1.out.mono ?_
  rintro e' w' ⟨rfl,hT',hK'⟩
  obtain ⟨x',d4,g4,d5,g5,hx',htl'⟩:=hT'.level
  have HX:=zz hx'
  have HT':=zz hT'
  have HK':=zz hK'
  clear hT' hK' hx' d5 g5
  go_wp2_with fail
  go_end0
  have q:=HT'.out
  rw [ptsA_none] at q
  exact ⟨rfl,by rw [AN.out];exact (q.any lv _).1.weak fun b hb=>.inl hb,HK.out.trans ((HK'.out.trans (q.any lv _).2).mono fun b hb=>.inl hb)⟩
 ·have hn2i:¬ (na:Int)=2:=by omega
  go_enter Tryz.func209,Tryz.ntmps209
  go_wp2_with fail
  rw [← hW]
  refine H1.out.mono ?_
  rintro e' w' ⟨rfl,hT',hK'⟩
  obtain ⟨x',d4,g4,d5,g5,hx',htl'⟩:=hT'.level
  have HX:=zz hx'
  have HT':=zz hT'
  have HK':=zz hK'
  clear hT' hK' hx' d5 g5
  go_wp2_with fail
  go_end0
  have q:=HT'.out
  rw [ptsA_none] at q
  exact ⟨rfl,by rw [AN.out];exact (q.any lv _).1.weak fun b hb=>.inl hb,HK.out.trans ((HK'.out.trans (q.any lv _).2).mono fun b hb=>.inl hb)⟩
theorem sigT {n:Nat} (IH:PutOK n) {P:Nat→Prop} {t:Nat} {o:List UInt8} {tg:Bool} {lv:Nat} {w:World} {s:Sg} {cs:List Value} (hw:sw s≤n+1) (hlv:lv≤30) (hG:GP P w) (hT:TX P t (some (o,tg)) lv w) (hE:SgIn P w s cs) :
 Calls Tryz.prog 209 #[.pointer (some ⟨t,0,none⟩),.agg cs.toArray] w fun e' w'=>e'=.returned (.tuple #[])∧TX P t (ptA lv (pSig s) (some (o,tg))) lv w'∧KP P w w':=by
 by_cases ha:s.nm=[45,62]∧s.ar.length=2
 ·by_cases h1:lv+1≤30
  ·exact sig_oka IH hw hlv hG hT hE ha ⟨h1,by omega⟩
  ·exact sig_b1a IH hw hlv hG hT hE ha h1
 ·by_cases h1:lv+1≤30
  ·by_cases h2:s.ar.length≤40
   ·exact sig_okp IH hw hlv hG hT hE ha ⟨h1,h2⟩
   ·exact sig_b2p IH hw hlv hG hT hE ha ⟨h1,h2⟩
  ·exact sig_b1p IH hw hlv hG hT hE ha h1
end Go.Proofs.YtcnnlecjdkfdjaaGreatDoor
