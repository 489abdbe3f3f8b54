/- Parts of the proof. -/
import Derived.Test.YtcnnlecjdkfdjaaGreatDoorWritten
set_option linter.unusedVariables false
set_option linter.unusedSimpArgs false
set_option maxRecDepth 100000
set_option maxHeartbeats 8000000
namespace Go.Proofs.YtcnnlecjdkfdjaaGreatDoor
open Go.RowKit
def sgM (s:Sg):Nat→Bool:=s.fold (α:=Nat→Bool) fun t l n=>headsM t && (decide (t.ar.length≤40) && (decide (t.ar.length=0) || decide (n≠0)) && l.all fun k=>k.2 (n - 1))
def wrM (l:List Sg) (n:Nat):Bool:=decide (l.length≤40) && (decide (l.length=0) || decide (n≠0)) && l.all fun s=>sgM s (n - 1)
theorem sgM_eq (s:Sg) (n:Nat):sgM s n=(headsM s && wrM s.ar n):=by
 unfold sgM wrM
 rw [Sg.fold_eq]
 simp only [List.all_map]
 rfl
theorem S_inj {a b:List UInt8} (h:S a=S b):a=b:=by rw [← S_list a,h,S_list]
theorem ds2 {w:World} {b x:Nat} {ds es:List Value} (h1:ds.length=2) (h2:∀ j d,ds[j]?=some d→w.cell? ⟨b,x+j,none⟩=some d) (h3:es.length=2) (h4:∀ j d,es[j]?=some d→w.cell? ⟨b,x+j,none⟩=some d):ds=es:=by
 obtain ⟨d0,d1,rfl⟩:∃ a b,ds=[a,b]:=by match ds,h1 with | [a,b],_=>exact ⟨a,b,rfl⟩
 obtain ⟨e0,e1,rfl⟩:∃ a b,es=[a,b]:=by match es,h3 with | [a,b],_=>exact ⟨a,b,rfl⟩
 have a0:=(h2 0 d0 rfl).symm.trans (h4 0 e0 rfl)
 have a1:=(h2 1 d1 rfl).symm.trans (h4 1 e1 rfl)
 simp at a0 a1
 rw [a0,a1]
theorem SgIn_one {P:Nat→Prop} {w:World} (s:Sg):∀ {t:Sg} {cs:List Value},SgIn P w s cs→SgIn P w t cs→s=t:=by
 induction s using Sg.ind with
 | _ s ih=>
  intro t cs hs ht
  obtain ⟨pk,ck,e1,_,_,g1⟩:=(SgIn_iff _ _ _ _).1 hs
  obtain ⟨qk,dk,e2,_,_,g2⟩:=(SgIn_iff _ _ _ _).1 ht
  rw [e1] at e2
  simp at e2
  obtain ⟨hn,hp,hl,hc⟩:=e2
  obtain ⟨sn,sa⟩:=s
  obtain ⟨tn,ta⟩:=t
  simp only at *
  have:=S_inj hn
  subst this
  subst hp
  congr 1
  rcases g1 with g1 | ⟨b,o,hp,hb,hm⟩
  ·rw [g1] at hl ⊢
   exact (List.eq_nil_of_length_eq_zero hl.symm).symm
  rcases g2 with g2 | ⟨b',o',hp',hb',hm'⟩
  ·rw [g2] at hl ⊢
   simp at hl
   exact hl
  rw [hp] at hp'
  simp at hp'
  obtain ⟨rfl,rfl⟩:=hp'
  apply List.ext_getElem?
  intro i
  cases hq:sa[i]? with
  | none=>
   rw [List.getElem?_eq_none_iff] at hq
   exact (List.getElem?_eq_none (by omega)).symm
  | some x=>
   have hi:i<ta.length:=by have:=(List.getElem?_eq_some_iff.1 hq).1;omega
   rw [List.getElem?_eq_getElem hi]
   obtain ⟨ds,l1,c1,r1⟩:=hm i x hq
   obtain ⟨es,l2,c2,r2⟩:=hm' i ta[i] (List.getElem?_eq_getElem hi)
   have:=ds2 l1 c1 l2 c2
   subst this
   rw [ih x (List.mem_of_getElem? hq) r1 r2]
theorem GM_one {P:Nat→Prop} {w:World} {p:Option Addr} {l m:List Sg} (hl:GM P w p l) (hm:GM P w p m) (h:l.length=m.length) (hb:l.length≤9223372036854775807):l=m:=by
 rcases hl with g1 | ⟨b,o,hp,hb,hx⟩
 ·rw [g1] at h ⊢
  exact (List.eq_nil_of_length_eq_zero h.symm).symm
 rcases hm with g2 | ⟨b',o',hp',hb',hy⟩
 ·rw [g2] at h ⊢
  simp at h
  exact h
 rw [hp] at hp'
 simp at hp'
 obtain ⟨rfl,rfl⟩:=hp'
 apply List.ext_getElem?
 intro i
 cases hq:l[i]? with
 | none=>
  rw [List.getElem?_eq_none_iff] at hq
  exact (List.getElem?_eq_none (by omega)).symm
 | some x=>
  have hi:i<m.length:=by have:=(List.getElem?_eq_some_iff.1 hq).1;omega
  rw [List.getElem?_eq_getElem hi]
  obtain ⟨ds,l1,c1,r1⟩:=hx i x hq
  obtain ⟨es,l2,c2,r2⟩:=hy i m[i] (List.getElem?_eq_getElem hi)
  have:=ds2 l1 c1 l2 c2
  subst this
  rw [SgIn_one x r1 r2]
def PL (P:Nat→Prop) (w:World):Prop:=∀ b,P b→b<w.heap.size∧∃ cs t,w.heap[b]?=some (.cells cs t (0,0))
theorem PL.lt {P:Nat→Prop} {w:World} (h:PL P w):∀ b,P b→b<w.heap.size:=fun b hb=>(h b hb).1
theorem PL.below {P:Nat→Prop} {w w':World} {n:Nat} (h:PL P w) (hn:w.heap.size≤n) (hb:Below n w w'):PL P w':=fun b hPb=>by
 obtain ⟨h1,cs,t,h2⟩:=h b hPb
 exact ⟨Nat.lt_of_lt_of_le h1 hb.size,cs,t,(hb.block b (by omega)).trans h2⟩
theorem drew_more {w:World} {k f:Nat} {av:Array Value} {v:Value} (h:Calls Tryz.prog f av (w.drewN k) fun e w'=>e=.returned v∧∃ j,w'=(w.drewN k).drewN j):Calls Tryz.prog f av (w.drewN k) fun e w'=>e=.returned v∧∃ j,w'=w.drewN j:=
 h.mono fun e w' h=>⟨h.1,by obtain ⟨_,j,rfl⟩:=h;exact ⟨k+j,by simp⟩⟩
theorem same_any {P:Nat→Prop} {w:World} {p q:Option Addr} {l m:List Sg} {c d:Nat} (hP:PL P w) (hl:GM P w p l) (hm:GM P w q m) (h1:l.length≤9223372036854775807) (h2:m.length≤9223372036854775807) :
 ∃ r:Bool,(r=true→l=m)∧∀ k,Calls Tryz.prog 191 #[.slice p l.length c,.slice q m.length d] (w.drewN k) fun e w'=>e=.returned (.bool r)∧∃ k,w'=w.drewN k:=by
 by_cases hn:l.length=m.length
 ·rcases hl with rfl | ⟨b,o,rfl,hb,hx⟩
  ·have:m=[]:=List.eq_nil_of_length_eq_zero hn.symm
   subst this
   exact ⟨true,fun _=>rfl,fun k=>drew_more same_nil⟩
  ·rcases hm with rfl | ⟨b',o',rfl,hb',hy⟩
   ·have:l=[]:=List.eq_nil_of_length_eq_zero hn
    subst this
    exact ⟨true,fun _=>rfl,fun k=>drew_more same_nil⟩
   ·by_cases h0:l.length=0
    ·have e1:=List.eq_nil_of_length_eq_zero h0
     have e2:=List.eq_nil_of_length_eq_zero (hn.symm.trans h0)
     subst e1
     subst e2
     exact ⟨true,fun _=>rfl,fun k=>drew_more same_nil⟩
    ·obtain ⟨_,ca,ta,hca⟩:=hP b hb
     obtain ⟨_,cb,tb,hcb⟩:=hP b' hb'
     refine ⟨_,?_,fun k=>by rw [← hn];exact drew_more (same_at (w:=w.drewN k) hca hcb h1 (by omega))⟩
     intro hr
     have hr:=of_decide_eq_true hr
     simp at hr
     obtain ⟨rfl,rfl⟩:=hr
     exact GM_one (.inr ⟨b,o,rfl,hb,hx⟩) (.inr ⟨b,o,rfl,hb,hy⟩) hn h1
 ·exact ⟨false,(fun h=>by cases h),fun k=>drew_more (same_ne hn h1 h2)⟩
theorem written_any (n:Nat):∀ {P:Nat→Prop} {w:World} {p:Option Addr} {l:List Sg} {c:Nat},PL P w→GM P w p l→l.length≤9223372036854775807→n≤1000000 →
 Calls Tryz.prog 142 #[.slice p l.length c,.int .i64 n] w fun r w'=>r=.returned (.bool (wrM l n))∧Below w.heap.size w w':=by
 induction n with
 | zero=>
  intro P w p l c hP hM hl hn
  have HW:Hid (wrM l 0=decide (l.length=0)):=by
   show _=_
   unfold wrM
   by_cases h:l.length=0
   ·have:=List.eq_nil_of_length_eq_zero h
    subst this
    rfl
   ·simp [h]
  generalize wrM l 0=wv at *
  generalize l.length=m at *
  clear hM
  by_cases h0:m=0
  ·subst h0
   go_enter Tryz.func142,Tryz.ntmps142
   go_wp2_with fail
   go_loopg [21] 0 (fun k s21 wr=>s21=.int .i64 0∧wr=w)
   case atStart=>exact ⟨rfl,rfl⟩
   case round=>
    obtain ⟨rfl,rfl⟩:=hrel
    go_wp2_with fail
    go_ret
    exact ⟨by rw [HW.out];rfl,Below.refl _ _⟩
  ·have q1:(0:Int)<m:=by omega
   have HF:Hid (wv=false):=by show _=_;rw [HW.out];simp [h0]
   by_cases h40:(40:Int)<m
   ·go_enter Tryz.func142,Tryz.ntmps142
    go_wp2_with fail
    go_ret
    exact ⟨by rw [HF.out];rfl,Below.refl _ _⟩
   ·go_enter Tryz.func142,Tryz.ntmps142
    go_wp2_with fail
    go_ret
    exact ⟨by rw [HF.out];rfl,Below.refl _ _⟩
 | succ n ih=>
  intro P w p l c hP hM hl hn
  have HIH:=zz fun (Q:Nat→Prop) (W:World) (q:Option Addr) (l':List Sg) (c':Nat)=>@ih Q W q l' c'
  have HM:=zz hM
  have HPL:=zz hP
  have hni:((n+1:Nat):Int) - 1=n:=by omega
  have hn0:¬ ((n+1:Nat):Int)=0:=by omega
  have hn1:(((n+1:Nat):Int) == 0)=false:=by simp;omega
  have HW:Hid (wrM l (n+1)=(decide (l.length≤40) && l.all fun s=>sgM s n)):=by show _=_;unfold wrM;simp
  generalize hm:l.length=m at *
  have HLM:=zz hm
  clear ih hM hP hm
  by_cases h40:m≤40
  ·have q1:¬ (40:Int)<m:=by omega
   generalize hN:((n+1:Nat):Int)=N at *
   have q2:(N == 0)=false:=hn1
   go_enter Tryz.func142,Tryz.ntmps142
   by_cases h0:m=0
   ·have HT:Hid (wrM l (n+1)=true):=by
     show _=_
     have:l=[]:=List.eq_nil_of_length_eq_zero (by rw [HLM.out];exact h0)
     rw [HW.out,this];simp [h0]
    subst h0
    go_wp2_with fail
    go_loopg [21] 0 (fun k s21 wr=>s21=.int .i64 0∧wr=w)
    case atStart=>exact ⟨rfl,rfl⟩
    case round=>
     obtain ⟨rfl,rfl⟩:=hrel
     go_wp2_with fail
     go_ret
     exact ⟨by rw [HT.out];rfl,Below.refl _ _⟩
   have q3:(0:Int)<m:=by omega
   go_wp2_with fail
   go_loopg [21] m (fun k s21 wr=>∃ i:Nat,i≤m∧k=m - i∧s21=.int .i64 i∧Below w.heap.size w wr∧(l.take i).all (fun s=>sgM s n)=true)
   case atStart=>exact ⟨0,Nat.zero_le _,by omega,rfl,Below.refl _ _,rfl⟩
   case round=>
    obtain ⟨i,hi1,rfl,rfl,hbr,hall⟩:=hrel
    have HBR:=zz hbr
    have HALL:=zz hall
    by_cases hlt:i<m
    ·have hil:i<l.length:=by rw [HLM.out];exact hlt
     rcases HM.out with he | ⟨b,o,rfl,hPb,hma⟩
     ·rw [he] at hil;simp at hil
     obtain ⟨ds,l1,c1,r1⟩:=hma i l[i] (by simp)
     obtain ⟨qk,dk,rfl,hz,hsl,hG⟩:=(SgIn_iff _ _ _ _).1 r1
     have hbb:=HPL.out b hPb
     have a0:wr.cell? ⟨b,o+i * 2,none⟩=some (.string (S l[i].nm)):=(hbr.cell (p:=⟨b,o+i * 2,none⟩) hbb.1).trans (c1 0 _ rfl)
     have a1:wr.cell? ⟨b,o+i * 2+1,none⟩=some (.slice qk l[i].ar.length dk):=(hbr.cell (p:=⟨b,o+i * 2+1,none⟩) hbb.1).trans (c1 1 _ rfl)
     have hii:(i:Int)<m:=by omega
     have hHS:=fun W=>heads_any (s:=l[i]) (pk:=qk) (ck:=dk) (w:=W) hz (Nat.le_trans hsl.1 hsl.2.1)
     have hWR:=fun W (hb:Below w.heap.size w W)=>HIH.out P W qk l[i].ar dk (HPL.out.below (Nat.le_refl _) hb) (hG.keep (KP.of_below hb HPL.out.lt) fun b hb=>hb) (Nat.le_trans hsl.1 hsl.2.1) (by omega)
     have htk:l.take (i+1)=l.take i ++ [l[i]]:=List.take_succ_eq_append_getElem hil
     have hmem:l[i] ∈ l:=by simp
     have hnal:=Nat.le_trans hsl.1 hsl.2.1
     have hbw:b<wr.heap.size:=Nat.lt_of_lt_of_le hbb.1 hbr.size
     have hne:¬ b=wr.heap.size:=by omega
     have hsz:w.heap.size≤wr.heap.size:=hbr.size
     have HSZ:=zz hsz
     have HG:=zz hG
     have HZ:=zz hz
     cases i with
     | zero=>
      generalize l[0]=s at *
      generalize hna:s.ar.length=na at *
      have HNA:=zz hna
      have HH:=zz hHS
      have HWR:=zz hWR
      have HTK:=zz htk
      have HMEM:=zz hmem
      clear hHS hWR htk hmem hbr hall hma r1 hG hsl c1 l1 hz hna hbb hsz
      simp only [Nat.zero_mul,Nat.add_zero] at a0 a1
      go_wp2_with fail
      go_quiet (fail)
      go_wp2_with fail
      refine (HH.out _).mono ?_
      rintro r w1 ⟨rfl,hb1⟩
      have hBa:=HBR.out.alloc HSZ.out (.cells #[.string (S s.nm),.slice qk na dk] 175)
      have hBd:Below w.heap.size w ((wr.alloc (.cells #[.string (S s.nm),.slice qk na dk] 175)).drewN nq):=⟨hBa.os,hBa.tape,hBa.output,hBa.size,hBa.block⟩
      have hB1:Below w.heap.size w w1:=hBd.trans (hb1.mono hBd.size)
      have hH1:Hold wr.heap.size #[.string (S s.nm),.slice qk na dk] 175 w1:=Hold.below (W:=(wr.alloc (.cells #[.string (S s.nm),.slice qk na dk] 175)).drewN nq) (Hold.new wr _ 175) hb1 (by simp)
      have e1:=hH1.cell 1
      simp only [lGA,lGS,lGZ,Nat.zero_add] at e1
      have HB1:=zz hB1
      clear hB1 hH1 hb1 hBa hBd
      cases hh:headsM s
      ·have HF:Hid (wrM l (n+1)=false):=by
        show _=_
        rw [HW.out]
        have:(l.all fun s=>sgM s n)=false:=by
         rw [List.all_eq_false]
         exact ⟨s,HMEM.out,by rw [sgM_eq,hh];simp⟩
        rw [this];simp
       clear hh
       go_wp2_with fail
       go_ret
       exact ⟨by rw [HF.out];rfl,HB1.out⟩
      ·have HHT:=zz hh
       clear hh
       go_wp2_with fail
       refine (HWR.out w1 HB1.out).mono ?_
       rintro r w2 ⟨rfl,hb2⟩
       have HB2:=zz (HB1.out.trans (hb2.mono HB1.out.size))
       clear hb2
       cases hw:wrM s.ar n
       ·have HF:Hid (wrM l (n+1)=false):=by
         show _=_
         rw [HW.out]
         have:(l.all fun s=>sgM s n)=false:=by
          rw [List.all_eq_false]
          exact ⟨s,HMEM.out,by rw [sgM_eq,hw];simp⟩
         rw [this];simp
        clear hw
        go_wp2_with fail
        go_ret
        exact ⟨by rw [HF.out];rfl,HB2.out⟩
       ·have HWT:=zz hw
        clear hw
        go_wp2_with fail
        go_roundg (m - (0+1))
        case measure=>omega
        case rel=>
         refine ⟨0+1,by omega,rfl,by go_num,HB2.out,?_⟩
         rw [HTK.out,List.all_append,HALL.out]
         simp [sgM_eq,HHT.out,HWT.out]
     | succ j=>
      have hjl:j<l.length:=by omega
      obtain ⟨es,l2,c2,r2⟩:=hma j l[j] (by simp)
      obtain ⟨pk',ck',rfl,hz2,hsl2,hG2⟩:=(SgIn_iff _ _ _ _).1 r2
      have b0:wr.cell? ⟨b,o+j * 2,none⟩=some (.string (S l[j].nm)):=(hbr.cell (p:=⟨b,o+j * 2,none⟩) hbb.1).trans (c2 0 _ rfl)
      have b1:wr.cell? ⟨b,o+j * 2+1,none⟩=some (.slice pk' l[j].ar.length ck'):=(hbr.cell (p:=⟨b,o+j * 2+1,none⟩) hbb.1).trans (c2 1 _ rfl)
      have hji:((j+1:Nat):Int) - 1=(j:Int):=by omega
      have hjlt:j<m:=by omega
      have hmj:sgM l[j] n=true:=by
       have h:=HALL.out
       rw [List.all_eq_true] at h
       exact h _ (List.mem_take_iff_getElem.2 ⟨j,by omega,rfl⟩)
      have hnal2:=Nat.le_trans hsl2.1 hsl2.2.1
      by_cases hnm:l[j+1].nm=l[j].nm
      ·have hnq:((S l[j+1].nm).toList == (S l[j].nm).toList)=true:=by rw [S_list,S_list,hnm];simp
       have hBn:=hbr.alloc hsz (.cells #[.string (S l[j+1].nm),.slice qk l[j+1].ar.length dk] 175)
       obtain ⟨rr,hrr,hSC⟩:=same_any (c:=dk) (d:=ck') (HPL.out.below (Nat.le_refl _) hBn) (hG.keep (KP.of_below hBn HPL.out.lt) fun b hb=>hb) (hG2.keep (KP.of_below hBn HPL.out.lt) fun b hb=>hb) hnal hnal2
       have HSC:=zz hSC
       clear hSC hBn
       have hres:rr=true→sgM l[j+1] n=true:=fun h=>by
        rw [← hmj,sgM_eq,sgM_eq,hrr h]
        congr 1
        unfold headsM
        rw [hnm,hrr h]
       have HRES:=zz hres
       clear hres hrr
       generalize l[j+1]=s at *
       generalize l[j]=v at *
       generalize hna:s.ar.length=na at *
       have HNA:=zz hna
       have HH:=zz hHS
       have HWR:=zz hWR
       have HTK:=zz htk
       have HMEM:=zz hmem
       clear hHS hWR htk hmem hbr hall hma r1 hG hsl c1 l1 hz hna hbb hsz r2 c2 l2 hG2 hsl2 hz2 hmj hnm
       cases rr with
       | false=>
        go_wp2_with fail
        go_quiet (exact HSC.out _)
        go_wp2_with fail
        refine (HH.out _).mono ?_
        rintro r w1 ⟨rfl,hb1⟩
        have hBa:=HBR.out.alloc HSZ.out (.cells #[.string (S s.nm),.slice qk na dk] 175)
        have hBd:Below w.heap.size w ((wr.alloc (.cells #[.string (S s.nm),.slice qk na dk] 175)).drewN nq):=⟨hBa.os,hBa.tape,hBa.output,hBa.size,hBa.block⟩
        have hB1:Below w.heap.size w w1:=hBd.trans (hb1.mono hBd.size)
        have hH1:Hold wr.heap.size #[.string (S s.nm),.slice qk na dk] 175 w1:=Hold.below (W:=(wr.alloc (.cells #[.string (S s.nm),.slice qk na dk] 175)).drewN nq) (Hold.new wr _ 175) hb1 (by simp)
        have e1:=hH1.cell 1
        simp only [lGA,lGS,lGZ,Nat.zero_add] at e1
        have HB1:=zz hB1
        clear hB1 hH1 hb1 hBa hBd
        cases hh:headsM s
        ·have HF:Hid (wrM l (n+1)=false):=by
          show _=_
          rw [HW.out]
          have:(l.all fun s=>sgM s n)=false:=by
           rw [List.all_eq_false]
           exact ⟨s,HMEM.out,by rw [sgM_eq,hh];simp⟩
          rw [this];simp
         clear hh
         go_wp2_with fail
         go_ret
         exact ⟨by rw [HF.out];rfl,HB1.out⟩
        ·have HHT:=zz hh
         clear hh
         go_wp2_with fail
         refine (HWR.out w1 HB1.out).mono ?_
         rintro r w2 ⟨rfl,hb2⟩
         have HB2:=zz (HB1.out.trans (hb2.mono HB1.out.size))
         clear hb2
         cases hw:wrM s.ar n
         ·have HF:Hid (wrM l (n+1)=false):=by
           show _=_
           rw [HW.out]
           have:(l.all fun s=>sgM s n)=false:=by
            rw [List.all_eq_false]
            exact ⟨s,HMEM.out,by rw [sgM_eq,hw];simp⟩
           rw [this];simp
          clear hw
          go_wp2_with fail
          go_ret
          exact ⟨by rw [HF.out];rfl,HB2.out⟩
         ·have HWT:=zz hw
          clear hw
          go_wp2_with fail
          go_roundg (m - (j+1+1))
          case measure=>omega
          case rel=>
           refine ⟨j+1+1,by omega,rfl,by go_num,HB2.out,?_⟩
           rw [HTK.out,List.all_append,HALL.out]
           simp [sgM_eq,HHT.out,HWT.out]
       | true=>
        have HRT:=zz (HRES.out rfl)
        go_wp2_with fail
        go_quiet (exact HSC.out _)
        have hBa:=HBR.out.alloc HSZ.out (.cells #[.string (S s.nm),.slice qk na dk] 175)
        have hBd:Below w.heap.size w ((wr.alloc (.cells #[.string (S s.nm),.slice qk na dk] 175)).drewN nq):=⟨hBa.os,hBa.tape,hBa.output,hBa.size,hBa.block⟩
        have HBD:=zz hBd
        clear hBa hBd
        go_wp2_with fail
        go_roundg (m - (j+1+1))
        case measure=>omega
        case rel=>
         refine ⟨j+1+1,by omega,rfl,by go_num,HBD.out,?_⟩
         rw [HTK.out,List.all_append,HALL.out]
         simp [HRT.out]
      ·have hnq:((S l[j+1].nm).toList == (S l[j].nm).toList)=false:=by rw [S_list,S_list];simpa using hnm
       generalize l[j+1]=s at *
       generalize l[j]=v at *
       generalize hna:s.ar.length=na at *
       have HNA:=zz hna
       have HH:=zz hHS
       have HWR:=zz hWR
       have HTK:=zz htk
       have HMEM:=zz hmem
       clear hHS hWR htk hmem hbr hall hma r1 hG hsl c1 l1 hz hna hbb hsz r2 c2 l2 hG2 hsl2 hz2 hmj hnm
       go_wp2_with fail
       go_quiet (fail)
       go_wp2_with fail
       refine (HH.out _).mono ?_
       rintro r w1 ⟨rfl,hb1⟩
       have hBa:=HBR.out.alloc HSZ.out (.cells #[.string (S s.nm),.slice qk na dk] 175)
       have hBd:Below w.heap.size w ((wr.alloc (.cells #[.string (S s.nm),.slice qk na dk] 175)).drewN nq):=⟨hBa.os,hBa.tape,hBa.output,hBa.size,hBa.block⟩
       have hB1:Below w.heap.size w w1:=hBd.trans (hb1.mono hBd.size)
       have hH1:Hold wr.heap.size #[.string (S s.nm),.slice qk na dk] 175 w1:=Hold.below (W:=(wr.alloc (.cells #[.string (S s.nm),.slice qk na dk] 175)).drewN nq) (Hold.new wr _ 175) hb1 (by simp)
       have e1:=hH1.cell 1
       simp only [lGA,lGS,lGZ,Nat.zero_add] at e1
       have HB1:=zz hB1
       clear hB1 hH1 hb1 hBa hBd
       cases hh:headsM s
       ·have HF:Hid (wrM l (n+1)=false):=by
         show _=_
         rw [HW.out]
         have:(l.all fun s=>sgM s n)=false:=by
          rw [List.all_eq_false]
          exact ⟨s,HMEM.out,by rw [sgM_eq,hh];simp⟩
         rw [this];simp
        clear hh
        go_wp2_with fail
        go_ret
        exact ⟨by rw [HF.out];rfl,HB1.out⟩
       ·have HHT:=zz hh
        clear hh
        go_wp2_with fail
        refine (HWR.out w1 HB1.out).mono ?_
        rintro r w2 ⟨rfl,hb2⟩
        have HB2:=zz (HB1.out.trans (hb2.mono HB1.out.size))
        clear hb2
        cases hw:wrM s.ar n
        ·have HF:Hid (wrM l (n+1)=false):=by
          show _=_
          rw [HW.out]
          have:(l.all fun s=>sgM s n)=false:=by
           rw [List.all_eq_false]
           exact ⟨s,HMEM.out,by rw [sgM_eq,hw];simp⟩
          rw [this];simp
         clear hw
         go_wp2_with fail
         go_ret
         exact ⟨by rw [HF.out];rfl,HB2.out⟩
        ·have HWT:=zz hw
         clear hw
         go_wp2_with fail
         go_roundg (m - (j+1+1))
         case measure=>omega
         case rel=>
          refine ⟨j+1+1,by omega,rfl,by go_num,HB2.out,?_⟩
          rw [HTK.out,List.all_append,HALL.out]
          simp [sgM_eq,HHT.out,HWT.out]
    ·have h1:l.take i=l:=List.take_of_length_le (by rw [HLM.out];omega)
     have HT:Hid (wrM l (n+1)=true):=by show _=_;rw [HW.out,← h1,HALL.out];simp [h40]
     have hii:¬ (i:Int)<m:=by omega
     clear h1 hall hbr
     go_wp2_with fail
     go_ret
     exact ⟨by rw [HT.out];rfl,HBR.out⟩
  ·have q1:(40:Int)<m:=by omega
   have HF:Hid (wrM l (n+1)=false):=by show _=_;rw [HW.out];simp [h40]
   generalize ((n+1:Nat):Int)=N at *
   go_enter Tryz.func142,Tryz.ntmps142
   go_wp2_with fail
   go_ret
   exact ⟨by rw [HF.out];rfl,Below.refl _ _⟩
def formM (f:Fm):Bool:=cn f.nm && wrM f.ar 30
def dataM (d:Dt):Bool:=cn d.nm && namesM d.ps && !decide (d.fs.length=0) && decide (d.fs.length≤40) && d.fs.all formM
theorem data_any {P:Nat→Prop} {w:World} {d:Dt} {pp:Option Addr} {cp:Nat} {pf:Option Addr} {cf:Nat} (hP:PL P w) (hE:DtIn P w d [.string (S d.nm),.slice pp d.ps.length cp,.slice pf d.fs.length cf]) :
 Calls Tryz.prog 77 #[.agg #[.string (S d.nm),.slice pp d.ps.length cp,.slice pf d.fs.length cf]] w fun r w'=>r=.returned (.bool (dataM d))∧Below w.heap.size w w':=by
 obtain ⟨pp',cp',pf',cf',hcs,hz,hs1,hs2,hSM,hRM⟩:=hE
 simp at hcs
 obtain ⟨⟨rfl,rfl⟩,rfl,rfl⟩:=hcs
 have hpl:=Nat.le_trans hs1.1 hs1.2.1
 have hfl:=Nat.le_trans hs2.1 hs2.2.1
 have HC:=zz fun W=>con_any d.nm W hz
 have HN:=zz fun W (hb:Below w.heap.size w W)=>names_any (c:=cp) (w:=W) hpl (fun b hb'=>Nat.lt_of_lt_of_le (hP.lt b hb') hb.size) (hSM.keep (KP.of_below hb hP.lt))
 have HRM:=zz hRM
 have HPL:=zz hP
 have hB0:Below w.heap.size w (w.alloc (.cells #[.string (S d.nm),.slice pp d.ps.length cp,.slice pf d.fs.length cf] 77)):=(Below.refl _ w).alloc (Nat.le_refl _) _
 have hW:Hold w.heap.size #[.string (S d.nm),.slice pp d.ps.length cp,.slice pf d.fs.length cf] 77 (w.alloc (.cells #[.string (S d.nm),.slice pp d.ps.length cp,.slice pf d.fs.length cf] 77)):=Hold.new w _ 77
 have HB0:=zz hB0
 have HHW:=zz hW
 have HD:Hid (dataM d=(cn d.nm && namesM d.ps && !decide (d.fs.length=0) && decide (d.fs.length≤40) && d.fs.all formM)):=rfl
 clear hSM hRM hP hB0 hW hs1 hs2 hz
 generalize hnf:d.fs.length=nf at *
 have HNF:=zz hnf
 generalize hdp:d.ps.length=np at *
 have HNP:=zz hdp
 clear hnf hdp
 generalize S d.nm=sn at *
 cases hc:cn d.nm
 ·rw [hc] at HC HD
  have HF:Hid (dataM d=false):=by show _=_;rw [HD.out];simp
  clear hc
  go_enter Tryz.func77,Tryz.ntmps77
  go_wp2_with fail
  refine (HC.out _).mono ?_
  rintro r w1 ⟨rfl,rfl⟩
  go_wp2_with fail
  go_ret
  exact ⟨by rw [HF.out];rfl,HB0.out⟩
 ·rw [hc] at HC HD
  clear hc
  go_enter Tryz.func77,Tryz.ntmps77
  go_wp2_with fail
  refine (HC.out _).mono ?_
  rintro r w1 ⟨rfl,rfl⟩
  go_wp2_with fail
  refine (HN.out _ HB0.out).mono ?_
  rintro r w1 ⟨rfl,hb1⟩
  have hB1:=HB0.out.trans (hb1.mono HB0.out.size)
  have hH1:=HHW.out.below hb1 (by simp)
  have c2:=hH1.cell 2
  simp only [lGA,lGS,lGZ,Nat.zero_add] at c2
  have HB1:=zz hB1
  clear hb1 hB1 hH1
  cases hn:namesM d.ps
  ·rw [hn] at HD
   have HF:Hid (dataM d=false):=by show _=_;rw [HD.out];simp
   clear hn
   go_wp2_with fail
   go_ret
   exact ⟨by rw [HF.out];rfl,HB1.out⟩
  ·rw [hn] at HD
   clear hn
   by_cases h0:nf=0
   ·subst h0
    have HF:Hid (dataM d=false):=by show _=_;rw [HD.out];simp
    go_wp2_with fail
    go_ret
    exact ⟨by rw [HF.out];rfl,HB1.out⟩
   have q0:¬ (nf:Int)=0:=by omega
   have q0b:((nf:Int) == 0)=false:=by simp;omega
   by_cases h40:nf≤40
   ·have q1:¬ (40:Int)<nf:=by omega
    have q2:(0:Int)<nf:=by omega
    have HD2:Hid (dataM d=d.fs.all formM):=by show _=_;rw [HD.out];simp [h0,h40]
    go_wp2_with fail
    go_loopg [30] nf (fun k s30 wr=>∃ i:Nat,i≤nf∧k=nf - i∧s30=.int .i64 i∧Below w.heap.size w wr∧(d.fs.take i).all formM=true)
    case atStart=>exact ⟨0,Nat.zero_le _,by omega,rfl,HB1.out,rfl⟩
    case round=>
     obtain ⟨i,hi1,rfl,rfl,hbr,hall⟩:=hrel
     have HBR:=zz hbr
     have HALL:=zz hall
     by_cases hlt:i<nf
     ·have hil:i<d.fs.length:=by rw [HNF.out];exact hlt
      rcases HRM.out with he | ⟨b,o,rfl,hPb,hma⟩
      ·rw [he] at hil;simp at hil
      obtain ⟨ds,l1,c1,r1⟩:=hma i d.fs[i] (by simp)
      obtain ⟨qk,dk,rfl,hz,hsl,hG⟩:=r1
      have hbb:=HPL.out b hPb
      have a0:wr.cell? ⟨b,o+i * 2,none⟩=some (.string (S d.fs[i].nm)):=(hbr.cell (p:=⟨b,o+i * 2,none⟩) hbb.1).trans (c1 0 _ rfl)
      have a1:wr.cell? ⟨b,o+i * 2+1,none⟩=some (.slice qk d.fs[i].ar.length dk):=(hbr.cell (p:=⟨b,o+i * 2+1,none⟩) hbb.1).trans (c1 1 _ rfl)
      have hii:(i:Int)<nf:=by omega
      have hCF:=fun W=>con_any d.fs[i].nm W hz
      have hWR:=fun W (hb:Below w.heap.size w W)=>written_any 30 (w:=W) (c:=dk) (HPL.out.below (Nat.le_refl _) hb) (hG.keep (KP.of_below hb HPL.out.lt) fun b hb=>hb) (Nat.le_trans hsl.1 hsl.2.1) (by omega)
      have htk:d.fs.take (i+1)=d.fs.take i ++ [d.fs[i]]:=List.take_succ_eq_append_getElem hil
      have hmem:d.fs[i] ∈ d.fs:=by simp
      have hsz:w.heap.size≤wr.heap.size:=hbr.size
      have HSZ:=zz hsz
      generalize d.fs[i]=f at *
      generalize f.ar.length=na at *
      have HCF:=zz hCF
      have HWR:=zz hWR
      have HTK:=zz htk
      have HMEM:=zz hmem
      have hBa:=hbr.alloc hsz (.cells #[.string (S f.nm),.slice qk na dk] 121)
      have HBA:=zz hBa
      clear hCF hWR htk hmem hbr hall hma hG hsl c1 l1 hz hbb hsz hBa
      cases hcf:cn f.nm
      ·have HF:Hid (dataM d=false):=by
        show _=_
        rw [HD2.out,List.all_eq_false]
        exact ⟨f,HMEM.out,by unfold formM;rw [hcf];simp⟩
       rw [hcf] at HCF
       clear hcf
       go_wp2_with fail
       refine (HCF.out _).mono ?_
       rintro r w2 ⟨rfl,rfl⟩
       go_wp2_with fail
       go_ret
       exact ⟨by rw [HF.out];rfl,HBA.out⟩
      ·have HCT:=zz hcf
       rw [hcf] at HCF
       clear hcf
       go_wp2_with fail
       refine (HCF.out _).mono ?_
       rintro r w2 ⟨rfl,rfl⟩
       go_wp2_with fail
       refine (HWR.out _ HBA.out).mono ?_
       rintro r w2 ⟨rfl,hb2⟩
       have HB2:=zz (HBA.out.trans (hb2.mono HBA.out.size))
       clear hb2
       cases hw:wrM f.ar 30
       ·have HF:Hid (dataM d=false):=by
         show _=_
         rw [HD2.out,List.all_eq_false]
         exact ⟨f,HMEM.out,by unfold formM;rw [hw];simp⟩
        clear hw
        go_wp2_with fail
        go_ret
        exact ⟨by rw [HF.out];rfl,HB2.out⟩
       ·have HWT:=zz hw
        clear hw
        go_wp2_with fail
        go_roundg (nf - (i+1))
        case measure=>omega
        case rel=>
         refine ⟨i+1,by omega,rfl,by go_num,HB2.out,?_⟩
         rw [HTK.out,List.all_append,HALL.out]
         simp [formM,HCT.out,HWT.out]
     ·have h1:d.fs.take i=d.fs:=List.take_of_length_le (by rw [HNF.out];omega)
      have HT:Hid (dataM d=true):=by show _=_;rw [HD2.out,← h1,HALL.out]
      have hii:¬ (i:Int)<nf:=by omega
      clear h1 hall hbr
      go_wp2_with fail
      go_ret
      exact ⟨by rw [HT.out];rfl,HBR.out⟩
   ·have q1:(40:Int)<nf:=by omega
    have HF:Hid (dataM d=false):=by show _=_;rw [HD.out];simp [h40]
    go_wp2_with fail
    go_ret
    exact ⟨by rw [HF.out];rfl,HB1.out⟩
def defM (d:Df):Bool:=nm d.nm && checkM d.bd
def progM (p:Pg):Bool:=decide (p.ds.length≤40) && decide (p.fs.length≤40) && p.ds.all dataM && p.fs.all defM
def PgIn2 (Q P:Nat→Prop) (w:World) (p:Pg) (cs:List Value):Prop:=∃ pd cd pf cf,cs=[.slice pd p.ds.length cd,.slice pf p.fs.length cf]∧SlOK pd p.ds.length cd∧SlOK pf p.fs.length cf∧RM 3 Q w (DtIn Q w) pd p.ds∧RM 6 P w (DfIn P w) pf p.fs
theorem PgIn2.keep {Q P:Nat→Prop} {w w':World} (kq:KP Q w w') (kp:KP P w w') (f:Pg) (cs:List Value) (h:PgIn2 Q P w f cs):PgIn2 Q P w' f cs:=by
 obtain ⟨pp,cp,pf,cf,h1,h2,h3,h4,h5⟩:=h
 exact ⟨pp,cp,pf,cf,h1,h2,h3,h4.keep kq (fun b hb=>hb) (DtIn.keep kq (fun b hb=>hb)),h5.keep kp (fun b hb=>hb) (DfIn.keep kp (fun b hb=>hb))⟩
theorem PgIn2.join {Q P R:Nat→Prop} {w w':World} (kq:KP Q w w') (kp:KP P w w') (hq:∀ b,Q b→R b) (hp:∀ b,P b→R b) (f:Pg) (cs:List Value) (h:PgIn2 Q P w f cs):PgIn R w' f cs:=by
 obtain ⟨pp,cp,pf,cf,h1,h2,h3,h4,h5⟩:=h
 exact ⟨pp,cp,pf,cf,h1,h2,h3,h4.keep kq hq (DtIn.keep kq hq),h5.keep kp hp (DfIn.keep kp hp)⟩
theorem tprog_any2 {Q P:Nat→Prop} {w:World} {p:Pg} {pd:Option Addr} {cd:Nat} {pf:Option Addr} {cf:Nat} (hQ:PL Q w) (hP:∀ b,P b→b<w.heap.size) (hE:PgIn2 Q P w p [.slice pd p.ds.length cd,.slice pf p.fs.length cf]) (hD:∀ d ∈ p.fs,∀ x ∈ po d.bd 1,x.1≤1000000∧x.2.ks.length≤1000000) :
 Calls Tryz.prog 35 #[.agg #[.slice pd p.ds.length cd,.slice pf p.fs.length cf]] w fun r w'=>r=.returned (.bool (progM p))∧Below w.heap.size w w':=by
 obtain ⟨pp',cp',pf',cf',hcs,hs1,hs2,hRD,hRF⟩:=hE
 simp at hcs
 obtain ⟨⟨rfl,rfl⟩,rfl,rfl⟩:=hcs
 have hdl:=Nat.le_trans hs1.1 hs1.2.1
 have hfl:=Nat.le_trans hs2.1 hs2.2.1
 have HRD:=zz hRD
 have HRF:=zz hRF
 have HPL:=zz hQ
 have HP0:=zz hP
 have HDD:=zz hD
 have hB0:Below w.heap.size w (w.alloc (.cells #[.slice pd p.ds.length cd,.slice pf p.fs.length cf] 38)):=(Below.refl _ w).alloc (Nat.le_refl _) _
 have hW:Hold w.heap.size #[.slice pd p.ds.length cd,.slice pf p.fs.length cf] 38 (w.alloc (.cells #[.slice pd p.ds.length cd,.slice pf p.fs.length cf] 38)):=Hold.new w _ 38
 have HB0:=zz hB0
 have HHW:=zz hW
 have HD:Hid (progM p=(decide (p.ds.length≤40) && decide (p.fs.length≤40) && p.ds.all dataM && p.fs.all defM)):=rfl
 clear hRD hRF hP hQ hB0 hW hs1 hs2 hD
 generalize hnf:p.fs.length=nf at *
 have HNF:=zz hnf
 generalize hdp:p.ds.length=nd at *
 have HND:=zz hdp
 clear hnf hdp
 by_cases hd:¬ nd≤40
 ·have HF:Hid (progM p=false):=by show _=_;rw [HD.out];simp [hd]
  have q:(40:Int)<nd:=by omega
  go_enter Tryz.func35,Tryz.ntmps35
  go_wp2_with fail
  go_ret
  exact ⟨by rw [HF.out];rfl,HB0.out⟩
 replace hd:nd≤40:=by omega
 by_cases hf:¬ nf≤40
 ·have HF:Hid (progM p=false):=by show _=_;rw [HD.out];simp [hf]
  have q:¬ (40:Int)<nd:=by omega
  have q2:(40:Int)<nf:=by omega
  go_enter Tryz.func35,Tryz.ntmps35
  go_wp2_with fail
  go_ret
  exact ⟨by rw [HF.out];rfl,HB0.out⟩
 replace hf:nf≤40:=by omega
 have HD2:Hid (progM p=(p.ds.all dataM && p.fs.all defM)):=by show _=_;rw [HD.out];simp [hd,hf]
 have q:¬ (40:Int)<nd:=by omega
 have q2:¬ (40:Int)<nf:=by omega
 go_enter Tryz.func35,Tryz.ntmps35
 go_wp2_with fail
 go_loopg [20] nd (fun k s20 wr=>∃ i:Nat,i≤nd∧k=nd - i∧s20=.int .i64 i∧Below (w.heap.size+1) (w.alloc (.cells #[.slice pd nd cd,.slice pf nf cf] 38)) wr∧(p.ds.take i).all dataM=true)
 case atStart=>exact ⟨0,Nat.zero_le _,by omega,rfl,Below.refl _ _,rfl⟩
 case round=>
  obtain ⟨i,hi1,rfl,rfl,hbr,hall⟩:=hrel
  have HBR:=zz hbr
  have HALL:=zz hall
  have hbw:Below w.heap.size w wr:=HB0.out.trans (hbr.mono (by omega))
  have hsz1:w.heap.size+1≤wr.heap.size:=by have:=hbr.size;simpa using this
  by_cases hlt:i<nd
  ·have hil:i<p.ds.length:=by rw [HND.out];exact hlt
   rcases HRD.out with he | ⟨b,o,rfl,hPb,hma⟩
   ·rw [he] at hil;simp at hil
   obtain ⟨ds,l1,c1,r1⟩:=hma i p.ds[i] (by simp)
   obtain ⟨qp,dp,qf,df,rfl,hz,hs1,hs2,hSM,hRM⟩:=r1
   have hbb:=HPL.out b hPb
   have a0:=(hbw.cell (p:=⟨b,o+i * 3,none⟩) hbb.1).trans (c1 0 _ rfl)
   have a1:=(hbw.cell (p:=⟨b,o+i * 3+1,none⟩) hbb.1).trans (c1 1 _ rfl)
   have a2:=(hbw.cell (p:=⟨b,o+i * 3+2,none⟩) hbb.1).trans (c1 2 _ rfl)
   have hii:(i:Int)<nd:=by omega
   have hDA:=fun W (hb:Below w.heap.size w W)=>data_any (w:=W) (HPL.out.below (Nat.le_refl _) hb) (DtIn.keep (Q:=Q) (KP.of_below hb HPL.out.lt) (fun b hb=>hb) p.ds[i] _ ⟨qp,dp,qf,df,rfl,hz,hs1,hs2,hSM,hRM⟩)
   have htk:p.ds.take (i+1)=p.ds.take i ++ [p.ds[i]]:=List.take_succ_eq_append_getElem hil
   have hmem:p.ds[i] ∈ p.ds:=by simp
   generalize p.ds[i]=d at *
   generalize d.ps.length=np at *
   generalize d.fs.length=nff at *
   have HDA:=zz hDA
   have HTK:=zz htk
   have HMEM:=zz hmem
   have hBa:=hbw.alloc hbw.size (.cells #[.string (S d.nm),.slice qp np dp,.slice qf nff df] 77)
   have hBb:=hbr.alloc hsz1 (.cells #[.string (S d.nm),.slice qp np dp,.slice qf nff df] 77)
   have HBA:=zz hBa
   have HBB:=zz hBb
   clear hDA htk hmem hbr hall hma hSM hRM hs1 hs2 c1 l1 hz hbb hBa hBb hbw
   cases hdm:dataM d
   ·have HF:Hid (progM p=false):=by
     show _=_
     rw [HD2.out]
     have:p.ds.all dataM=false:=by rw [List.all_eq_false];exact ⟨d,HMEM.out,by simp [hdm]⟩
     rw [this];rfl
    rw [hdm] at HDA
    clear hdm
    go_wp2_with fail
    refine (HDA.out _ HBA.out).mono ?_
    rintro r w2 ⟨rfl,hb2⟩
    have HB2:=zz (HBA.out.trans (hb2.mono HBA.out.size))
    clear hb2
    go_wp2_with fail
    go_ret
    exact ⟨by rw [HF.out];rfl,HB2.out⟩
   ·have HDT:=zz hdm
    rw [hdm] at HDA
    clear hdm
    go_wp2_with fail
    refine (HDA.out _ HBA.out).mono ?_
    rintro r w2 ⟨rfl,hb2⟩
    have HB2:=zz (HBB.out.trans (hb2.mono (by have:=HBB.out.size;simp at this ⊢;omega)))
    clear hb2
    go_wp2_with fail
    go_roundg (nd - (i+1))
    case measure=>omega
    case rel=>
     refine ⟨i+1,by omega,rfl,by go_num,HB2.out,?_⟩
     rw [HTK.out,List.all_append,HALL.out]
     simp [HDT.out]
  ·have h1:p.ds.take i=p.ds:=List.take_of_length_le (by rw [HND.out];omega)
   have HDT:Hid (p.ds.all dataM=true):=by show _=_;rw [← h1];exact HALL.out
   have hii:¬ (i:Int)<nd:=by omega
   have hH1:=HHW.out.below hbr (Nat.lt_succ_self _)
   have e1:=hH1.cell 1
   simp only [lGA,lGS,lGZ,Nat.zero_add] at e1
   have HBW:=zz hbw
   clear h1 hall hbr hbw hH1
   go_wp2_with fail
   go_loopg [31] nf (fun k s31 wx=>∃ j:Nat,j≤nf∧k=nf - j∧s31=.int .i64 j∧Below w.heap.size w wx∧(p.fs.take j).all defM=true)
   case atStart=>exact ⟨0,Nat.zero_le _,by omega,rfl,HBW.out,rfl⟩
   case round=>
    obtain ⟨j,hj1,rfl,rfl,hbx,hall⟩:=hrel
    have HBX:=zz hbx
    have HALF:=zz hall
    by_cases hlt:j<nf
    ·have hil:j<p.fs.length:=by rw [HNF.out];exact hlt
     rcases HRF.out with he | ⟨b,o,rfl,hPb,hma⟩
     ·rw [he] at hil;simp at hil
     obtain ⟨ds,l1,c1,r1⟩:=hma j p.fs[j] (by simp)
     obtain ⟨ds',rfl,hz,hT⟩:=r1
     obtain ⟨qn,dn,qk,dk,rfl,hTT⟩:=(TrIn_iff _ _ _ _).1 hT
     have hbb:b<w.heap.size∧True:=⟨HP0.out b hPb,trivial⟩
     have a0:=(hbx.cell (p:=⟨b,o+j * 6,none⟩) hbb.1).trans (c1 0 _ rfl)
     have a1:=(hbx.cell (p:=⟨b,o+j * 6+1,none⟩) hbb.1).trans (c1 1 _ rfl)
     have a2:=(hbx.cell (p:=⟨b,o+j * 6+2,none⟩) hbb.1).trans (c1 2 _ rfl)
     have a3:=(hbx.cell (p:=⟨b,o+j * 6+3,none⟩) hbb.1).trans (c1 3 _ rfl)
     have a4:=(hbx.cell (p:=⟨b,o+j * 6+4,none⟩) hbb.1).trans (c1 4 _ rfl)
     have a5:=(hbx.cell (p:=⟨b,o+j * 6+5,none⟩) hbb.1).trans (c1 5 _ rfl)
     have hii:(j:Int)<nf:=by omega
     have hNA:=fun W=>name_any p.fs[j].nm W hz
     have hCK:=fun W (hb:Below w.heap.size w W)=>check_tree (w:=W) (fun b hb'=>Nat.lt_of_lt_of_le (HP0.out b hb') hb.size) (TrIn.keep (KP.of_below hb HP0.out) (fun b hb=>hb) _ _ hT) (HDD.out p.fs[j] (by simp))
     have htk:p.fs.take (j+1)=p.fs.take j ++ [p.fs[j]]:=List.take_succ_eq_append_getElem hil
     have hmem:p.fs[j] ∈ p.fs:=by simp
     unfold cs5 at hCK
     generalize p.fs[j]=d at *
     have HNA:=zz hNA
     have HCK:=zz hCK
     have HTK:=zz htk
     have HMEM:=zz hmem
     have hBa:=hbx.alloc hbx.size (.cells #[.string (S d.nm),.int .i64 d.bd.kd,.string (S d.bd.nm),.int .i64 d.bd.nu,.slice qn d.bd.ns.length dn,.slice qk d.bd.ks.length dk] 79)
     have HBA:=zz hBa
     clear hNA hCK htk hmem hbx hall hma hT hTT c1 l1 hz hbb hBa
     cases hnm:nm d.nm
     ·have HF:Hid (progM p=false):=by
       show _=_
       rw [HD2.out]
       have:p.fs.all defM=false:=by rw [List.all_eq_false];exact ⟨d,HMEM.out,by simp [defM,hnm]⟩
       rw [this];simp
      rw [hnm] at HNA
      clear hnm
      go_wp2_with fail
      refine (HNA.out _).mono ?_
      rintro r w2 ⟨rfl,rfl⟩
      go_wp2_with fail
      go_ret
      exact ⟨by rw [HF.out];rfl,HBA.out⟩
     ·have HNT:=zz hnm
      rw [hnm] at HNA
      clear hnm
      go_wp2_with fail
      refine (HNA.out _).mono ?_
      rintro r w2 ⟨rfl,rfl⟩
      go_wp2_with fail
      refine (HCK.out _ HBA.out).mono ?_
      rintro r w2 ⟨rfl,hb2⟩
      have HB2:=zz (HBA.out.trans (hb2.mono HBA.out.size))
      clear hb2
      cases hc:checkM d.bd
      ·have HF:Hid (progM p=false):=by
        show _=_
        rw [HD2.out]
        have:p.fs.all defM=false:=by rw [List.all_eq_false];exact ⟨d,HMEM.out,by simp [defM,hc]⟩
        rw [this];simp
       clear hc
       go_wp2_with fail
       go_ret
       exact ⟨by rw [HF.out];rfl,HB2.out⟩
      ·have HCT:=zz hc
       clear hc
       go_wp2_with fail
       go_roundg (nf - (j+1))
       case measure=>omega
       case rel=>
        refine ⟨j+1,by omega,rfl,by go_num,HB2.out,?_⟩
        rw [HTK.out,List.all_append,HALF.out]
        simp [defM,HNT.out,HCT.out]
    ·have h1:p.fs.take j=p.fs:=List.take_of_length_le (by rw [HNF.out];omega)
     have HT:Hid (progM p=true):=by show _=_;rw [HD2.out,HDT.out,← h1,HALF.out];rfl
     have hii:¬ (j:Int)<nf:=by omega
     clear h1 hall hbx
     go_wp2_with fail
     go_ret
     exact ⟨by rw [HT.out];rfl,HBX.out⟩
end Go.Proofs.YtcnnlecjdkfdjaaGreatDoor
