/- Parts of the proof. -/
import Derived.Test.YtcnnlecjdkfdjaaGreatDoorData
set_option linter.unusedVariables false
set_option linter.unusedSimpArgs false
set_option maxRecDepth 100000
set_option maxHeartbeats 8000000
namespace Go.Proofs.YtcnnlecjdkfdjaaGreatDoor
open Go.RowKit
def defM (d:Df):Bool:=nm d.nm && checkM d.bd
def progM (p:Pg):Bool:=decide (p.ds.length≤40) && decide (p.fs.length≤40) && p.ds.all dataM && p.fs.all defM
def PgIn2 (Q P:Nat→Prop) (w:World) (p:Pg) (cs:List Value):Prop:=∃ pd cd pf cf,cs=[.slice pd p.ds.length cd,.slice pf p.fs.length cf]∧SlOK pd p.ds.length cd∧SlOK pf p.fs.length cf∧RM 3 Q w (DtIn Q w) pd p.ds∧RM 6 P w (DfIn P w) pf p.fs
theorem PgIn2.keep {Q P:Nat→Prop} {w w':World} (kq:KP Q w w') (kp:KP P w w') (f:Pg) (cs:List Value) (h:PgIn2 Q P w f cs):PgIn2 Q P w' f cs:=by
 obtain ⟨pp,cp,pf,cf,h1,h2,h3,h4,h5⟩:=h
 exact ⟨pp,cp,pf,cf,h1,h2,h3,h4.keep kq (fun b hb=>hb) (DtIn.keep kq (fun b hb=>hb)),h5.keep kp (fun b hb=>hb) (DfIn.keep kp (fun b hb=>hb))⟩
theorem PgIn2.join {Q P R:Nat→Prop} {w w':World} (kq:KP Q w w') (kp:KP P w w') (hq:∀ b,Q b→R b) (hp:∀ b,P b→R b) (f:Pg) (cs:List Value) (h:PgIn2 Q P w f cs):PgIn R w' f cs:=by
 obtain ⟨pp,cp,pf,cf,h1,h2,h3,h4,h5⟩:=h
 exact ⟨pp,cp,pf,cf,h1,h2,h3,h4.keep kq hq (DtIn.keep kq hq),h5.keep kp hp (DfIn.keep kp hp)⟩
theorem tprog_any2 {Q P:Nat→Prop} {w:World} {p:Pg} {pd:Option Addr} {cd:Nat} {pf:Option Addr} {cf:Nat} (hQ:PL Q w) (hP:∀ b,P b→b<w.heap.size) (hE:PgIn2 Q P w p [.slice pd p.ds.length cd,.slice pf p.fs.length cf]) (hD:∀ d ∈ p.fs,∀ x ∈ po d.bd 1,x.1≤1000000∧x.2.ks.length≤1000000) :
 Calls Tryz.prog 35 #[.agg #[.slice pd p.ds.length cd,.slice pf p.fs.length cf]] w fun r w'=>r=.returned (.bool (progM p))∧Below w.heap.size w w':=by
 obtain ⟨pp',cp',pf',cf',hcs,hs1,hs2,hRD,hRF⟩:=hE
 simp at hcs
 obtain ⟨⟨rfl,rfl⟩,rfl,rfl⟩:=hcs
 have hdl:=Nat.le_trans hs1.1 hs1.2.1
 have hfl:=Nat.le_trans hs2.1 hs2.2.1
 have HRD:=zz hRD
 have HRF:=zz hRF
 have HPL:=zz hQ
 have HP0:=zz hP
 have HDD:=zz hD
 have hB0:Below w.heap.size w (w.alloc (.cells #[.slice pd p.ds.length cd,.slice pf p.fs.length cf] 38)):=(Below.refl _ w).alloc (Nat.le_refl _) _
 have hW:Hold w.heap.size #[.slice pd p.ds.length cd,.slice pf p.fs.length cf] 38 (w.alloc (.cells #[.slice pd p.ds.length cd,.slice pf p.fs.length cf] 38)):=Hold.new w _ 38
 have HB0:=zz hB0
 have HHW:=zz hW
 have HD:Hid (progM p=(decide (p.ds.length≤40) && decide (p.fs.length≤40) && p.ds.all dataM && p.fs.all defM)):=rfl
 clear hRD hRF hP hQ hB0 hW hs1 hs2 hD
 generalize hnf:p.fs.length=nf at *
 have HNF:=zz hnf
 generalize hdp:p.ds.length=nd at *
 have HND:=zz hdp
 clear hnf hdp
 by_cases hd:¬ nd≤40
 ·have HF:Hid (progM p=false):=by show _=_;rw [HD.out];simp [hd]
  have q:(40:Int)<nd:=by omega
  go_enter Tryz.func35,Tryz.ntmps35
  go_wp2_with fail
  go_ret
  exact ⟨by rw [HF.out];rfl,HB0.out⟩
 replace hd:nd≤40:=by omega
 by_cases hf:¬ nf≤40
 ·have HF:Hid (progM p=false):=by show _=_;rw [HD.out];simp [hf]
  have q:¬ (40:Int)<nd:=by omega
  have q2:(40:Int)<nf:=by omega
  go_enter Tryz.func35,Tryz.ntmps35
  go_wp2_with fail
  go_ret
  exact ⟨by rw [HF.out];rfl,HB0.out⟩
 replace hf:nf≤40:=by omega
 have HD2:Hid (progM p=(p.ds.all dataM && p.fs.all defM)):=by show _=_;rw [HD.out];simp [hd,hf]
 have q:¬ (40:Int)<nd:=by omega
 have q2:¬ (40:Int)<nf:=by omega
 go_enter Tryz.func35,Tryz.ntmps35
 go_wp2_with fail
 go_loopg [20] nd (fun k s20 wr=>∃ i:Nat,i≤nd∧k=nd - i∧s20=.int .i64 i∧Below (w.heap.size+1) (w.alloc (.cells #[.slice pd nd cd,.slice pf nf cf] 38)) wr∧(p.ds.take i).all dataM=true)
 case atStart=>exact ⟨0,Nat.zero_le _,by omega,rfl,Below.refl _ _,rfl⟩
 case round=>
  obtain ⟨i,hi1,rfl,rfl,hbr,hall⟩:=hrel
  have HBR:=zz hbr
  have HALL:=zz hall
  have hbw:Below w.heap.size w wr:=HB0.out.trans (hbr.mono (by omega))
  have hsz1:w.heap.size+1≤wr.heap.size:=by have:=hbr.size;simpa using this
  by_cases hlt:i<nd
  ·have hil:i<p.ds.length:=by rw [HND.out];exact hlt
   rcases HRD.out with he | ⟨b,o,rfl,hPb,hma⟩
   ·rw [he] at hil;simp at hil
   obtain ⟨ds,l1,c1,r1⟩:=hma i p.ds[i] (by simp)
   obtain ⟨qp,dp,qf,df,rfl,hz,hs1,hs2,hSM,hRM⟩:=r1
   have hbb:=HPL.out b hPb
   have a0:=(hbw.cell (p:=⟨b,o+i * 3,none⟩) hbb.1).trans (c1 0 _ rfl)
   have a1:=(hbw.cell (p:=⟨b,o+i * 3+1,none⟩) hbb.1).trans (c1 1 _ rfl)
   have a2:=(hbw.cell (p:=⟨b,o+i * 3+2,none⟩) hbb.1).trans (c1 2 _ rfl)
   have hii:(i:Int)<nd:=by omega
   have hDA:=fun W (hb:Below w.heap.size w W)=>data_any (w:=W) (HPL.out.below (Nat.le_refl _) hb) (DtIn.keep (Q:=Q) (KP.of_below hb HPL.out.lt) (fun b hb=>hb) p.ds[i] _ ⟨qp,dp,qf,df,rfl,hz,hs1,hs2,hSM,hRM⟩)
   have htk:p.ds.take (i+1)=p.ds.take i ++ [p.ds[i]]:=List.take_succ_eq_append_getElem hil
   have hmem:p.ds[i] ∈ p.ds:=by simp
   generalize p.ds[i]=d at *
   generalize d.ps.length=np at *
   generalize d.fs.length=nff at *
   have HDA:=zz hDA
   have HTK:=zz htk
   have HMEM:=zz hmem
   have hBa:=hbw.alloc hbw.size (.cells #[.string (S d.nm),.slice qp np dp,.slice qf nff df] 77)
   have hBb:=hbr.alloc hsz1 (.cells #[.string (S d.nm),.slice qp np dp,.slice qf nff df] 77)
   have HBA:=zz hBa
   have HBB:=zz hBb
   clear hDA htk hmem hbr hall hma hSM hRM hs1 hs2 c1 l1 hz hbb hBa hBb hbw
   cases hdm:dataM d
   ·have HF:Hid (progM p=false):=by
     show _=_
     rw [HD2.out]
     have:p.ds.all dataM=false:=by rw [List.all_eq_false];exact ⟨d,HMEM.out,by simp [hdm]⟩
     rw [this];rfl
    rw [hdm] at HDA
    clear hdm
    go_wp2_with fail
    refine (HDA.out _ HBA.out).mono ?_
    rintro r w2 ⟨rfl,hb2⟩
    have HB2:=zz (HBA.out.trans (hb2.mono HBA.out.size))
    clear hb2
    go_wp2_with fail
    go_ret
    exact ⟨by rw [HF.out];rfl,HB2.out⟩
   ·have HDT:=zz hdm
    rw [hdm] at HDA
    clear hdm
    go_wp2_with fail
    refine (HDA.out _ HBA.out).mono ?_
    rintro r w2 ⟨rfl,hb2⟩
    have HB2:=zz (HBB.out.trans (hb2.mono (by have:=HBB.out.size;simp at this ⊢;omega)))
    clear hb2
    go_wp2_with fail
    go_roundg (nd - (i+1))
    case measure=>omega
    case rel=>
     refine ⟨i+1,by omega,rfl,by go_num,HB2.out,?_⟩
     rw [HTK.out,List.all_append,HALL.out]
     simp [HDT.out]
  ·have h1:p.ds.take i=p.ds:=List.take_of_length_le (by rw [HND.out];omega)
   have HDT:Hid (p.ds.all dataM=true):=by show _=_;rw [← h1];exact HALL.out
   have hii:¬ (i:Int)<nd:=by omega
   have hH1:=HHW.out.below hbr (Nat.lt_succ_self _)
   have e1:=hH1.cell 1
   simp only [lGA,lGS,lGZ,Nat.zero_add] at e1
   have HBW:=zz hbw
   clear h1 hall hbr hbw hH1
   go_wp2_with fail
   go_loopg [31] nf (fun k s31 wx=>∃ j:Nat,j≤nf∧k=nf - j∧s31=.int .i64 j∧Below w.heap.size w wx∧(p.fs.take j).all defM=true)
   case atStart=>exact ⟨0,Nat.zero_le _,by omega,rfl,HBW.out,rfl⟩
   case round=>
    obtain ⟨j,hj1,rfl,rfl,hbx,hall⟩:=hrel
    have HBX:=zz hbx
    have HALF:=zz hall
    by_cases hlt:j<nf
    ·have hil:j<p.fs.length:=by rw [HNF.out];exact hlt
     rcases HRF.out with he | ⟨b,o,rfl,hPb,hma⟩
     ·rw [he] at hil;simp at hil
     obtain ⟨ds,l1,c1,r1⟩:=hma j p.fs[j] (by simp)
     obtain ⟨ds',rfl,hz,hT⟩:=r1
     obtain ⟨qn,dn,qk,dk,rfl,hTT⟩:=(TrIn_iff _ _ _ _).1 hT
     have hbb:b<w.heap.size∧True:=⟨HP0.out b hPb,trivial⟩
     have a0:=(hbx.cell (p:=⟨b,o+j * 6,none⟩) hbb.1).trans (c1 0 _ rfl)
     have a1:=(hbx.cell (p:=⟨b,o+j * 6+1,none⟩) hbb.1).trans (c1 1 _ rfl)
     have a2:=(hbx.cell (p:=⟨b,o+j * 6+2,none⟩) hbb.1).trans (c1 2 _ rfl)
     have a3:=(hbx.cell (p:=⟨b,o+j * 6+3,none⟩) hbb.1).trans (c1 3 _ rfl)
     have a4:=(hbx.cell (p:=⟨b,o+j * 6+4,none⟩) hbb.1).trans (c1 4 _ rfl)
     have a5:=(hbx.cell (p:=⟨b,o+j * 6+5,none⟩) hbb.1).trans (c1 5 _ rfl)
     have hii:(j:Int)<nf:=by omega
     have hNA:=fun W=>name_any p.fs[j].nm W hz
     have hCK:=fun W (hb:Below w.heap.size w W)=>check_tree (w:=W) (fun b hb'=>Nat.lt_of_lt_of_le (HP0.out b hb') hb.size) (TrIn.keep (KP.of_below hb HP0.out) (fun b hb=>hb) _ _ hT) (HDD.out p.fs[j] (by simp))
     have htk:p.fs.take (j+1)=p.fs.take j ++ [p.fs[j]]:=List.take_succ_eq_append_getElem hil
     have hmem:p.fs[j] ∈ p.fs:=by simp
     unfold cs5 at hCK
     generalize p.fs[j]=d at *
     have HNA:=zz hNA
     have HCK:=zz hCK
     have HTK:=zz htk
     have HMEM:=zz hmem
     have hBa:=hbx.alloc hbx.size (.cells #[.string (S d.nm),.int .i64 d.bd.kd,.string (S d.bd.nm),.int .i64 d.bd.nu,.slice qn d.bd.ns.length dn,.slice qk d.bd.ks.length dk] 79)
     have HBA:=zz hBa
     clear hNA hCK htk hmem hbx hall hma hT hTT c1 l1 hz hbb hBa
     cases hnm:nm d.nm
     ·have HF:Hid (progM p=false):=by
       show _=_
       rw [HD2.out]
       have:p.fs.all defM=false:=by rw [List.all_eq_false];exact ⟨d,HMEM.out,by simp [defM,hnm]⟩
       rw [this];simp
      rw [hnm] at HNA
      clear hnm
      go_wp2_with fail
      refine (HNA.out _).mono ?_
      rintro r w2 ⟨rfl,rfl⟩
      go_wp2_with fail
      go_ret
      exact ⟨by rw [HF.out];rfl,HBA.out⟩
     ·have HNT:=zz hnm
      rw [hnm] at HNA
      clear hnm
      go_wp2_with fail
      refine (HNA.out _).mono ?_
      rintro r w2 ⟨rfl,rfl⟩
      go_wp2_with fail
      refine (HCK.out _ HBA.out).mono ?_
      rintro r w2 ⟨rfl,hb2⟩
      have HB2:=zz (HBA.out.trans (hb2.mono HBA.out.size))
      clear hb2
      cases hc:checkM d.bd
      ·have HF:Hid (progM p=false):=by
        show _=_
        rw [HD2.out]
        have:p.fs.all defM=false:=by rw [List.all_eq_false];exact ⟨d,HMEM.out,by simp [defM,hc]⟩
        rw [this];simp
       clear hc
       go_wp2_with fail
       go_ret
       exact ⟨by rw [HF.out];rfl,HB2.out⟩
      ·have HCT:=zz hc
       clear hc
       go_wp2_with fail
       go_roundg (nf - (j+1))
       case measure=>omega
       case rel=>
        refine ⟨j+1,by omega,rfl,by go_num,HB2.out,?_⟩
        rw [HTK.out,List.all_append,HALF.out]
        simp [defM,HNT.out,HCT.out]
    ·have h1:p.fs.take j=p.fs:=List.take_of_length_le (by rw [HNF.out];omega)
     have HT:Hid (progM p=true):=by show _=_;rw [HD2.out,HDT.out,← h1,HALF.out];rfl
     have hii:¬ (j:Int)<nf:=by omega
     clear h1 hall hbx
     go_wp2_with fail
     go_ret
     exact ⟨by rw [HT.out];rfl,HBX.out⟩
def progOut (l:List Tk):Pg × (Int × Int) × Int:=match progRun l with
 | .inl n=>(⟨[],[]⟩,plM l n,60)
 | .inr q=>if progM ⟨q.ds,q.fs⟩ then (⟨q.ds,q.fs⟩,(0,0),0) else (⟨[],[]⟩,plM l 0,61)
theorem prog_mass {l:List Tk} {q:Ps} (hm:l.length≤10000) (h:progRun l=.inr q):(∀ d ∈ q.fs,mass d.bd≤900000)∧∀ d ∈ q.ds,d.ps.length≤900000:=by
 have h1:=run_mass (l:=l) (nd:=0) (ps0 [r0 1,r0 0]) good_prog (Nat.zero_le _) q h
 have h2:=run_pos (l:=l) (nd:=0) (ps0 [r0 1,r0 0]) good_prog (Nat.zero_le _)
 have h3:run l (ps0 [r0 1,r0 0])=.inr q:=h
 rw [h3] at h2
 have h4:q.tk≤l.length:=h2.2
 unfold massP at h1
 refine ⟨fun d hd=>?_,fun d hd=>?_⟩
 ·have:=sum_memM (fun d:Df=>mass d.bd) hd
  omega
 ·have:=sum_memM (fun d:Dt=>d.ps.length) hd
  omega
theorem row_rm {α:Type} {c:Nat→Nat} {col:Nat} {w:World} {e:TypeId} {size:Nat} {R:Nat→α→List Value→Prop} {v:Value} {l:List α} {Q:Nat→Prop} {R':α→List Value→Prop} (h:RowOf c col w e size R v l) (hQ:∀ g cs,c g=col→w.heap[g]?=some (.cells cs e (0,0))→Q g) (hR:∀ i t ds,R i t ds→R' t ds):∃ p cap,v=.slice p l.length cap∧SlOK p l.length cap∧RM size Q w R' p l:=by
 have h':=h
 obtain ⟨p,cap,rfl,h1,h2,h3,h4⟩:=h.slice
 refine ⟨p,cap,rfl,⟨h1,by unfold maxLen at h2;omega,fun e=>(h3 e).1⟩,?_⟩
 cases p with
 | none=>exact .inl (h3 rfl).2
 | some a=>
  obtain ⟨g,rfl,hgl,hcg⟩:=h4 a rfl
  obtain ⟨L,_,_,k3,_,_⟩:=h'
  rcases k3.2 with ⟨hv,_⟩ | ⟨g',cap',cur,hv,_,hgb,_⟩
  ·cases hv
  ·cases hv
   refine .inr ⟨g,0,rfl,hQ g cur hcg hgb,fun i t ht=>?_⟩
   obtain ⟨ds,e1,e2,e3⟩:=h.cell ht
   exact ⟨ds,e1,fun j d hj=>by rw [Nat.zero_add];exact e2 j d hj,hR i t ds e3⟩
def put4 (w:World) (b:Nat) (v0 v1 p0 p1:Value):World:=(((w.setCell ⟨b,0,none⟩ v0).setCell ⟨b,1,none⟩ v1).setCell ⟨b+1,0,none⟩ p0).setCell ⟨b+1,1,none⟩ p1
theorem put4_hold {w0 w:World} {b:Nat} {C D:Array Value} (v0 v1 p0 p1:Value) (hC:C.size=2) (hD:D.size=2) (hR:Hold b C 38 w) (hQ:Hold (b+1) D 29 w) (hB:Below b w0 w):(put4 w b v0 v1 p0 p1).cell? ⟨b,0,none⟩=some v0∧(put4 w b v0 v1 p0 p1).cell? ⟨b,1,none⟩=some v1∧(put4 w b v0 v1 p0 p1).cell? ⟨b+1,0,none⟩=some p0∧(put4 w b v0 v1 p0 p1).cell? ⟨b+1,1,none⟩=some p1∧Below b w0 (put4 w b v0 v1 p0 p1)∧KP (fun x=>x≠b∧x≠b+1) w (put4 w b v0 v1 p0 p1):=by
 have n1:b≠b+1:=by omega
 have n2:b+1≠b:=by omega
 match C,hC with
 | ⟨[c0,c1]⟩,_=>
 match D,hD with
 | ⟨[d0,d1]⟩,_=>
  have h1:=(((hR.set 0 v0).set 1 v1).other n1 0 p0).other n1 1 p1
  have h2:=(((hQ.other n2 0 v0).other n2 1 v1).set 0 p0).set 1 p1
  simp only [lSI,lSZ,lSS] at h1 h2
  have hx:∀ x:Nat,b≤b+x:=fun x=>by omega
  refine ⟨h1.cell 0,h1.cell 1,h2.cell 0,h2.cell 1,?_,?_⟩
  ·exact (((hB.setCell (Nat.le_refl _) _).setCell (Nat.le_refl _) _).setCell (hx 1) _).setCell (hx 1) _
  ·exact (((KP.setCell w b 0 v0 (fun h=>h.1 rfl)).trans (KP.setCell _ b 1 v1 (fun h=>h.1 rfl))).trans (KP.setCell _ (b+1) 0 p0 (fun h=>h.2 rfl))).trans (KP.setCell _ (b+1) 1 p1 (fun h=>h.2 rfl))
theorem PgIn2.mono2 {Q P Q' P':Nat→Prop} {w w':World} (kq:KP Q w w') (kp:KP P w w') (hq:∀ b,Q b→Q' b) (hp:∀ b,P b→P' b) (f:Pg) (cs:List Value) (h:PgIn2 Q P w f cs):PgIn2 Q' P' w' f cs:=by
 obtain ⟨pp',cp',pf',cf',h1,h2,h3,h4,h5⟩:=h
 exact ⟨pp',cp',pf',cf',h1,h2,h3,h4.keep kq hq (DtIn.keep kq hq),h5.keep kp hp (DfIn.keep kp hp)⟩
def QU (w:World) (b:Nat):Prop:=b<w.heap.size∧Un w b
theorem pg0_in (Q P:Nat→Prop) (w:World):PgIn2 Q P w ⟨[],[]⟩ [.slice none 0 0,.slice none 0 0]:=⟨none,0,none,0,rfl,⟨Nat.le_refl _,by omega,fun _=>rfl⟩,⟨Nat.le_refl _,by omega,fun _=>rfl⟩,.inl rfl,.inl rfl⟩
theorem qu_pl (w:World):PL (QU w) w:=fun b hb=>by
 obtain ⟨h1,cs,t,h2,_⟩:=hb
 exact ⟨h1,cs,t,h2⟩
theorem QU.keep {w w':World} {b:Nat} (h:QU w b) (hs:w.heap.size≤w'.heap.size) (e:w'.heap[b]?=w.heap[b]?):QU w' b:=⟨Nat.lt_of_lt_of_le h.1 hs,h.2.keep e⟩
theorem pprog_any {P:Nat→Prop} {w:World} {tp:Option Addr} {n tc:Nat} {l:List Tk} (hP:∀ b,P b→b<w.heap.size) (hn:l.length=n) (hK:KM P w tp l) (hm:n≤10000) :
 Calls Tryz.prog 14 #[.slice tp n tc] w fun r w'=>∃ pd cd pf cf,r=.returned (.tuple #[.agg #[.slice pd (progOut l).1.ds.length cd,.slice pf (progOut l).1.fs.length cf],.agg #[.int .i64 (progOut l).2.1.1,.int .i64 (progOut l).2.1.2],.int .i64 (progOut l).2.2])∧PgIn2 (QU w') (fun b=>b<w'.heap.size∧w.heap.size≤b) w' (progOut l).1 [.slice pd (progOut l).1.ds.length cd,.slice pf (progOut l).1.fs.length cf]∧Below w.heap.size w w':=by
 have hmf:=mkf
 obtain ⟨W1,hW1⟩:∃ W1,W1=((w.alloc (.cells #[.slice none 0 0,.slice none 0 0] 38)).alloc (.cells #[.int .i64 0,.int .i64 0] 29)).alloc (.cells (psC tp n tc 0 (.slice none 0 0) (.slice none 0 0) (.slice none 0 0) (.slice none 0 0) (.slice none 0 0) (.slice none 0 0)) 63):=⟨_,rfl⟩
 have hB1:Below w.heap.size w W1:=by rw [hW1];exact (((Below.refl _ w).alloc (Nat.le_refl _) _).alloc (by simp) _).alloc (by simp;omega) _
 have hs1:W1.heap.size=w.heap.size+3:=by rw [hW1];simp
 have hR:Hold w.heap.size #[.slice none 0 0,.slice none 0 0] 38 W1:=by rw [hW1];exact ((Hold.new w _ 38).alloc _).alloc _
 have hQ:Hold (w.heap.size+1) #[.int .i64 0,.int .i64 0] 29 W1:=by rw [hW1];have:=(Hold.new (w.alloc (.cells #[.slice none 0 0,.slice none 0 0] 38)) #[.int .i64 0,.int .i64 0] 29).alloc (.cells (psC tp n tc 0 (.slice none 0 0) (.slice none 0 0) (.slice none 0 0) (.slice none 0 0) (.slice none 0 0) (.slice none 0 0)) 63);simpa using this
 have hBB:Hold (w.heap.size+2) (psC tp n tc 0 (.slice none 0 0) (.slice none 0 0) (.slice none 0 0) (.slice none 0 0) (.slice none 0 0) (.slice none 0 0)) 63 W1:=by rw [hW1];have:=Hold.new ((w.alloc (.cells #[.slice none 0 0,.slice none 0 0] 38)).alloc (.cells #[.int .i64 0,.int .i64 0] 29)) (psC tp n tc 0 (.slice none 0 0) (.slice none 0 0) (.slice none 0 0) (.slice none 0 0) (.slice none 0 0) (.slice none 0 0)) 63;simpa using this
 have hP1:=pm_start hBB hn hm (hK.keep (KP.of_below hB1 hP) (fun b hb=>hb) (fun _ _ h=>h)) (fun b hb=>by have:=hP b hb;omega)
 have hwh:=whole_any (nd:=0) (k0:=1) hP1 (by decide) rfl (Nat.le_refl _) (start_bound l 1 (by omega) (.inr rfl))
 have hEX:progOut l=(match progRun l with | .inl n=>(⟨[],[]⟩,plM l n,60) | .inr q=>if progM ⟨q.ds,q.fs⟩ then (⟨q.ds,q.fs⟩,(0,0),0) else (⟨[],[]⟩,plM l 0,61)):=rfl
 have hrunE:run l { ps0 [] with ru:=[r0 1,r0 0] }=progRun l:=rfl
 rw [hrunE] at hwh
 have hcl:∀ b,b<w.heap.size+2→Imm (colB (w.heap.size+2)) W1 b:=fun b hb=>⟨by omega,by unfold colB;rw [if_neg (by omega)]⟩
 have hkeep:∀ w2:World,KP (Imm (colB (w.heap.size+2)) W1) W1 w2→Below w.heap.size w w2∧Hold w.heap.size #[.slice none 0 0,.slice none 0 0] 38 w2∧Hold (w.heap.size+1) #[.int .i64 0,.int .i64 0] 29 w2:=fun w2 hk=>⟨hB1.trans (hk.below fun b hb=>hcl b (by omega)),(hk.block _ (hcl _ (by omega))).trans hR,(hk.block _ (hcl _ (by omega))).trans hQ⟩
 have HKEEP:=zz hkeep
 have HWH:=zz hwh
 have HEX:=zz hEX
 have HCL:=zz hcl
 clear hwh hP1 hrunE hkeep hR hQ hBB hB1 hEX hcl
 subst hW1
 generalize progOut l=E at *
 unfold psC at HWH
 go_enter Tryz.func14,Tryz.ntmps14
 go_wp2_with fail
 refine HWH.out.mono ?_
 intro e w2 hq
 cases hx:progRun l with
 | inl k=>
  rw [hx] at hq HEX
  obtain ⟨rfl,⟨tp',tc',vr,ve,vs,vf,vd,vp,hB2,hK2⟩,hk2⟩:=hq
  have hEe:E=(⟨[],[]⟩,plM l k,60):=HEX.out
  have hkl:k≤l.length:=by
   have h:=(run_pos (l:=l) (nd:=0) (ps0 [r0 1,r0 0]) good_prog (Nat.zero_le _)).2
   have h2:run l (ps0 [r0 1,r0 0])=.inl k:=hx
   rw [h2] at h
   exact h
  obtain ⟨b2,r2,q2⟩:=HKEEP.out _ hk2
  have hpl:=place_any (k:=k) hB2 (fun b hb=>hb) rfl hK2 (by omega) (by omega)
  have c1:=hB2.cell 1
  simp only [lGA,lGS,lGZ] at c1
  subst hEe
  have HPL:=zz hpl
  have HB2:=zz b2
  have HR2:=zz r2
  have HQ2:=zz q2
  have hs2:w.heap.size+1<w2.heap.size:=q2.lt
  clear hB2 hK2 hk2 hpl b2 r2 q2 HEX HKEEP HWH HCL
  obtain ⟨pl,hple⟩:∃ pl,pl=plM l k:=⟨_,rfl⟩
  rw [← hple] at HPL
  have HPLE:=zz hple
  clear hple
  go_wp2_with fail
  refine HPL.out.mono ?_
  rintro r w3 ⟨rfl,hb3⟩
  have HR3:=zz (HR2.out.below hb3 HR2.out.lt)
  have HQ3:=zz (HQ2.out.below hb3 HQ2.out.lt)
  have HB3:=zz (HB2.out.trans (hb3.mono HB2.out.size))
  clear hb3
  have a0:=HR3.out.cell 0
  have a1:=HR3.out.cell 1
  have d0:=HQ3.out.cell 0
  have d1:=HQ3.out.cell 1
  have f0:=HR3.out.frozen 0
  have f1:=HR3.out.frozen 1
  have g0:=HQ3.out.frozen 0
  have g1:=HQ3.out.frozen 1
  simp only [lGA,lGS,lGZ] at a0 a1 d0 d1
  go_wp2_with fail
  obtain ⟨q0,q1,q2,q3,qB,qK⟩:=put4_hold (.slice none 0 0) (.slice none 0 0) (.int .i64 pl.1) (.int .i64 pl.2) rfl rfl HR3.out HQ3.out HB3.out
  unfold put4 at q0 q1 q2 q3 qB qK
  obtain rfl:=HPLE.out
  exact bodyPost_ret (v:=.tuple #[.agg #[.slice none 0 0,.slice none 0 0],.agg #[.int .i64 (plM l k).1,.int .i64 (plM l k).2],.int .i64 60]) (by simp only [results,Tryz.results14];go_simp) rfl ⟨none,0,none,0,rfl,pg0_in _ _ _,qB⟩
 | inr q=>
  rw [hx] at hq HEX
  obtain ⟨rfl,c',⟨tp',tc',vr,ve,vs,vf,vd,vp,hS⟩,hi,hk2⟩:=hq
  have hEe:E=(if progM ⟨q.ds,q.fs⟩ then (⟨q.ds,q.fs⟩,(0,0),0) else (⟨[],[]⟩,plM l 0,61)):=HEX.out
  obtain ⟨hm1,hm2⟩:=prog_mass (by omega) hx
  obtain ⟨b2,r2,q2⟩:=HKEEP.out _ hk2
  obtain ⟨pd,cd,rfl,hsd,hrd⟩:=row_rm (Q:=QU w2) (R':=DtIn (QU w2) w2) hS.dts (fun g cs hc hg=>⟨(Array.getElem?_eq_some_iff.1 hg).1,cs,_,hg,by decide⟩) (fun i t ds h=>DtIn.keep (KP.refl _ w2) (fun b hb=>⟨hb.1.1,hb.2⟩) t ds h)
  obtain ⟨pf,cf,rfl,hsf,hrf⟩:=row_rm (Q:=fun b=>b<w2.heap.size∧w.heap.size+2≤b) (R':=DfIn (fun b=>b<w2.heap.size∧w.heap.size+2≤b) w2) hS.dfs (fun g cs hc hg=>⟨(Array.getElem?_eq_some_iff.1 hg).1,Nat.le_of_not_lt fun e=>by have:=(hi _ (HCL.out g e)).2;rw [this] at hc;cases hc⟩) (fun i t ds h=>DfIn.keep (KP.refl _ w2) (fun b hb=>⟨hb.1.1,Nat.le_of_lt hb.2⟩) t ds h)
  have hE:PgIn2 (QU w2) (fun b=>b<w2.heap.size∧w.heap.size+2≤b) w2 ⟨q.ds,q.fs⟩ [.slice pd q.ds.length cd,.slice pf q.fs.length cf]:=⟨pd,cd,pf,cf,rfl,hsd,hsf,hrd,hrf⟩
  have hck:=tprog_any2 (p:=⟨q.ds,q.fs⟩) (qu_pl w2) (fun b hb=>hb.1) hE (fun d hd=>mass_D (hm1 d hd))
  have c6:=hS.hold.cell 6
  have c7:=hS.hold.cell 7
  simp only [lGA,lGS,lGZ] at c6 c7
  have HCK:=zz hck
  have HS:=zz hS
  have HB2:=zz b2
  have HR2:=zz r2
  have HQ2:=zz q2
  have HE:=zz hE
  have HEE:=zz hEe
  have hs2:w.heap.size+1<w2.heap.size:=q2.lt
  clear hS hk2 b2 r2 q2 HEX HKEEP HWH HCL hck hE hEe hm1 hm2 hi hx hrd hrf hsd hsf
  go_wp2_with fail
  refine HCK.out.mono ?_
  rintro r w3 ⟨rfl,hb3⟩
  have HR3:=zz (HR2.out.below hb3 HR2.out.lt)
  have HQ3:=zz (HQ2.out.below hb3 HQ2.out.lt)
  have HB3:=zz (HB2.out.trans (hb3.mono HB2.out.size))
  have HS3:=zz (HS.out.below hb3 (c':=c') fun _ _=>rfl)
  have HE3:=zz (PgIn2.keep (KP.of_below hb3 fun b hb=>hb.1) (KP.of_below hb3 fun b hb=>hb.1) _ _ HE.out)
  have HK3:=zz (KP.of_below (P:=fun b=>b<w2.heap.size) hb3 fun b hb=>hb)
  have c6':=HS3.out.hold.cell 6
  have c7':=HS3.out.hold.cell 7
  simp only [lGA,lGS,lGZ] at c6' c7'
  clear hb3 c6 c7
  cases hc:progM ⟨q.ds,q.fs⟩
  ·rw [hc] at HEE
   obtain rfl:E=(⟨[],[]⟩,plM l 0,61):=HEE.out
   have hpl:=place_any (k:=0) HS3.out.hold (fun b hb=>hb.1) rfl HS3.out.toks (by omega) (by omega)
   have HPL:=zz hpl
   clear hpl hc c6' c7'
   obtain ⟨pl,hple⟩:∃ pl,pl=plM l 0:=⟨_,rfl⟩
   rw [← hple] at HPL
   have HPLE:=zz hple
   clear hple
   go_wp2_with fail
   refine HPL.out.mono ?_
   rintro r w4 ⟨rfl,hb4⟩
   have HR4:=zz (HR3.out.below hb4 HR3.out.lt)
   have HQ4:=zz (HQ3.out.below hb4 HQ3.out.lt)
   have HB4:=zz (HB3.out.trans (hb4.mono HB3.out.size))
   clear hb4
   have a0:=HR4.out.cell 0
   have a1:=HR4.out.cell 1
   have d0:=HQ4.out.cell 0
   have d1:=HQ4.out.cell 1
   have f0:=HR4.out.frozen 0
   have f1:=HR4.out.frozen 1
   have g0:=HQ4.out.frozen 0
   have g1:=HQ4.out.frozen 1
   simp only [lGA,lGS,lGZ] at a0 a1 d0 d1
   go_wp2_with fail
   obtain ⟨q0,q1,q2,q3,qB,qK⟩:=put4_hold (.slice none 0 0) (.slice none 0 0) (.int .i64 pl.1) (.int .i64 pl.2) rfl rfl HR4.out HQ4.out HB4.out
   unfold put4 at q0 q1 q2 q3 qB qK
   obtain rfl:=HPLE.out
   exact bodyPost_ret (v:=.tuple #[.agg #[.slice none 0 0,.slice none 0 0],.agg #[.int .i64 (plM l 0).1,.int .i64 (plM l 0).2],.int .i64 61]) (by simp only [results,Tryz.results14];go_simp) rfl ⟨none,0,none,0,rfl,pg0_in _ _ _,qB⟩
  ·rw [hc] at HEE
   obtain rfl:E=(⟨q.ds,q.fs⟩,(0,0),0):=HEE.out
   clear hc
   have a0:=HR3.out.cell 0
   have a1:=HR3.out.cell 1
   have d0:=HQ3.out.cell 0
   have d1:=HQ3.out.cell 1
   have f0:=HR3.out.frozen 0
   have f1:=HR3.out.frozen 1
   have g0:=HQ3.out.frozen 0
   have g1:=HQ3.out.frozen 1
   simp only [lGA,lGS,lGZ] at a0 a1 d0 d1
   go_wp2_with fail
   obtain ⟨q0,q1,q2,q3,qB,qK⟩:=put4_hold (.slice pd q.ds.length cd) (.slice pf q.fs.length cf) (.int .i64 0) (.int .i64 0) rfl rfl HR3.out HQ3.out HB3.out
   have hun:∀ b,QU w2 b→b≠w.heap.size∧b≠w.heap.size+1:=fun b hb=>by
    obtain ⟨h1,cs,t,h2,h3,h4⟩:=hb
    refine ⟨fun e=>?_,fun e=>?_⟩
    ·have h5:=HR2.out
     unfold Hold at h5
     rw [← e,h2] at h5
     cases h5
     exact h4 rfl
    ·have h5:=HQ2.out
     unfold Hold at h5
     rw [← e,h2] at h5
     cases h5
     exact h3 rfl
   have hin:=PgIn2.mono2 (Q:=QU w2) (Q':=QU (put4 w3 w.heap.size (.slice pd q.ds.length cd) (.slice pf q.fs.length cf) (.int .i64 0) (.int .i64 0))) (P':=fun b=>b<(put4 w3 w.heap.size (.slice pd q.ds.length cd) (.slice pf q.fs.length cf) (.int .i64 0) (.int .i64 0)).heap.size∧w.heap.size≤b) (qK.mono fun b hb=>hun b hb) (qK.mono fun b hb=>⟨by have:=hb.2;omega,by have:=hb.2;omega⟩) (fun b hb=>hb.keep (Nat.le_trans HK3.out.size qK.size) ((qK.block b (hun b hb)).trans (HK3.out.block b hb.1))) (fun b hb=>⟨Nat.lt_of_lt_of_le hb.1 (Nat.le_trans HK3.out.size qK.size),by have:=hb.2;omega⟩) _ _ HE3.out
   unfold put4 at q0 q1 q2 q3 qB qK hin
   exact bodyPost_ret (v:=.tuple #[.agg #[.slice pd q.ds.length cd,.slice pf q.fs.length cf],.agg #[.int .i64 0,.int .i64 0],.int .i64 0]) (by simp only [results,Tryz.results14];go_simp) rfl ⟨pd,cd,pf,cf,rfl,hin,qB⟩
end Go.Proofs.YtcnnlecjdkfdjaaGreatDoor
namespace Go.Proofs.YtcnnlecjdkfdjaaGreatDoor.Ly
def dg (c:UInt8):Bool:=decide (48≤(c.toNat:Int)) && decide ((c.toNat:Int)≤57)
def sm (c:UInt8):Bool:=decide (97≤(c.toNat:Int)) && decide ((c.toNat:Int)≤122)
def gr (c:UInt8):Bool:=decide (65≤(c.toNat:Int)) && decide ((c.toNat:Int)≤90)
def pt (c:UInt8):Bool:=sm c || gr c || dg c
def kw (l:List UInt8):Bool:=l == [99,97,115,101] || l == [111,102] || l == [108,101,116] || l == [105,110] || l == [100,111] || l == [100,111,115] || l == [105,102] || l == [116,104,101,110] || l == [101,108,115,101] || l == [100,97,116,97]
def sg (l:List UInt8):Bool:=l == [45,62] || l == [60,45] || l == [61,61] || l == [61] || l == [60] || l == [43] || l == [45] || l == [42] || l == [47] || l == [92] || l == [40] || l == [41] || l == [123] || l == [125] || l == [59] || l == [124]
def ky (l:List UInt8):Bool:=kw l || sg l
def wd (l:List UInt8):Bool:=!l.isEmpty && decide (l.length≤20) && l.all pt
def nm (l:List UInt8):Bool:=wd l && sm (l.headD 0) && !kw l
def cn (l:List UInt8):Bool:=wd l && gr (l.headD 0)
def nv (l:List UInt8):Nat:=l.foldl (fun n c=>n * 10+(c.toNat - 48)) 0
def big:Nat:=9223372036854775807
def tl:List UInt8→Nat
 | []=>0
 | c :: r=>if dg c then 1+(r.takeWhile dg).length else if pt c then 1+(r.takeWhile pt).length else match r with | []=>1 | d :: _=>if sg [c,d] then 2 else 1
def tk (l:List UInt8):Option (Int × Int):=
 if dg (l.headD 0) then (if nv l≤big then some (1,(nv l:Int)) else none) else if ky l then some (4,0) else if nm l then some (2,0) else if cn l then some (3,0) else none
def gp (l:List UInt8):List UInt8:=l.dropWhile (· == 32)
def sk (l:List UInt8):List UInt8:=if (gp l).take 2 == [45,45] then [] else gp l
structure Tok where
 kd:Int
 tx:List UInt8
 nu:Int
 ln:Int
 co:Int
def rawL (n:Int):Nat→Nat→List UInt8→List Tok × Option (Int × Int)
 | 0,_,_=>([],none)
 | f+1,at_,l=>match sk l with
  | []=>([],none)
  | c :: r=>match tk ((c :: r).take (tl (c :: r))) with
   | none=>([],some (n,((at_+(l.length - (r.length+1)):Nat):Int)+1))
   | some x=>(⟨x.1,(c :: r).take (tl (c :: r)),x.2,n,((at_+(l.length - (r.length+1)):Nat):Int)+1⟩ :: (rawL n f (at_+(l.length - (r.length+1))+tl (c :: r)) ((c :: r).drop (tl (c :: r)))).1,
    (rawL n f (at_+(l.length - (r.length+1))+tl (c :: r)) ((c :: r).drop (tl (c :: r)))).2)
def raw (n:Int) (at_:Nat) (l:List UInt8):List Tok × Option (Int × Int):=rawL n l.length at_ l
theorem gp_le (l:List UInt8):(gp l).length≤l.length:=by
 unfold gp;induction l with
 | nil=>simp
 | cons a r ih=>simp only [List.dropWhile_cons];split <;> simp <;> omega
theorem sk_le (l:List UInt8):(sk l).length≤l.length:=by
 unfold sk;split
 ·simp
 ·exact gp_le l
theorem tl_pos (c:UInt8) (r:List UInt8):1≤tl (c :: r):=by
 simp only [tl];split
 ·omega
 ·split
  ·omega
  ·split
   ·omega
   ·split <;> omega
theorem tw_le {p:UInt8→Bool} (r:List UInt8):(r.takeWhile p).length≤r.length:=by
 induction r with
 | nil=>simp
 | cons a r ih=>simp only [List.takeWhile_cons];split <;> simp;omega
theorem tl_le (l:List UInt8):tl l≤l.length:=by
 cases l with
 | nil=>simp [tl]
 | cons c r=>
  simp only [tl];split
  ·have:=tw_le (p:=dg) r;simp;omega
  ·split
   ·have:=tw_le (p:=pt) r;simp;omega
   ·split
    ·simp
    ·split <;> simp
theorem rawL_fuel (n:Int):∀ (f g at_:Nat) (l:List UInt8),l.length≤f→l.length≤g→rawL n f at_ l=rawL n g at_ l:=by
 intro f
 induction f with
 | zero=>
  intro g at_ l hf hg
  obtain rfl:l=[]:=List.length_eq_zero_iff.1 (by omega)
  cases g with
  | zero=>rfl
  | succ g=>simp [rawL,sk,gp]
 | succ f ih=>
  intro g at_ l hf hg
  cases g with
  | zero=>
   obtain rfl:l=[]:=List.length_eq_zero_iff.1 (by omega)
   simp [rawL,sk,gp]
  | succ g=>
   unfold rawL
   have hk:=sk_le l
   cases hs:sk l with
   | nil=>rfl
   | cons c r=>
    rw [hs] at hk
    have hp:=tl_pos c r
    simp only [List.length_cons] at hk
    have hd:((c :: r).drop (tl (c :: r))).length≤r.length:=by simp only [List.length_drop,List.length_cons];omega
    simp only
    rw [ih g _ _ (by omega) (by omega)]
theorem raw_step (n:Int) (at_:Nat) (l:List UInt8):raw n at_ l=match sk l with
 | []=>([],none)
 | c :: r=>match tk ((c :: r).take (tl (c :: r))) with
  | none=>([],some (n,((at_+(l.length - (r.length+1)):Nat):Int)+1))
  | some x=>(⟨x.1,(c :: r).take (tl (c :: r)),x.2,n,((at_+(l.length - (r.length+1)):Nat):Int)+1⟩ :: (raw n (at_+(l.length - (r.length+1))+tl (c :: r)) ((c :: r).drop (tl (c :: r)))).1,
   (raw n (at_+(l.length - (r.length+1))+tl (c :: r)) ((c :: r).drop (tl (c :: r)))).2):=by
 have hk:=sk_le l
 cases l with
 | nil=>simp [raw,rawL,sk,gp]
 | cons a b=>
  unfold raw
  simp only [List.length_cons]
  rw [rawL]
  cases hs:sk (a :: b) with
  | nil=>rfl
  | cons c r=>
   rw [hs] at hk
   simp only [List.length_cons] at hk
   have hp:=tl_pos c r
   have hd:((c :: r).drop (tl (c :: r))).length≤b.length:=by simp only [List.length_drop,List.length_cons];omega
   simp only [List.length_cons]
   rw [rawL_fuel n b.length _ _ _ hd (Nat.le_refl _)]
def spl:List UInt8→List (List UInt8)
 | []=>[[]]
 | c :: r=>if c == 10 then [] :: spl r else match spl r with | []=>[[c]] | h :: t=>(c :: h) :: t
def num (n:Int):List (List UInt8)→List (Int × List UInt8)
 | []=>[]
 | h :: t=>(n,h) :: num (n+1) t
def rawLs:List (Int × List UInt8)→List Tok × Option (Int × Int)
 | []=>([],none)
 | x :: r=>match (raw x.1 0 x.2).2 with
  | some e=>((raw x.1 0 x.2).1,some e)
  | none=>((raw x.1 0 x.2).1 ++ (rawLs r).1,(rawLs r).2)
def pl (t:Tok):Int × Int:=(t.ln,t.co)
def cap (q:List Tok × Option (Int × Int)):List Tok × Option (Int × Int):=
 match q.1[2000]? with
 | some t=>([],some (pl t))
 | none=>match q.2 with
  | some e=>([],some e)
  | none=>(q.1,none)
def lexM (l:List UInt8):List Tok × Option (Int × Int):=cap (rawLs (num 1 (spl l)))
theorem rawLs_append (a b:List (Int × List UInt8)):rawLs (a ++ b)=match (rawLs a).2 with
 | some e=>((rawLs a).1,some e)
 | none=>((rawLs a).1 ++ (rawLs b).1,(rawLs b).2):=by
 induction a with
 | nil=>simp [rawLs]
 | cons x r ih=>
  simp only [List.cons_append,rawLs]
  cases h:(raw x.1 0 x.2).2 with
  | some e=>simp
  | none=>
   simp only [ih]
   cases h2:(rawLs r).2 <;> simp [List.append_assoc]
theorem cap_stays (a b:List (Int × List UInt8)) {e:Int × Int} (h:(cap (rawLs a)).2=some e):cap (rawLs (a ++ b))=([],some e):=by
 rw [rawLs_append]
 unfold cap at h ⊢
 cases h1:(rawLs a).1[2000]? with
 | some t=>
  rw [h1] at h
  simp only [Option.some.injEq] at h
  have hl:2000<(rawLs a).1.length:=(List.getElem?_eq_some_iff.1 h1).1
  cases h2:(rawLs a).2 with
  | some e'=>simp only [h1,h]
  | none=>simp only [List.getElem?_append_left hl,h1,h]
 | none=>
  rw [h1] at h
  cases h2:(rawLs a).2 with
  | some e'=>rw [h2] at h;simp only [Option.some.injEq] at h;simp only [h1,h]
  | none=>rw [h2] at h;simp at h
open Go.RowKit
theorem zz {p:Prop} (h:p):Hid p:=h
def S (l:List UInt8):ByteArray:=⟨l.toArray⟩
theorem S_data (l:List UInt8):(S l).data.toList=l:=rfl
theorem S_list (l:List UInt8):(S l).toList=l:=by rw [ByteArray.toList_eq];rfl
theorem S_size (l:List UInt8):(S l).size=l.length:=by simp [S,ByteArray.size]
theorem S_of (s:ByteArray):S s.data.toList=s:=by cases s;simp [S]
theorem digit_any (c:UInt8) (w:World):Calls Tryz.prog 96 #[.int .u8 c.toNat] w fun e w'=>e=.returned (.bool (dg c))∧w'=w:=by
 unfold dg
 generalize (c.toNat:Int)=n
 by_cases h:48≤n <;>
 ·go_enter Tryz.func96,Tryz.ntmps96
  go_wp2
  go_ret
  exact ⟨by simp;try omega,rfl⟩
theorem small_any (c:UInt8) (w:World):Calls Tryz.prog 144 #[.int .u8 c.toNat] w fun e w'=>e=.returned (.bool (sm c))∧w'=w:=by
 unfold sm
 generalize (c.toNat:Int)=n
 by_cases h:97≤n <;>
 ·go_enter Tryz.func144,Tryz.ntmps144
  go_wp2
  go_ret
  exact ⟨by simp;try omega,rfl⟩
theorem great_any (c:UInt8) (w:World):Calls Tryz.prog 165 #[.int .u8 c.toNat] w fun e w'=>e=.returned (.bool (gr c))∧w'=w:=by
 unfold gr
 generalize (c.toNat:Int)=n
 by_cases h:65≤n <;>
 ·go_enter Tryz.func165,Tryz.ntmps165
  go_wp2
  go_ret
  exact ⟨by simp;try omega,rfl⟩
theorem inWord_any (c:UInt8) (w:World):Calls Tryz.prog 166 #[.int .u8 c.toNat] w fun e w'=>e=.returned (.bool (pt c))∧w'=w:=by
 unfold pt
 cases h1:sm c
 ·cases h2:gr c
  ·go_enter Tryz.func166,Tryz.ntmps166
   go_wp2_with fail
   refine (small_any _ _).mono ?_;rintro e w' ⟨rfl,rfl⟩;rw [h1]
   go_wp2_with fail
   refine (great_any _ _).mono ?_;rintro e w' ⟨rfl,rfl⟩;rw [h2]
   go_wp2_with fail
   refine (digit_any _ _).mono ?_;rintro e w' ⟨rfl,rfl⟩
   go_wp2_with fail
   go_ret
   exact ⟨by simp,rfl⟩
  ·go_enter Tryz.func166,Tryz.ntmps166
   go_wp2_with fail
   refine (small_any _ _).mono ?_;rintro e w' ⟨rfl,rfl⟩;rw [h1]
   go_wp2_with fail
   refine (great_any _ _).mono ?_;rintro e w' ⟨rfl,rfl⟩;rw [h2]
   go_wp2_with fail
   go_ret
   exact ⟨by simp,rfl⟩
 ·go_enter Tryz.func166,Tryz.ntmps166
  go_wp2_with fail
  refine (small_any _ _).mono ?_;rintro e w' ⟨rfl,rfl⟩;rw [h1]
  go_wp2_with fail
  go_ret
  exact ⟨by simp,rfl⟩
theorem keyWord_any (l:List UInt8) (w:World):Calls Tryz.prog 145 #[.string (S l)] w fun e w'=>e=.returned (.bool (kw l))∧w'=w:=by
 have hl:=S_list l
 unfold kw
 generalize S l=s at *
 subst hl
 go_enter Tryz.func145,Tryz.ntmps145
 go_wp2
 all_goals first | (exfalso;simp_all;done) | skip
 all_goals go_ret
 all_goals exact ⟨by simp_all,rfl⟩
theorem sign_any (l:List UInt8) (w:World):Calls Tryz.prog 164 #[.string (S l)] w fun e w'=>e=.returned (.bool (sg l))∧w'=w:=by
 have hl:=S_list l
 unfold sg
 generalize S l=s at *
 subst hl
 go_enter Tryz.func164,Tryz.ntmps164
 go_wp2
 all_goals first | (exfalso;simp_all;done) | skip
 all_goals go_ret
 all_goals exact ⟨by simp_all,rfl⟩
theorem key_any (l:List UInt8) (w:World):Calls Tryz.prog 98 #[.string (S l)] w fun e w'=>e=.returned (.bool (ky l))∧w'=w:=by
 unfold ky
 cases h:kw l
 ·go_enter Tryz.func98,Tryz.ntmps98
  go_wp2_with fail
  refine (keyWord_any _ _).mono ?_;rintro e w' ⟨rfl,rfl⟩;rw [h]
  go_wp2_with fail
  refine (sign_any _ _).mono ?_;rintro e w' ⟨rfl,rfl⟩
  go_wp2_with fail
  go_ret
  exact ⟨by simp,rfl⟩
 ·go_enter Tryz.func98,Tryz.ntmps98
  go_wp2_with fail
  refine (keyWord_any _ _).mono ?_;rintro e w' ⟨rfl,rfl⟩;rw [h]
  go_wp2_with fail
  go_ret
  exact ⟨by simp,rfl⟩
theorem all_take_succ (p:UInt8→Bool) (l:List UInt8) (k:Nat) (h:k<l.length):(l.take (k+1)).all p=((l.take k).all p && p l[k]):=by
 rw [List.take_succ_eq_append_getElem h,List.all_append];simp
theorem all_of_bad (p:UInt8→Bool) (l:List UInt8) (k:Nat) (h:k<l.length) (hb:p l[k]=false):l.all p=false:=by
 rw [List.all_eq_false];exact ⟨l[k],List.getElem_mem h,by simp [hb]⟩
theorem dget (s:ByteArray) (k:Nat) (h:k<s.size) (h':k<s.data.toList.length):s[k]=s.data.toList[k]:=rfl
theorem dlen (s:ByteArray):s.data.toList.length=s.size:=Array.length_toList
theorem word_str (s:ByteArray) (w:World) (hl:s.size≤281474976710656):Calls Tryz.prog 143 #[.string s] w fun e w'=>e=.returned (.bool (wd s.data.toList))∧w'=w:=by
 have hs:=ByteArray.toList_eq s
 have hz:=dlen s
 by_cases h0:s.size=0
 ·have e0:s.data.toList=[]:=List.length_eq_zero_iff.1 (by omega)
  have H:Hid (wd s.data.toList=false):=by show wd s.data.toList=false;rw [e0];rfl
  have h1:(s.toList == [])=true:=by rw [hs,e0];rfl
  clear h0 hs e0 hz
  go_enter Tryz.func143,Tryz.ntmps143
  go_wp2
  go_ret
  exact ⟨by rw [H.out];rfl,rfl⟩
 ·have h1:(s.toList == [])=false:=by
   rw [hs];cases h:s.data.toList with | nil=>rw [h] at hz;simp at hz;omega | cons a b=>rfl
  have hne:s.data.toList.isEmpty=false:=by cases h:s.data.toList with | nil=>rw [h] at hz;simp at hz;omega | cons a b=>rfl
  by_cases h20:20<(s.size:Int)
  ·have H:Hid (wd s.data.toList=false):=by show wd s.data.toList=false;unfold wd;rw [hz,show decide (s.size≤20)=false from by simp;omega];simp
   clear h0 hs hne hz
   go_enter Tryz.func143,Tryz.ntmps143
   go_wp2
   go_ret
   exact ⟨by rw [H.out];rfl,rfl⟩
  ·have H:Hid (wd s.data.toList=s.data.toList.all pt):=by
    show wd s.data.toList=s.data.toList.all pt;unfold wd;rw [hne,hz,show decide (s.size≤20)=true from by simp;omega];simp
   have HZ:=zz hz
   clear h0 hs hne hz
   go_enter Tryz.func143,Tryz.ntmps143
   go_wp2
   go_loop [13] (fun i=>∃ k:Nat,k≤s.size∧i=.int .i64 k∧(s.data.toList.take k).all pt=true) (fun i=>s.size - (intOf i).toNat)
   case atStart=>exact ⟨0,Nat.zero_le _,rfl,rfl⟩
   case round=>
    obtain ⟨k,hk,rfl,hall⟩:=hrel
    have HA:=zz hall
    clear hall
    by_cases hlt:k<s.size
    ·have hlt':k<s.data.toList.length:=by rw [HZ.out];exact hlt
     have HT:=zz (all_take_succ pt _ k hlt')
     have hb:=all_of_bad pt _ k hlt'
     have HD:=zz (dget s k hlt hlt')
     cases hq:pt s[k]
     ·have HB:=zz (hb hq)
      clear hb
      go_wp2_with fail
      refine (inWord_any _ _).mono ?_;rintro e w' ⟨rfl,rfl⟩;rw [hq]
      go_wp2_with fail
      go_ret
      exact ⟨by rw [H.out,HB.out];rfl,rfl⟩
     ·clear hb
      have HQ:=zz hq
      go_wp2_with fail
      refine (inWord_any _ _).mono ?_;rintro e w' ⟨rfl,rfl⟩;rw [HQ.out]
      go_wp2_with fail
      go_round
      case rel=>exact ⟨k+1,by omega,by go_num,by rw [HT.out,HA.out,← HD.out,HQ.out];rfl⟩
      case measure=>simp [intOf];omega
    ·go_wp2
     go_ret
     exact ⟨by rw [H.out,← HA.out,List.take_of_length_le (by rw [HZ.out];omega)];rfl,rfl⟩
theorem name_str (s:ByteArray) (w:World) (hl:s.size≤281474976710656):Calls Tryz.prog 78 #[.string s] w fun e w'=>e=.returned (.bool (nm s.data.toList))∧w'=w:=by
 have hz:=dlen s
 cases hw:wd s.data.toList
 ·have H:Hid (nm s.data.toList=false):=by show nm s.data.toList=false;unfold nm;rw [hw];rfl
  go_enter Tryz.func78,Tryz.ntmps78
  go_wp2_with fail
  refine (word_str s _ hl).mono ?_;rintro e w' ⟨rfl,rfl⟩;rw [hw]
  go_wp2_with fail
  go_ret
  exact ⟨by rw [H.out];rfl,rfl⟩
 ·have h0:0<s.size:=by
   cases h:s.data.toList with | nil=>rw [h] at hw;simp [wd] at hw | cons a b=>rw [h] at hz;simp at hz;omega
  have hh:s.data.toList.headD 0=s[0]:=by
   cases s with | mk d=>cases d with | mk l=>cases l with | nil=>simp [ByteArray.size] at h0 | cons a b=>rfl
  cases hq:sm s[0]
  ·have H:Hid (nm s.data.toList=false):=by show nm s.data.toList=false;unfold nm;rw [hh,hq,Bool.and_false,Bool.false_and]
   have HQ:=zz hq
   have HW:=zz hw
   clear hh hq hw hz
   go_enter Tryz.func78,Tryz.ntmps78
   go_wp2_with fail
   refine (word_str s _ hl).mono ?_;rintro e w' ⟨rfl,rfl⟩;rw [HW.out]
   go_wp2_with fail
   refine (small_any _ _).mono ?_;rintro e w' ⟨rfl,rfl⟩;rw [HQ.out]
   go_wp2_with fail
   go_ret
   exact ⟨by rw [H.out];rfl,rfl⟩
  ·have H:Hid (nm s.data.toList=!kw s.data.toList):=by show nm s.data.toList=!kw s.data.toList;unfold nm;rw [hh,hq,hw,Bool.and_true,Bool.true_and]
   have HQ:=zz hq
   have HW:=zz hw
   have HS:=zz (S_of s)
   clear hh hq hw hz
   go_enter Tryz.func78,Tryz.ntmps78
   go_wp2_with fail
   refine (word_str s _ hl).mono ?_;rintro e w' ⟨rfl,rfl⟩;rw [HW.out]
   go_wp2_with fail
   refine (small_any _ _).mono ?_;rintro e w' ⟨rfl,rfl⟩;rw [HQ.out]
   go_wp2_with fail
   have hk:=keyWord_any s.data.toList w'
   rw [HS.out] at hk
   refine hk.mono ?_;rintro e w' ⟨rfl,rfl⟩
   clear hk
   go_wp2_with fail
   go_ret
   exact ⟨by rw [H.out];rfl,rfl⟩
theorem con_str (s:ByteArray) (w:World) (hl:s.size≤281474976710656):Calls Tryz.prog 99 #[.string s] w fun e w'=>e=.returned (.bool (cn s.data.toList))∧w'=w:=by
 have hz:=dlen s
 cases hw:wd s.data.toList
 ·have H:Hid (cn s.data.toList=false):=by show cn s.data.toList=false;unfold cn;rw [hw];rfl
  go_enter Tryz.func99,Tryz.ntmps99
  go_wp2_with fail
  refine (word_str s _ hl).mono ?_;rintro e w' ⟨rfl,rfl⟩;rw [hw]
  go_wp2_with fail
  go_ret
  exact ⟨by rw [H.out];rfl,rfl⟩
 ·have h0:0<s.size:=by
   cases h:s.data.toList with | nil=>rw [h] at hw;simp [wd] at hw | cons a b=>rw [h] at hz;simp at hz;omega
  have hh:s.data.toList.headD 0=s[0]:=by
   cases s with | mk d=>cases d with | mk l=>cases l with | nil=>simp [ByteArray.size] at h0 | cons a b=>rfl
  have H:Hid (cn s.data.toList=gr s[0]):=by show cn s.data.toList=gr s[0];unfold cn;rw [hh,hw,Bool.true_and]
  have HW:=zz hw
  clear hh hw hz
  go_enter Tryz.func99,Tryz.ntmps99
  go_wp2_with fail
  refine (word_str s _ hl).mono ?_;rintro e w' ⟨rfl,rfl⟩;rw [HW.out]
  go_wp2_with fail
  refine (great_any _ _).mono ?_;rintro e w' ⟨rfl,rfl⟩
  go_wp2_with fail
  go_ret
  exact ⟨by rw [H.out];rfl,rfl⟩
theorem name_any (l:List UInt8) (w:World) (hl:l.length≤281474976710656):Calls Tryz.prog 78 #[.string (S l)] w fun e w'=>e=.returned (.bool (nm l))∧w'=w:=name_str (S l) w (by rw [S_size];exact hl)
theorem con_any (l:List UInt8) (w:World) (hl:l.length≤281474976710656):Calls Tryz.prog 99 #[.string (S l)] w fun e w'=>e=.returned (.bool (cn l))∧w'=w:=con_str (S l) w (by rw [S_size];exact hl)
end Go.Proofs.YtcnnlecjdkfdjaaGreatDoor.Ly
