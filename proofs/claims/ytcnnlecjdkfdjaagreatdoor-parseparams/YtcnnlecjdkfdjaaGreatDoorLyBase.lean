/- Parts of the proof. -/
import Derived.Test.YtcnnlecjdkfdjaaGreatDoorTProg
set_option linter.unusedVariables false
set_option linter.unusedSimpArgs false
set_option maxRecDepth 100000
set_option maxHeartbeats 8000000
namespace Go.Proofs.YtcnnlecjdkfdjaaGreatDoor
open Go.RowKit
def progOut (l:List Tk):Pg × (Int × Int) × Int:=match progRun l with
 | .inl n=>(⟨[],[]⟩,plM l n,60)
 | .inr q=>if progM ⟨q.ds,q.fs⟩ then (⟨q.ds,q.fs⟩,(0,0),0) else (⟨[],[]⟩,plM l 0,61)
theorem prog_mass {l:List Tk} {q:Ps} (hm:l.length≤10000) (h:progRun l=.inr q):(∀ d ∈ q.fs,mass d.bd≤900000)∧∀ d ∈ q.ds,d.ps.length≤900000:=by
 have h1:=run_mass (l:=l) (nd:=0) (ps0 [r0 1,r0 0]) good_prog (Nat.zero_le _) q h
 have h2:=run_pos (l:=l) (nd:=0) (ps0 [r0 1,r0 0]) good_prog (Nat.zero_le _)
 have h3:run l (ps0 [r0 1,r0 0])=.inr q:=h
 rw [h3] at h2
 have h4:q.tk≤l.length:=h2.2
 unfold massP at h1
 refine ⟨fun d hd=>?_,fun d hd=>?_⟩
 ·have:=sum_memM (fun d:Df=>mass d.bd) hd
  omega
 ·have:=sum_memM (fun d:Dt=>d.ps.length) hd
  omega
theorem row_rm {α:Type} {c:Nat→Nat} {col:Nat} {w:World} {e:TypeId} {size:Nat} {R:Nat→α→List Value→Prop} {v:Value} {l:List α} {Q:Nat→Prop} {R':α→List Value→Prop} (h:RowOf c col w e size R v l) (hQ:∀ g cs,c g=col→w.heap[g]?=some (.cells cs e (0,0))→Q g) (hR:∀ i t ds,R i t ds→R' t ds):∃ p cap,v=.slice p l.length cap∧SlOK p l.length cap∧RM size Q w R' p l:=by
 have h':=h
 obtain ⟨p,cap,rfl,h1,h2,h3,h4⟩:=h.slice
 refine ⟨p,cap,rfl,⟨h1,by unfold maxLen at h2;omega,fun e=>(h3 e).1⟩,?_⟩
 cases p with
 | none=>exact .inl (h3 rfl).2
 | some a=>
  obtain ⟨g,rfl,hgl,hcg⟩:=h4 a rfl
  obtain ⟨L,_,_,k3,_,_⟩:=h'
  rcases k3.2 with ⟨hv,_⟩ | ⟨g',cap',cur,hv,_,hgb,_⟩
  ·cases hv
  ·cases hv
   refine .inr ⟨g,0,rfl,hQ g cur hcg hgb,fun i t ht=>?_⟩
   obtain ⟨ds,e1,e2,e3⟩:=h.cell ht
   exact ⟨ds,e1,fun j d hj=>by rw [Nat.zero_add];exact e2 j d hj,hR i t ds e3⟩
def put4 (w:World) (b:Nat) (v0 v1 p0 p1:Value):World:=(((w.setCell ⟨b,0,none⟩ v0).setCell ⟨b,1,none⟩ v1).setCell ⟨b+1,0,none⟩ p0).setCell ⟨b+1,1,none⟩ p1
theorem put4_hold {w0 w:World} {b:Nat} {C D:Array Value} (v0 v1 p0 p1:Value) (hC:C.size=2) (hD:D.size=2) (hR:Hold b C 38 w) (hQ:Hold (b+1) D 29 w) (hB:Below b w0 w):(put4 w b v0 v1 p0 p1).cell? ⟨b,0,none⟩=some v0∧(put4 w b v0 v1 p0 p1).cell? ⟨b,1,none⟩=some v1∧(put4 w b v0 v1 p0 p1).cell? ⟨b+1,0,none⟩=some p0∧(put4 w b v0 v1 p0 p1).cell? ⟨b+1,1,none⟩=some p1∧Below b w0 (put4 w b v0 v1 p0 p1)∧KP (fun x=>x≠b∧x≠b+1) w (put4 w b v0 v1 p0 p1):=by
 have n1:b≠b+1:=by omega
 have n2:b+1≠b:=by omega
 match C,hC with
 | ⟨[c0,c1]⟩,_=>
 match D,hD with
 | ⟨[d0,d1]⟩,_=>
  have h1:=(((hR.set 0 v0).set 1 v1).other n1 0 p0).other n1 1 p1
  have h2:=(((hQ.other n2 0 v0).other n2 1 v1).set 0 p0).set 1 p1
  simp only [lSI,lSZ,lSS] at h1 h2
  have hx:∀ x:Nat,b≤b+x:=fun x=>by omega
  refine ⟨h1.cell 0,h1.cell 1,h2.cell 0,h2.cell 1,?_,?_⟩
  ·exact (((hB.setCell (Nat.le_refl _) _).setCell (Nat.le_refl _) _).setCell (hx 1) _).setCell (hx 1) _
  ·exact (((KP.setCell w b 0 v0 (fun h=>h.1 rfl)).trans (KP.setCell _ b 1 v1 (fun h=>h.1 rfl))).trans (KP.setCell _ (b+1) 0 p0 (fun h=>h.2 rfl))).trans (KP.setCell _ (b+1) 1 p1 (fun h=>h.2 rfl))
theorem PgIn2.mono2 {Q P Q' P':Nat→Prop} {w w':World} (kq:KP Q w w') (kp:KP P w w') (hq:∀ b,Q b→Q' b) (hp:∀ b,P b→P' b) (f:Pg) (cs:List Value) (h:PgIn2 Q P w f cs):PgIn2 Q' P' w' f cs:=by
 obtain ⟨pp',cp',pf',cf',h1,h2,h3,h4,h5⟩:=h
 exact ⟨pp',cp',pf',cf',h1,h2,h3,h4.keep kq hq (DtIn.keep kq hq),h5.keep kp hp (DfIn.keep kp hp)⟩
def QU (w:World) (b:Nat):Prop:=b<w.heap.size∧Un w b
theorem pg0_in (Q P:Nat→Prop) (w:World):PgIn2 Q P w ⟨[],[]⟩ [.slice none 0 0,.slice none 0 0]:=⟨none,0,none,0,rfl,⟨Nat.le_refl _,by omega,fun _=>rfl⟩,⟨Nat.le_refl _,by omega,fun _=>rfl⟩,.inl rfl,.inl rfl⟩
theorem qu_pl (w:World):PL (QU w) w:=fun b hb=>by
 obtain ⟨h1,cs,t,h2,_⟩:=hb
 exact ⟨h1,cs,t,h2⟩
theorem QU.keep {w w':World} {b:Nat} (h:QU w b) (hs:w.heap.size≤w'.heap.size) (e:w'.heap[b]?=w.heap[b]?):QU w' b:=⟨Nat.lt_of_lt_of_le h.1 hs,h.2.keep e⟩
theorem pprog_any {P:Nat→Prop} {w:World} {tp:Option Addr} {n tc:Nat} {l:List Tk} (hP:∀ b,P b→b<w.heap.size) (hn:l.length=n) (hK:KM P w tp l) (hm:n≤10000) :
 Calls Tryz.prog 14 #[.slice tp n tc] w fun r w'=>∃ pd cd pf cf,r=.returned (.tuple #[.agg #[.slice pd (progOut l).1.ds.length cd,.slice pf (progOut l).1.fs.length cf],.agg #[.int .i64 (progOut l).2.1.1,.int .i64 (progOut l).2.1.2],.int .i64 (progOut l).2.2])∧PgIn2 (QU w') (fun b=>b<w'.heap.size∧w.heap.size≤b) w' (progOut l).1 [.slice pd (progOut l).1.ds.length cd,.slice pf (progOut l).1.fs.length cf]∧Below w.heap.size w w':=by
 have hmf:=mkf
 obtain ⟨W1,hW1⟩:∃ W1,W1=((w.alloc (.cells #[.slice none 0 0,.slice none 0 0] 38)).alloc (.cells #[.int .i64 0,.int .i64 0] 29)).alloc (.cells (psC tp n tc 0 (.slice none 0 0) (.slice none 0 0) (.slice none 0 0) (.slice none 0 0) (.slice none 0 0) (.slice none 0 0)) 63):=⟨_,rfl⟩
 have hB1:Below w.heap.size w W1:=by rw [hW1];exact (((Below.refl _ w).alloc (Nat.le_refl _) _).alloc (by simp) _).alloc (by simp;omega) _
 have hs1:W1.heap.size=w.heap.size+3:=by rw [hW1];simp
 have hR:Hold w.heap.size #[.slice none 0 0,.slice none 0 0] 38 W1:=by rw [hW1];exact ((Hold.new w _ 38).alloc _).alloc _
 have hQ:Hold (w.heap.size+1) #[.int .i64 0,.int .i64 0] 29 W1:=by rw [hW1];have:=(Hold.new (w.alloc (.cells #[.slice none 0 0,.slice none 0 0] 38)) #[.int .i64 0,.int .i64 0] 29).alloc (.cells (psC tp n tc 0 (.slice none 0 0) (.slice none 0 0) (.slice none 0 0) (.slice none 0 0) (.slice none 0 0) (.slice none 0 0)) 63);simpa using this
 have hBB:Hold (w.heap.size+2) (psC tp n tc 0 (.slice none 0 0) (.slice none 0 0) (.slice none 0 0) (.slice none 0 0) (.slice none 0 0) (.slice none 0 0)) 63 W1:=by rw [hW1];have:=Hold.new ((w.alloc (.cells #[.slice none 0 0,.slice none 0 0] 38)).alloc (.cells #[.int .i64 0,.int .i64 0] 29)) (psC tp n tc 0 (.slice none 0 0) (.slice none 0 0) (.slice none 0 0) (.slice none 0 0) (.slice none 0 0) (.slice none 0 0)) 63;simpa using this
 have hP1:=pm_start hBB hn hm (hK.keep (KP.of_below hB1 hP) (fun b hb=>hb) (fun _ _ h=>h)) (fun b hb=>by have:=hP b hb;omega)
 have hwh:=whole_any (nd:=0) (k0:=1) hP1 (by decide) rfl (Nat.le_refl _) (start_bound l 1 (by omega) (.inr rfl))
 have hEX:progOut l=(match progRun l with | .inl n=>(⟨[],[]⟩,plM l n,60) | .inr q=>if progM ⟨q.ds,q.fs⟩ then (⟨q.ds,q.fs⟩,(0,0),0) else (⟨[],[]⟩,plM l 0,61)):=rfl
 have hrunE:run l { ps0 [] with ru:=[r0 1,r0 0] }=progRun l:=rfl
 rw [hrunE] at hwh
 have hcl:∀ b,b<w.heap.size+2→Imm (colB (w.heap.size+2)) W1 b:=fun b hb=>⟨by omega,by unfold colB;rw [if_neg (by omega)]⟩
 have hkeep:∀ w2:World,KP (Imm (colB (w.heap.size+2)) W1) W1 w2→Below w.heap.size w w2∧Hold w.heap.size #[.slice none 0 0,.slice none 0 0] 38 w2∧Hold (w.heap.size+1) #[.int .i64 0,.int .i64 0] 29 w2:=fun w2 hk=>⟨hB1.trans (hk.below fun b hb=>hcl b (by omega)),(hk.block _ (hcl _ (by omega))).trans hR,(hk.block _ (hcl _ (by omega))).trans hQ⟩
 have HKEEP:=zz hkeep
 have HWH:=zz hwh
 have HEX:=zz hEX
 have HCL:=zz hcl
 clear hwh hP1 hrunE hkeep hR hQ hBB hB1 hEX hcl
 subst hW1
 generalize progOut l=E at *
 unfold psC at HWH
 go_enter Tryz.func14,Tryz.ntmps14
 go_wp2_with fail
 refine HWH.out.mono ?_
 intro e w2 hq
 cases hx:progRun l with
 | inl k=>
  rw [hx] at hq HEX
  obtain ⟨rfl,⟨tp',tc',vr,ve,vs,vf,vd,vp,hB2,hK2⟩,hk2⟩:=hq
  have hEe:E=(⟨[],[]⟩,plM l k,60):=HEX.out
  have hkl:k≤l.length:=by
   have h:=(run_pos (l:=l) (nd:=0) (ps0 [r0 1,r0 0]) good_prog (Nat.zero_le _)).2
   have h2:run l (ps0 [r0 1,r0 0])=.inl k:=hx
   rw [h2] at h
   exact h
  obtain ⟨b2,r2,q2⟩:=HKEEP.out _ hk2
  have hpl:=place_any (k:=k) hB2 (fun b hb=>hb) rfl hK2 (by omega) (by omega)
  have c1:=hB2.cell 1
  simp only [lGA,lGS,lGZ] at c1
  subst hEe
  have HPL:=zz hpl
  have HB2:=zz b2
  have HR2:=zz r2
  have HQ2:=zz q2
  have hs2:w.heap.size+1<w2.heap.size:=q2.lt
  clear hB2 hK2 hk2 hpl b2 r2 q2 HEX HKEEP HWH HCL
  obtain ⟨pl,hple⟩:∃ pl,pl=plM l k:=⟨_,rfl⟩
  rw [← hple] at HPL
  have HPLE:=zz hple
  clear hple
  go_wp2_with fail
  refine HPL.out.mono ?_
  rintro r w3 ⟨rfl,hb3⟩
  have HR3:=zz (HR2.out.below hb3 HR2.out.lt)
  have HQ3:=zz (HQ2.out.below hb3 HQ2.out.lt)
  have HB3:=zz (HB2.out.trans (hb3.mono HB2.out.size))
  clear hb3
  have a0:=HR3.out.cell 0
  have a1:=HR3.out.cell 1
  have d0:=HQ3.out.cell 0
  have d1:=HQ3.out.cell 1
  have f0:=HR3.out.frozen 0
  have f1:=HR3.out.frozen 1
  have g0:=HQ3.out.frozen 0
  have g1:=HQ3.out.frozen 1
  simp only [lGA,lGS,lGZ] at a0 a1 d0 d1
  go_wp2_with fail
  obtain ⟨q0,q1,q2,q3,qB,qK⟩:=put4_hold (.slice none 0 0) (.slice none 0 0) (.int .i64 pl.1) (.int .i64 pl.2) rfl rfl HR3.out HQ3.out HB3.out
  unfold put4 at q0 q1 q2 q3 qB qK
  obtain rfl:=HPLE.out
  exact bodyPost_ret (v:=.tuple #[.agg #[.slice none 0 0,.slice none 0 0],.agg #[.int .i64 (plM l k).1,.int .i64 (plM l k).2],.int .i64 60]) (by simp only [results,Tryz.results14];go_simp) rfl ⟨none,0,none,0,rfl,pg0_in _ _ _,qB⟩
 | inr q=>
  rw [hx] at hq HEX
  obtain ⟨rfl,c',⟨tp',tc',vr,ve,vs,vf,vd,vp,hS⟩,hi,hk2⟩:=hq
  have hEe:E=(if progM ⟨q.ds,q.fs⟩ then (⟨q.ds,q.fs⟩,(0,0),0) else (⟨[],[]⟩,plM l 0,61)):=HEX.out
  obtain ⟨hm1,hm2⟩:=prog_mass (by omega) hx
  obtain ⟨b2,r2,q2⟩:=HKEEP.out _ hk2
  obtain ⟨pd,cd,rfl,hsd,hrd⟩:=row_rm (Q:=QU w2) (R':=DtIn (QU w2) w2) hS.dts (fun g cs hc hg=>⟨(Array.getElem?_eq_some_iff.1 hg).1,cs,_,hg,by decide⟩) (fun i t ds h=>DtIn.keep (KP.refl _ w2) (fun b hb=>⟨hb.1.1,hb.2⟩) t ds h)
  obtain ⟨pf,cf,rfl,hsf,hrf⟩:=row_rm (Q:=fun b=>b<w2.heap.size∧w.heap.size+2≤b) (R':=DfIn (fun b=>b<w2.heap.size∧w.heap.size+2≤b) w2) hS.dfs (fun g cs hc hg=>⟨(Array.getElem?_eq_some_iff.1 hg).1,Nat.le_of_not_lt fun e=>by have:=(hi _ (HCL.out g e)).2;rw [this] at hc;cases hc⟩) (fun i t ds h=>DfIn.keep (KP.refl _ w2) (fun b hb=>⟨hb.1.1,Nat.le_of_lt hb.2⟩) t ds h)
  have hE:PgIn2 (QU w2) (fun b=>b<w2.heap.size∧w.heap.size+2≤b) w2 ⟨q.ds,q.fs⟩ [.slice pd q.ds.length cd,.slice pf q.fs.length cf]:=⟨pd,cd,pf,cf,rfl,hsd,hsf,hrd,hrf⟩
  have hck:=tprog_any2 (p:=⟨q.ds,q.fs⟩) (qu_pl w2) (fun b hb=>hb.1) hE (fun d hd=>mass_D (hm1 d hd))
  have c6:=hS.hold.cell 6
  have c7:=hS.hold.cell 7
  simp only [lGA,lGS,lGZ] at c6 c7
  have HCK:=zz hck
  have HS:=zz hS
  have HB2:=zz b2
  have HR2:=zz r2
  have HQ2:=zz q2
  have HE:=zz hE
  have HEE:=zz hEe
  have hs2:w.heap.size+1<w2.heap.size:=q2.lt
  clear hS hk2 b2 r2 q2 HEX HKEEP HWH HCL hck hE hEe hm1 hm2 hi hx hrd hrf hsd hsf
  go_wp2_with fail
  refine HCK.out.mono ?_
  rintro r w3 ⟨rfl,hb3⟩
  have HR3:=zz (HR2.out.below hb3 HR2.out.lt)
  have HQ3:=zz (HQ2.out.below hb3 HQ2.out.lt)
  have HB3:=zz (HB2.out.trans (hb3.mono HB2.out.size))
  have HS3:=zz (HS.out.below hb3 (c':=c') fun _ _=>rfl)
  have HE3:=zz (PgIn2.keep (KP.of_below hb3 fun b hb=>hb.1) (KP.of_below hb3 fun b hb=>hb.1) _ _ HE.out)
  have HK3:=zz (KP.of_below (P:=fun b=>b<w2.heap.size) hb3 fun b hb=>hb)
  have c6':=HS3.out.hold.cell 6
  have c7':=HS3.out.hold.cell 7
  simp only [lGA,lGS,lGZ] at c6' c7'
  clear hb3 c6 c7
  cases hc:progM ⟨q.ds,q.fs⟩
  ·rw [hc] at HEE
   obtain rfl:E=(⟨[],[]⟩,plM l 0,61):=HEE.out
   have hpl:=place_any (k:=0) HS3.out.hold (fun b hb=>hb.1) rfl HS3.out.toks (by omega) (by omega)
   have HPL:=zz hpl
   clear hpl hc c6' c7'
   obtain ⟨pl,hple⟩:∃ pl,pl=plM l 0:=⟨_,rfl⟩
   rw [← hple] at HPL
   have HPLE:=zz hple
   clear hple
   go_wp2_with fail
   refine HPL.out.mono ?_
   rintro r w4 ⟨rfl,hb4⟩
   have HR4:=zz (HR3.out.below hb4 HR3.out.lt)
   have HQ4:=zz (HQ3.out.below hb4 HQ3.out.lt)
   have HB4:=zz (HB3.out.trans (hb4.mono HB3.out.size))
   clear hb4
   have a0:=HR4.out.cell 0
   have a1:=HR4.out.cell 1
   have d0:=HQ4.out.cell 0
   have d1:=HQ4.out.cell 1
   have f0:=HR4.out.frozen 0
   have f1:=HR4.out.frozen 1
   have g0:=HQ4.out.frozen 0
   have g1:=HQ4.out.frozen 1
   simp only [lGA,lGS,lGZ] at a0 a1 d0 d1
   go_wp2_with fail
   obtain ⟨q0,q1,q2,q3,qB,qK⟩:=put4_hold (.slice none 0 0) (.slice none 0 0) (.int .i64 pl.1) (.int .i64 pl.2) rfl rfl HR4.out HQ4.out HB4.out
   unfold put4 at q0 q1 q2 q3 qB qK
   obtain rfl:=HPLE.out
   exact bodyPost_ret (v:=.tuple #[.agg #[.slice none 0 0,.slice none 0 0],.agg #[.int .i64 (plM l 0).1,.int .i64 (plM l 0).2],.int .i64 61]) (by simp only [results,Tryz.results14];go_simp) rfl ⟨none,0,none,0,rfl,pg0_in _ _ _,qB⟩
  ·rw [hc] at HEE
   obtain rfl:E=(⟨q.ds,q.fs⟩,(0,0),0):=HEE.out
   clear hc
   have a0:=HR3.out.cell 0
   have a1:=HR3.out.cell 1
   have d0:=HQ3.out.cell 0
   have d1:=HQ3.out.cell 1
   have f0:=HR3.out.frozen 0
   have f1:=HR3.out.frozen 1
   have g0:=HQ3.out.frozen 0
   have g1:=HQ3.out.frozen 1
   simp only [lGA,lGS,lGZ] at a0 a1 d0 d1
   go_wp2_with fail
   obtain ⟨q0,q1,q2,q3,qB,qK⟩:=put4_hold (.slice pd q.ds.length cd) (.slice pf q.fs.length cf) (.int .i64 0) (.int .i64 0) rfl rfl HR3.out HQ3.out HB3.out
   have hun:∀ b,QU w2 b→b≠w.heap.size∧b≠w.heap.size+1:=fun b hb=>by
    obtain ⟨h1,cs,t,h2,h3,h4⟩:=hb
    refine ⟨fun e=>?_,fun e=>?_⟩
    ·have h5:=HR2.out
     unfold Hold at h5
     rw [← e,h2] at h5
     cases h5
     exact h4 rfl
    ·have h5:=HQ2.out
     unfold Hold at h5
     rw [← e,h2] at h5
     cases h5
     exact h3 rfl
   have hin:=PgIn2.mono2 (Q:=QU w2) (Q':=QU (put4 w3 w.heap.size (.slice pd q.ds.length cd) (.slice pf q.fs.length cf) (.int .i64 0) (.int .i64 0))) (P':=fun b=>b<(put4 w3 w.heap.size (.slice pd q.ds.length cd) (.slice pf q.fs.length cf) (.int .i64 0) (.int .i64 0)).heap.size∧w.heap.size≤b) (qK.mono fun b hb=>hun b hb) (qK.mono fun b hb=>⟨by have:=hb.2;omega,by have:=hb.2;omega⟩) (fun b hb=>hb.keep (Nat.le_trans HK3.out.size qK.size) ((qK.block b (hun b hb)).trans (HK3.out.block b hb.1))) (fun b hb=>⟨Nat.lt_of_lt_of_le hb.1 (Nat.le_trans HK3.out.size qK.size),by have:=hb.2;omega⟩) _ _ HE3.out
   unfold put4 at q0 q1 q2 q3 qB qK hin
   exact bodyPost_ret (v:=.tuple #[.agg #[.slice pd q.ds.length cd,.slice pf q.fs.length cf],.agg #[.int .i64 0,.int .i64 0],.int .i64 0]) (by simp only [results,Tryz.results14];go_simp) rfl ⟨pd,cd,pf,cf,rfl,hin,qB⟩
end Go.Proofs.YtcnnlecjdkfdjaaGreatDoor
namespace Go.Proofs.YtcnnlecjdkfdjaaGreatDoor.Ly
def dg (c:UInt8):Bool:=decide (48≤(c.toNat:Int)) && decide ((c.toNat:Int)≤57)
def sm (c:UInt8):Bool:=decide (97≤(c.toNat:Int)) && decide ((c.toNat:Int)≤122)
def gr (c:UInt8):Bool:=decide (65≤(c.toNat:Int)) && decide ((c.toNat:Int)≤90)
def pt (c:UInt8):Bool:=sm c || gr c || dg c
def kw (l:List UInt8):Bool:=l == [99,97,115,101] || l == [111,102] || l == [108,101,116] || l == [105,110] || l == [100,111] || l == [100,111,115] || l == [105,102] || l == [116,104,101,110] || l == [101,108,115,101] || l == [100,97,116,97]
def sg (l:List UInt8):Bool:=l == [45,62] || l == [60,45] || l == [61,61] || l == [61] || l == [60] || l == [43] || l == [45] || l == [42] || l == [47] || l == [92] || l == [40] || l == [41] || l == [123] || l == [125] || l == [59] || l == [124]
def ky (l:List UInt8):Bool:=kw l || sg l
def wd (l:List UInt8):Bool:=!l.isEmpty && decide (l.length≤20) && l.all pt
def nm (l:List UInt8):Bool:=wd l && sm (l.headD 0) && !kw l
def cn (l:List UInt8):Bool:=wd l && gr (l.headD 0)
def nv (l:List UInt8):Nat:=l.foldl (fun n c=>n * 10+(c.toNat - 48)) 0
def big:Nat:=9223372036854775807
def tl:List UInt8→Nat
 | []=>0
 | c :: r=>if dg c then 1+(r.takeWhile dg).length else if pt c then 1+(r.takeWhile pt).length else match r with | []=>1 | d :: _=>if sg [c,d] then 2 else 1
def tk (l:List UInt8):Option (Int × Int):=
 if dg (l.headD 0) then (if nv l≤big then some (1,(nv l:Int)) else none) else if ky l then some (4,0) else if nm l then some (2,0) else if cn l then some (3,0) else none
def gp (l:List UInt8):List UInt8:=l.dropWhile (· == 32)
def sk (l:List UInt8):List UInt8:=if (gp l).take 2 == [45,45] then [] else gp l
structure Tok where
 kd:Int
 tx:List UInt8
 nu:Int
 ln:Int
 co:Int
def rawL (n:Int):Nat→Nat→List UInt8→List Tok × Option (Int × Int)
 | 0,_,_=>([],none)
 | f+1,at_,l=>match sk l with
  | []=>([],none)
  | c :: r=>match tk ((c :: r).take (tl (c :: r))) with
   | none=>([],some (n,((at_+(l.length - (r.length+1)):Nat):Int)+1))
   | some x=>(⟨x.1,(c :: r).take (tl (c :: r)),x.2,n,((at_+(l.length - (r.length+1)):Nat):Int)+1⟩ :: (rawL n f (at_+(l.length - (r.length+1))+tl (c :: r)) ((c :: r).drop (tl (c :: r)))).1,
    (rawL n f (at_+(l.length - (r.length+1))+tl (c :: r)) ((c :: r).drop (tl (c :: r)))).2)
def raw (n:Int) (at_:Nat) (l:List UInt8):List Tok × Option (Int × Int):=rawL n l.length at_ l
theorem gp_le (l:List UInt8):(gp l).length≤l.length:=by
 unfold gp;induction l with
 | nil=>simp
 | cons a r ih=>simp only [List.dropWhile_cons];split <;> simp <;> omega
theorem sk_le (l:List UInt8):(sk l).length≤l.length:=by
 unfold sk;split
 ·simp
 ·exact gp_le l
theorem tl_pos (c:UInt8) (r:List UInt8):1≤tl (c :: r):=by
 simp only [tl];split
 ·omega
 ·split
  ·omega
  ·split
   ·omega
   ·split <;> omega
theorem tw_le {p:UInt8→Bool} (r:List UInt8):(r.takeWhile p).length≤r.length:=by
 induction r with
 | nil=>simp
 | cons a r ih=>simp only [List.takeWhile_cons];split <;> simp;omega
theorem tl_le (l:List UInt8):tl l≤l.length:=by
 cases l with
 | nil=>simp [tl]
 | cons c r=>
  simp only [tl];split
  ·have:=tw_le (p:=dg) r;simp;omega
  ·split
   ·have:=tw_le (p:=pt) r;simp;omega
   ·split
    ·simp
    ·split <;> simp
theorem rawL_fuel (n:Int):∀ (f g at_:Nat) (l:List UInt8),l.length≤f→l.length≤g→rawL n f at_ l=rawL n g at_ l:=by
 intro f
 induction f with
 | zero=>
  intro g at_ l hf hg
  obtain rfl:l=[]:=List.length_eq_zero_iff.1 (by omega)
  cases g with
  | zero=>rfl
  | succ g=>simp [rawL,sk,gp]
 | succ f ih=>
  intro g at_ l hf hg
  cases g with
  | zero=>
   obtain rfl:l=[]:=List.length_eq_zero_iff.1 (by omega)
   simp [rawL,sk,gp]
  | succ g=>
   unfold rawL
   have hk:=sk_le l
   cases hs:sk l with
   | nil=>rfl
   | cons c r=>
    rw [hs] at hk
    have hp:=tl_pos c r
    simp only [List.length_cons] at hk
    have hd:((c :: r).drop (tl (c :: r))).length≤r.length:=by simp only [List.length_drop,List.length_cons];omega
    simp only
    rw [ih g _ _ (by omega) (by omega)]
theorem raw_step (n:Int) (at_:Nat) (l:List UInt8):raw n at_ l=match sk l with
 | []=>([],none)
 | c :: r=>match tk ((c :: r).take (tl (c :: r))) with
  | none=>([],some (n,((at_+(l.length - (r.length+1)):Nat):Int)+1))
  | some x=>(⟨x.1,(c :: r).take (tl (c :: r)),x.2,n,((at_+(l.length - (r.length+1)):Nat):Int)+1⟩ :: (raw n (at_+(l.length - (r.length+1))+tl (c :: r)) ((c :: r).drop (tl (c :: r)))).1,
   (raw n (at_+(l.length - (r.length+1))+tl (c :: r)) ((c :: r).drop (tl (c :: r)))).2):=by
 have hk:=sk_le l
 cases l with
 | nil=>simp [raw,rawL,sk,gp]
 | cons a b=>
  unfold raw
  simp only [List.length_cons]
  rw [rawL]
  cases hs:sk (a :: b) with
  | nil=>rfl
  | cons c r=>
   rw [hs] at hk
   simp only [List.length_cons] at hk
   have hp:=tl_pos c r
   have hd:((c :: r).drop (tl (c :: r))).length≤b.length:=by simp only [List.length_drop,List.length_cons];omega
   simp only [List.length_cons]
   rw [rawL_fuel n b.length _ _ _ hd (Nat.le_refl _)]
def spl:List UInt8→List (List UInt8)
 | []=>[[]]
 | c :: r=>if c == 10 then [] :: spl r else match spl r with | []=>[[c]] | h :: t=>(c :: h) :: t
def num (n:Int):List (List UInt8)→List (Int × List UInt8)
 | []=>[]
 | h :: t=>(n,h) :: num (n+1) t
def rawLs:List (Int × List UInt8)→List Tok × Option (Int × Int)
 | []=>([],none)
 | x :: r=>match (raw x.1 0 x.2).2 with
  | some e=>((raw x.1 0 x.2).1,some e)
  | none=>((raw x.1 0 x.2).1 ++ (rawLs r).1,(rawLs r).2)
def pl (t:Tok):Int × Int:=(t.ln,t.co)
def cap (q:List Tok × Option (Int × Int)):List Tok × Option (Int × Int):=
 match q.1[2000]? with
 | some t=>([],some (pl t))
 | none=>match q.2 with
  | some e=>([],some e)
  | none=>(q.1,none)
def lexM (l:List UInt8):List Tok × Option (Int × Int):=cap (rawLs (num 1 (spl l)))
theorem rawLs_append (a b:List (Int × List UInt8)):rawLs (a ++ b)=match (rawLs a).2 with
 | some e=>((rawLs a).1,some e)
 | none=>((rawLs a).1 ++ (rawLs b).1,(rawLs b).2):=by
 induction a with
 | nil=>simp [rawLs]
 | cons x r ih=>
  simp only [List.cons_append,rawLs]
  cases h:(raw x.1 0 x.2).2 with
  | some e=>simp
  | none=>
   simp only [ih]
   cases h2:(rawLs r).2 <;> simp [List.append_assoc]
theorem cap_stays (a b:List (Int × List UInt8)) {e:Int × Int} (h:(cap (rawLs a)).2=some e):cap (rawLs (a ++ b))=([],some e):=by
 rw [rawLs_append]
 unfold cap at h ⊢
 cases h1:(rawLs a).1[2000]? with
 | some t=>
  rw [h1] at h
  simp only [Option.some.injEq] at h
  have hl:2000<(rawLs a).1.length:=(List.getElem?_eq_some_iff.1 h1).1
  cases h2:(rawLs a).2 with
  | some e'=>simp only [h1,h]
  | none=>simp only [List.getElem?_append_left hl,h1,h]
 | none=>
  rw [h1] at h
  cases h2:(rawLs a).2 with
  | some e'=>rw [h2] at h;simp only [Option.some.injEq] at h;simp only [h1,h]
  | none=>rw [h2] at h;simp at h
open Go.RowKit
theorem zz {p:Prop} (h:p):Hid p:=h
def S (l:List UInt8):ByteArray:=⟨l.toArray⟩
theorem S_data (l:List UInt8):(S l).data.toList=l:=rfl
theorem S_list (l:List UInt8):(S l).toList=l:=by rw [ByteArray.toList_eq];rfl
theorem S_size (l:List UInt8):(S l).size=l.length:=by simp [S,ByteArray.size]
theorem S_of (s:ByteArray):S s.data.toList=s:=by cases s;simp [S]
theorem digit_any (c:UInt8) (w:World):Calls Tryz.prog 96 #[.int .u8 c.toNat] w fun e w'=>e=.returned (.bool (dg c))∧w'=w:=by
 unfold dg
 generalize (c.toNat:Int)=n
 by_cases h:48≤n <;>
 ·go_enter Tryz.func96,Tryz.ntmps96
  go_wp2
  go_ret
  exact ⟨by simp;try omega,rfl⟩
theorem small_any (c:UInt8) (w:World):Calls Tryz.prog 144 #[.int .u8 c.toNat] w fun e w'=>e=.returned (.bool (sm c))∧w'=w:=by
 unfold sm
 generalize (c.toNat:Int)=n
 by_cases h:97≤n <;>
 ·go_enter Tryz.func144,Tryz.ntmps144
  go_wp2
  go_ret
  exact ⟨by simp;try omega,rfl⟩
theorem great_any (c:UInt8) (w:World):Calls Tryz.prog 165 #[.int .u8 c.toNat] w fun e w'=>e=.returned (.bool (gr c))∧w'=w:=by
 unfold gr
 generalize (c.toNat:Int)=n
 by_cases h:65≤n <;>
 ·go_enter Tryz.func165,Tryz.ntmps165
  go_wp2
  go_ret
  exact ⟨by simp;try omega,rfl⟩
theorem inWord_any (c:UInt8) (w:World):Calls Tryz.prog 166 #[.int .u8 c.toNat] w fun e w'=>e=.returned (.bool (pt c))∧w'=w:=by
 unfold pt
 cases h1:sm c
 ·cases h2:gr c
  ·go_enter Tryz.func166,Tryz.ntmps166
   go_wp2_with fail
   refine (small_any _ _).mono ?_;rintro e w' ⟨rfl,rfl⟩;rw [h1]
   go_wp2_with fail
   refine (great_any _ _).mono ?_;rintro e w' ⟨rfl,rfl⟩;rw [h2]
   go_wp2_with fail
   refine (digit_any _ _).mono ?_;rintro e w' ⟨rfl,rfl⟩
   go_wp2_with fail
   go_ret
   exact ⟨by simp,rfl⟩
  ·go_enter Tryz.func166,Tryz.ntmps166
   go_wp2_with fail
   refine (small_any _ _).mono ?_;rintro e w' ⟨rfl,rfl⟩;rw [h1]
   go_wp2_with fail
   refine (great_any _ _).mono ?_;rintro e w' ⟨rfl,rfl⟩;rw [h2]
   go_wp2_with fail
   go_ret
   exact ⟨by simp,rfl⟩
 ·go_enter Tryz.func166,Tryz.ntmps166
  go_wp2_with fail
  refine (small_any _ _).mono ?_;rintro e w' ⟨rfl,rfl⟩;rw [h1]
  go_wp2_with fail
  go_ret
  exact ⟨by simp,rfl⟩
theorem keyWord_any (l:List UInt8) (w:World):Calls Tryz.prog 145 #[.string (S l)] w fun e w'=>e=.returned (.bool (kw l))∧w'=w:=by
 have hl:=S_list l
 unfold kw
 generalize S l=s at *
 subst hl
 go_enter Tryz.func145,Tryz.ntmps145
 go_wp2
 all_goals first | (exfalso;simp_all;done) | skip
 all_goals go_ret
 all_goals exact ⟨by simp_all,rfl⟩
theorem sign_any (l:List UInt8) (w:World):Calls Tryz.prog 164 #[.string (S l)] w fun e w'=>e=.returned (.bool (sg l))∧w'=w:=by
 have hl:=S_list l
 unfold sg
 generalize S l=s at *
 subst hl
 go_enter Tryz.func164,Tryz.ntmps164
 go_wp2
 all_goals first | (exfalso;simp_all;done) | skip
 all_goals go_ret
 all_goals exact ⟨by simp_all,rfl⟩
theorem key_any (l:List UInt8) (w:World):Calls Tryz.prog 98 #[.string (S l)] w fun e w'=>e=.returned (.bool (ky l))∧w'=w:=by
 unfold ky
 cases h:kw l
 ·go_enter Tryz.func98,Tryz.ntmps98
  go_wp2_with fail
  refine (keyWord_any _ _).mono ?_;rintro e w' ⟨rfl,rfl⟩;rw [h]
  go_wp2_with fail
  refine (sign_any _ _).mono ?_;rintro e w' ⟨rfl,rfl⟩
  go_wp2_with fail
  go_ret
  exact ⟨by simp,rfl⟩
 ·go_enter Tryz.func98,Tryz.ntmps98
  go_wp2_with fail
  refine (keyWord_any _ _).mono ?_;rintro e w' ⟨rfl,rfl⟩;rw [h]
  go_wp2_with fail
  go_ret
  exact ⟨by simp,rfl⟩
theorem all_take_succ (p:UInt8→Bool) (l:List UInt8) (k:Nat) (h:k<l.length):(l.take (k+1)).all p=((l.take k).all p && p l[k]):=by
 rw [List.take_succ_eq_append_getElem h,List.all_append];simp
theorem all_of_bad (p:UInt8→Bool) (l:List UInt8) (k:Nat) (h:k<l.length) (hb:p l[k]=false):l.all p=false:=by
 rw [List.all_eq_false];exact ⟨l[k],List.getElem_mem h,by simp [hb]⟩
theorem dget (s:ByteArray) (k:Nat) (h:k<s.size) (h':k<s.data.toList.length):s[k]=s.data.toList[k]:=rfl
theorem dlen (s:ByteArray):s.data.toList.length=s.size:=Array.length_toList
theorem word_str (s:ByteArray) (w:World) (hl:s.size≤281474976710656):Calls Tryz.prog 143 #[.string s] w fun e w'=>e=.returned (.bool (wd s.data.toList))∧w'=w:=by
 have hs:=ByteArray.toList_eq s
 have hz:=dlen s
 by_cases h0:s.size=0
 ·have e0:s.data.toList=[]:=List.length_eq_zero_iff.1 (by omega)
  have H:Hid (wd s.data.toList=false):=by show wd s.data.toList=false;rw [e0];rfl
  have h1:(s.toList == [])=true:=by rw [hs,e0];rfl
  clear h0 hs e0 hz
  go_enter Tryz.func143,Tryz.ntmps143
  go_wp2
  go_ret
  exact ⟨by rw [H.out];rfl,rfl⟩
 ·have h1:(s.toList == [])=false:=by
   rw [hs];cases h:s.data.toList with | nil=>rw [h] at hz;simp at hz;omega | cons a b=>rfl
  have hne:s.data.toList.isEmpty=false:=by cases h:s.data.toList with | nil=>rw [h] at hz;simp at hz;omega | cons a b=>rfl
  by_cases h20:20<(s.size:Int)
  ·have H:Hid (wd s.data.toList=false):=by show wd s.data.toList=false;unfold wd;rw [hz,show decide (s.size≤20)=false from by simp;omega];simp
   clear h0 hs hne hz
   go_enter Tryz.func143,Tryz.ntmps143
   go_wp2
   go_ret
   exact ⟨by rw [H.out];rfl,rfl⟩
  ·have H:Hid (wd s.data.toList=s.data.toList.all pt):=by
    show wd s.data.toList=s.data.toList.all pt;unfold wd;rw [hne,hz,show decide (s.size≤20)=true from by simp;omega];simp
   have HZ:=zz hz
   clear h0 hs hne hz
   go_enter Tryz.func143,Tryz.ntmps143
   go_wp2
   go_loop [13] (fun i=>∃ k:Nat,k≤s.size∧i=.int .i64 k∧(s.data.toList.take k).all pt=true) (fun i=>s.size - (intOf i).toNat)
   case atStart=>exact ⟨0,Nat.zero_le _,rfl,rfl⟩
   case round=>
    obtain ⟨k,hk,rfl,hall⟩:=hrel
    have HA:=zz hall
    clear hall
    by_cases hlt:k<s.size
    ·have hlt':k<s.data.toList.length:=by rw [HZ.out];exact hlt
     have HT:=zz (all_take_succ pt _ k hlt')
     have hb:=all_of_bad pt _ k hlt'
     have HD:=zz (dget s k hlt hlt')
     cases hq:pt s[k]
     ·have HB:=zz (hb hq)
      clear hb
      go_wp2_with fail
      refine (inWord_any _ _).mono ?_;rintro e w' ⟨rfl,rfl⟩;rw [hq]
      go_wp2_with fail
      go_ret
      exact ⟨by rw [H.out,HB.out];rfl,rfl⟩
     ·clear hb
      have HQ:=zz hq
      go_wp2_with fail
      refine (inWord_any _ _).mono ?_;rintro e w' ⟨rfl,rfl⟩;rw [HQ.out]
      go_wp2_with fail
      go_round
      case rel=>exact ⟨k+1,by omega,by go_num,by rw [HT.out,HA.out,← HD.out,HQ.out];rfl⟩
      case measure=>simp [intOf];omega
    ·go_wp2
     go_ret
     exact ⟨by rw [H.out,← HA.out,List.take_of_length_le (by rw [HZ.out];omega)];rfl,rfl⟩
theorem name_str (s:ByteArray) (w:World) (hl:s.size≤281474976710656):Calls Tryz.prog 78 #[.string s] w fun e w'=>e=.returned (.bool (nm s.data.toList))∧w'=w:=by
 have hz:=dlen s
 cases hw:wd s.data.toList
 ·have H:Hid (nm s.data.toList=false):=by show nm s.data.toList=false;unfold nm;rw [hw];rfl
  go_enter Tryz.func78,Tryz.ntmps78
  go_wp2_with fail
  refine (word_str s _ hl).mono ?_;rintro e w' ⟨rfl,rfl⟩;rw [hw]
  go_wp2_with fail
  go_ret
  exact ⟨by rw [H.out];rfl,rfl⟩
 ·have h0:0<s.size:=by
   cases h:s.data.toList with | nil=>rw [h] at hw;simp [wd] at hw | cons a b=>rw [h] at hz;simp at hz;omega
  have hh:s.data.toList.headD 0=s[0]:=by
   cases s with | mk d=>cases d with | mk l=>cases l with | nil=>simp [ByteArray.size] at h0 | cons a b=>rfl
  cases hq:sm s[0]
  ·have H:Hid (nm s.data.toList=false):=by show nm s.data.toList=false;unfold nm;rw [hh,hq,Bool.and_false,Bool.false_and]
   have HQ:=zz hq
   have HW:=zz hw
   clear hh hq hw hz
   go_enter Tryz.func78,Tryz.ntmps78
   go_wp2_with fail
   refine (word_str s _ hl).mono ?_;rintro e w' ⟨rfl,rfl⟩;rw [HW.out]
   go_wp2_with fail
   refine (small_any _ _).mono ?_;rintro e w' ⟨rfl,rfl⟩;rw [HQ.out]
   go_wp2_with fail
   go_ret
   exact ⟨by rw [H.out];rfl,rfl⟩
  ·have H:Hid (nm s.data.toList=!kw s.data.toList):=by show nm s.data.toList=!kw s.data.toList;unfold nm;rw [hh,hq,hw,Bool.and_true,Bool.true_and]
   have HQ:=zz hq
   have HW:=zz hw
   have HS:=zz (S_of s)
   clear hh hq hw hz
   go_enter Tryz.func78,Tryz.ntmps78
   go_wp2_with fail
   refine (word_str s _ hl).mono ?_;rintro e w' ⟨rfl,rfl⟩;rw [HW.out]
   go_wp2_with fail
   refine (small_any _ _).mono ?_;rintro e w' ⟨rfl,rfl⟩;rw [HQ.out]
   go_wp2_with fail
   have hk:=keyWord_any s.data.toList w'
   rw [HS.out] at hk
   refine hk.mono ?_;rintro e w' ⟨rfl,rfl⟩
   clear hk
   go_wp2_with fail
   go_ret
   exact ⟨by rw [H.out];rfl,rfl⟩
theorem con_str (s:ByteArray) (w:World) (hl:s.size≤281474976710656):Calls Tryz.prog 99 #[.string s] w fun e w'=>e=.returned (.bool (cn s.data.toList))∧w'=w:=by
 have hz:=dlen s
 cases hw:wd s.data.toList
 ·have H:Hid (cn s.data.toList=false):=by show cn s.data.toList=false;unfold cn;rw [hw];rfl
  go_enter Tryz.func99,Tryz.ntmps99
  go_wp2_with fail
  refine (word_str s _ hl).mono ?_;rintro e w' ⟨rfl,rfl⟩;rw [hw]
  go_wp2_with fail
  go_ret
  exact ⟨by rw [H.out];rfl,rfl⟩
 ·have h0:0<s.size:=by
   cases h:s.data.toList with | nil=>rw [h] at hw;simp [wd] at hw | cons a b=>rw [h] at hz;simp at hz;omega
  have hh:s.data.toList.headD 0=s[0]:=by
   cases s with | mk d=>cases d with | mk l=>cases l with | nil=>simp [ByteArray.size] at h0 | cons a b=>rfl
  have H:Hid (cn s.data.toList=gr s[0]):=by show cn s.data.toList=gr s[0];unfold cn;rw [hh,hw,Bool.true_and]
  have HW:=zz hw
  clear hh hw hz
  go_enter Tryz.func99,Tryz.ntmps99
  go_wp2_with fail
  refine (word_str s _ hl).mono ?_;rintro e w' ⟨rfl,rfl⟩;rw [HW.out]
  go_wp2_with fail
  refine (great_any _ _).mono ?_;rintro e w' ⟨rfl,rfl⟩
  go_wp2_with fail
  go_ret
  exact ⟨by rw [H.out];rfl,rfl⟩
theorem name_any (l:List UInt8) (w:World) (hl:l.length≤281474976710656):Calls Tryz.prog 78 #[.string (S l)] w fun e w'=>e=.returned (.bool (nm l))∧w'=w:=name_str (S l) w (by rw [S_size];exact hl)
theorem con_any (l:List UInt8) (w:World) (hl:l.length≤281474976710656):Calls Tryz.prog 99 #[.string (S l)] w fun e w'=>e=.returned (.bool (cn l))∧w'=w:=con_str (S l) w (by rw [S_size];exact hl)
def t0:Value:=.agg #[.int .i64 0,.string ⟨#[]⟩,.int .i64 0,.int .i64 0,.int .i64 0]
def tc (t:Tok):List Value:=[.int .i64 t.kd,.string (S t.tx),.int .i64 t.nu,.int .i64 t.ln,.int .i64 t.co]
def tv (t:Tok):Value:=.agg #[.int .i64 t.kd,.string (S t.tx),.int .i64 t.nu,.int .i64 t.ln,.int .i64 t.co]
def tcs (l:List Tok):List Value:=l.flatMap tc
theorem tcs_snoc (l:List Tok) (t:Tok):tcs (l ++ [t])=tcs l ++ tc t:=by simp [tcs]
theorem info32:(Tryz.prog.info? 51).map (fun i=>(i.zero,i.size,i.bytes))=some (some t0,5,48):=by kernel_rfl
structure Blk where
 sg:List UInt8
 cl:Int
def bc (b:Blk):List Value:=[.string (S b.sg),.int .i64 b.cl]
def bv (b:Blk):Value:=.agg #[.string (S b.sg),.int .i64 b.cl]
def bcs (l:List Blk):List Value:=l.flatMap bc
theorem bcs_snoc (l:List Blk) (t:Blk):bcs (l ++ [t])=bcs l ++ bc t:=by simp [bcs]
def b0:Value:=.agg #[.string ⟨#[]⟩,.int .i64 0]
theorem info78:(Tryz.prog.info? 146).map (fun i=>(i.zero,i.size,i.bytes))=some (some b0,2,24):=by kernel_rfl
theorem bcs_len (ts:List Blk):(bcs ts).length=ts.length * 2:=by
 induction ts with
 | nil=>rfl
 | cons a r ih=>
  have e:bcs (a :: r)=bc a ++ bcs r:=rfl
  have e5:(bc a).length=2:=rfl
  rw [e,List.length_append,ih,e5,List.length_cons];omega
theorem tcs_len (ts:List Tok):(tcs ts).length=ts.length * 5:=by
 induction ts with
 | nil=>rfl
 | cons a r ih=>
  have e:tcs (a :: r)=tc a ++ tcs r:=rfl
  have e5:(tc a).length=5:=rfl
  rw [e,List.length_append,ih,e5,List.length_cons];omega
def Hold (b:Nat) (C:Array Value) (t:TypeId) (W:World):Prop:=W.heap[b]?=some (Obj.cells C t (0,0))
theorem Hold.new (W:World) (C:Array Value) (t:TypeId):Hold W.heap.size C t (W.alloc (.cells C t)):=by
 show (W.heap.push _)[W.heap.size]?=_
 simp
theorem Hold.alloc {b:Nat} {C:Array Value} {t:TypeId} {W:World} (h:Hold b C t W) (o:Obj):Hold b C t (W.alloc o):=(Below.heap_alloc W o b (Array.getElem?_eq_some_iff.1 h).1).trans h
theorem Hold.lt {b:Nat} {C:Array Value} {t:TypeId} {W:World} (h:Hold b C t W):b<W.heap.size:=(Array.getElem?_eq_some_iff.1 h).1
theorem Hold.set {b:Nat} {C:Array Value} {t:TypeId} {W:World} (h:Hold b C t W) (i:Nat) (v:Value):Hold b (C.setIfInBounds i v) t (W.setCell ⟨b,i,none⟩ v):=by
 obtain ⟨hlt,hk⟩:=Array.getElem?_eq_some_iff.1 h
 show (W.heap.modify b _)[b]?=_
 rw [Array.getElem?_eq_getElem (by rw [Array.size_modify];exact hlt),Array.getElem_modify_self,hk]
 rfl
theorem Hold.other {b b':Nat} {C:Array Value} {t:TypeId} {W:World} (h:Hold b C t W) (hne:b≠b') (i:Nat) (v:Value):Hold b C t (W.setCell ⟨b',i,none⟩ v):=(Below.heap_setCell _ _ _ b hne).trans h
theorem Hold.cell {b:Nat} {C:Array Value} {t:TypeId} {W:World} (h:Hold b C t W) (i:Nat):W.cell? ⟨b,i,none⟩=C[i]?:=by unfold World.cell?;rw [show W.heap[b]?=_ from h];rfl
theorem Hold.frozen {b:Nat} {C:Array Value} {t:TypeId} {W:World} (h:Hold b C t W) (i:Nat):W.frozen? ⟨b,i,none⟩=false:=by unfold World.frozen?;rw [show W.heap[b]?=_ from h];simp
theorem Hold.below {b n:Nat} {C:Array Value} {t:TypeId} {W W':World} (h:Hold b C t W) (hb:Below n W W') (hn:b<n):Hold b C t W':=(hb.block b hn).trans h
def TB (b:Nat) (t:Tok) (W:World):Prop:=Hold b #[.int .i64 t.kd,.string (S t.tx),.int .i64 t.nu,.int .i64 t.ln,.int .i64 t.co] 51 W
theorem TB.cells {b:Nat} {t:Tok} {W:World} (h:TB b t W):W.cell? ⟨b,0,none⟩=some (.int .i64 t.kd)∧W.cell? ⟨b,1,none⟩=some (.string (S t.tx))∧W.cell? ⟨b,2,none⟩=some (.int .i64 t.nu)∧W.cell? ⟨b,3,none⟩=some (.int .i64 t.ln)∧W.cell? ⟨b,4,none⟩=some (.int .i64 t.co):=⟨Hold.cell h 0,Hold.cell h 1,Hold.cell h 2,Hold.cell h 3,Hold.cell h 4⟩
theorem TB.new (W:World) (t:Tok):TB W.heap.size t (W.alloc (.cells #[.int .i64 t.kd,.string (S t.tx),.int .i64 t.nu,.int .i64 t.ln,.int .i64 t.co] 51)):=Hold.new W _ 51
theorem TB.below {b n:Nat} {t:Tok} {W W':World} (h:TB b t W) (hb:Below n W W') (hn:b<n):TB b t W':=Hold.below h hb hn
theorem below_next {w w':World} {o:Obj} (h:Below (w.alloc o).heap.size (w.alloc o) w'):Below w.heap.size w w':=((Below.refl _ w).alloc (Nat.le_refl _) o).trans (h.mono (by simp))
theorem row_other {b:Nat} {C:Array Value} {t e:TypeId} {W:World} {base size k:Nat} {v:Value} {xs:List Value} (hr:W.ownsRow base e size v k xs) (h:Hold b C t W) (hne:t≠e) (i:Nat) (u:Value):(W.setCell ⟨b,i,none⟩ u).ownsRow base e size v k xs:=by
 rcases hr with ⟨h1,h2 | ⟨g,cap,cur,hv,hb,hg,r⟩⟩
 ·exact ⟨h1,.inl h2⟩
 ·refine ⟨h1,.inr ⟨g,cap,cur,hv,hb,(Below.heap_setCell _ _ _ g (fun e'=>?_)).trans hg,r⟩⟩
  have e'':g=b:=e'
  subst e''
  rw [show W.heap[g]?=_ from h] at hg;cases hg;exact hne rfl
theorem row_ne {W:World} {b base k size:Nat} {C:Array Value} {t e:TypeId} {v:Value} {xs:List Value} (h:Hold b C t W) (hr:W.ownsRow base e size v k xs) (hne:t≠e):some b≠v.ownBlock:=by
 rcases hr.2 with ⟨rfl,_⟩ | ⟨g,cap,cur,rfl,_,hgb,_⟩
 ·simp [Value.ownBlock]
 ·intro e'
  have e'':b=g:=by simpa [Value.ownBlock] using e'
  subst e''
  rw [show W.heap[b]?=_ from h] at hgb;cases hgb;exact hne rfl
theorem row_lt {W:World} {base k size:Nat} {e:TypeId} {v:Value} {xs:List Value} (hr:W.ownsRow base e size v k xs):some W.heap.size≠v.ownBlock:=by
 rcases hr.2 with ⟨rfl,_⟩ | ⟨g,cap,cur,rfl,_,hgb,_⟩
 ·simp [Value.ownBlock]
 ·intro e'
  have e'':W.heap.size=g:=by simpa [Value.ownBlock] using e'
  have:=(Array.getElem?_eq_some_iff.1 hgb).1
  omega
theorem slice_of {w:World} {base n:Nat} {e:TypeId} {size:Nat} {v:Value} {xs:List Value} (h:w.ownsRow base e size v n xs):∃ ao cap,v=.slice ao n cap:=by
 rcases h.2 with ⟨rfl,rfl⟩ | ⟨g,cap,cur,rfl,_⟩
 ·exact ⟨none,0,rfl⟩
 ·exact ⟨some ⟨g,0,none⟩,cap,rfl⟩
theorem row_keep {W W':World} {base k size:Nat} {e:TypeId} {v:Value} {xs:List Value} (hr:W.ownsRow base e size v k xs) (h:∀ g,v.ownBlock=some g→g<W.heap.size→W'.heap[g]?=W.heap[g]?):W'.ownsRow base e size v k xs:=by
 rcases hr with ⟨h1,h2 | ⟨g,cap,cur,hv,hb,hg,r⟩⟩
 ·exact ⟨h1,.inl h2⟩
 ·refine ⟨h1,.inr ⟨g,cap,cur,hv,hb,(h g (by rw [hv];rfl) (Array.getElem?_eq_some_iff.1 hg).1).trans hg,r⟩⟩
theorem rows_ne {W:World} {base k size base' k' size':Nat} {e e':TypeId} {v v':Value} {xs xs':List Value} (hr:W.ownsRow base e size v k xs) (hr':W.ownsRow base' e' size' v' k' xs') (hne:e≠e'):∀ g,v.ownBlock=some g→some g≠v'.ownBlock:=by
 intro g hg hg'
 rcases hr.2 with ⟨rfl,_⟩ | ⟨g1,cap,cur,rfl,_,hgb,_⟩
 ·cases hg
 ·rcases hr'.2 with ⟨rfl,_⟩ | ⟨g2,cap',cur',rfl,_,hgb',_⟩
  ·cases hg'
  ·cases hg;cases hg'
   rw [hgb] at hgb';cases hgb';exact hne rfl
theorem row_cut {W:World} {base k size cap j:Nat} {e:TypeId} {p:Option Addr} {xs:List Value} (hr:W.ownsRow base e size (.slice p k cap) k xs) (hj:j≤k):W.ownsRow base e size (.slice p j cap) j (xs.take (j * size)):=by
 have hx:=hr.1
 have hjk:j * size≤k * size:=Nat.mul_le_mul_right _ hj
 rcases hr with ⟨h1,⟨h2,h3⟩ | ⟨g,cap',cur,hv,hb,hg,r1,r2,r3,r4⟩⟩
 ·subst h3
  obtain rfl:j=0:=by omega
  cases h2
  exact ⟨by simp,.inl ⟨rfl,rfl⟩⟩
 ·cases hv
  refine ⟨by rw [List.length_take];omega,.inr ⟨g,cap,cur,rfl,hb,hg,by omega,r2,r3,?_⟩⟩
  rw [← r4,List.take_take,Nat.min_eq_left hjk]
theorem cell_five_new (w:World) (a b c d e:Value) (t:TypeId) (j:Nat) (u:Value) (h:[a,b,c,d,e][j]?=some u):(w.alloc (.cells #[a,b,c,d,e] t)).cell? ((⟨w.heap.size,0,none⟩:Addr).add j)=some u:=by
 have hj:j<5:=by have:=(List.getElem?_eq_some_iff.1 h).1;simpa using this
 have e0:(⟨w.heap.size,0,none⟩:Addr).add j=⟨w.heap.size,j,none⟩:=by unfold Addr.add;split <;> simp_all
 rw [e0,World.cell?_alloc_mark,← h]
 simp
theorem cell_two_new (w:World) (a b:Value) (t:TypeId) (j:Nat) (u:Value) (h:[a,b][j]?=some u):(w.alloc (.cells #[a,b] t)).cell? ((⟨w.heap.size,0,none⟩:Addr).add j)=some u:=by
 have hj:j<2:=by have:=(List.getElem?_eq_some_iff.1 h).1;simpa using this
 have e0:(⟨w.heap.size,0,none⟩:Addr).add j=⟨w.heap.size,j,none⟩:=by unfold Addr.add;split <;> simp_all
 rw [e0,World.cell?_alloc_mark,← h]
 simp
def TMem (w:World) (p:Option Addr) (ts:List Tok):Prop:=ts=[]∨∃ b o,p=some ⟨b,o,none⟩∧b<w.heap.size∧∀ i t,ts[i]?=some t→w.cell? ⟨b,o+i * 5,none⟩=some (.int .i64 t.kd)∧w.cell? ⟨b,o+i * 5+1,none⟩=some (.string (S t.tx))∧w.cell? ⟨b,o+i * 5+2,none⟩=some (.int .i64 t.nu)∧w.cell? ⟨b,o+i * 5+3,none⟩=some (.int .i64 t.ln)∧w.cell? ⟨b,o+i * 5+4,none⟩=some (.int .i64 t.co)
theorem TMem.below {w w':World} {n:Nat} {p:Option Addr} {ts:List Tok} (h:TMem w p ts) (hn:w.heap.size≤n) (hb:Below n w w'):TMem w' p ts:=by
 rcases h with rfl | ⟨b,o,hp,hbk,hm⟩
 ·exact .inl rfl
 ·have hk:∀ x,w'.cell? ⟨b,x,none⟩=w.cell? ⟨b,x,none⟩:=fun x=>hb.cell (p:=⟨b,x,none⟩) (Nat.lt_of_lt_of_le hbk hn)
  exact .inr ⟨b,o,hp,Nat.lt_of_lt_of_le hbk hb.size,fun i t ht=>by rw [hk,hk,hk,hk,hk];exact hm i t ht⟩
theorem TMem.take {w:World} {p:Option Addr} {ts:List Tok} (h:TMem w p ts) (j:Nat):TMem w p (ts.take j):=by
 rcases h with rfl | ⟨b,o,hp,hb,hm⟩
 ·exact .inl (by simp)
 ·exact .inr ⟨b,o,hp,hb,fun i t ht=>by
   rw [List.getElem?_take] at ht
   split at ht
   ·exact hm i t ht
   ·cases ht⟩
theorem tcs_at (us:List Tok):∀ (i:Nat) (t:Tok) (j:Nat),us[i]?=some t→j<5→(tcs us)[i * 5+j]?=(tc t)[j]?:=by
 induction us with
 | nil=>intro i t j ht;simp at ht
 | cons a r ih=>
  intro i t j ht hj
  have e:tcs (a :: r)=tc a ++ tcs r:=rfl
  have e5:(tc a).length=5:=rfl
  cases i with
  | zero=>
   simp at ht;subst ht
   rw [e,Nat.zero_mul,Nat.zero_add,List.getElem?_append_left (by rw [e5];exact hj)]
  | succ i=>
   rw [e,List.getElem?_append_right (by rw [e5];omega),e5,show (i+1) * 5+j - 5=i * 5+j from by omega]
   exact ih i t j (by simpa using ht) hj
theorem bcs_at (us:List Blk):∀ (i:Nat) (t:Blk) (j:Nat),us[i]?=some t→j<2→(bcs us)[i * 2+j]?=(bc t)[j]?:=by
 induction us with
 | nil=>intro i t j ht;simp at ht
 | cons a r ih=>
  intro i t j ht hj
  have e:bcs (a :: r)=bc a ++ bcs r:=rfl
  have e5:(bc a).length=2:=rfl
  cases i with
  | zero=>
   simp at ht;subst ht
   rw [e,Nat.zero_mul,Nat.zero_add,List.getElem?_append_left (by rw [e5];exact hj)]
  | succ i=>
   rw [e,List.getElem?_append_right (by rw [e5];omega),e5,show (i+1) * 2+j - 2=i * 2+j from by omega]
   exact ih i t j (by simpa using ht) hj
theorem row_cell {W:World} {base n cap size:Nat} {e:TypeId} {g:Nat} {xs:List Value} (h:W.ownsRow base e size (.slice (some ⟨g,0,none⟩) n cap) n xs) {j:Nat} {v:Value} (hj:xs[j]?=some v):W.cell? ⟨g,j,none⟩=some v:=by
 have hl:=(List.getElem?_eq_some_iff.1 hj).1
 rcases h with ⟨h1,⟨h2,_⟩ | ⟨g',cap',cur,hv,hb,hg,r1,r2,r3,r4⟩⟩
 ·cases h2
 ·cases hv
  rw [← r4,List.getElem?_take,if_pos (by omega)] at hj
  simp only [World.cell?,hg]
  rw [← hj]
  simp
theorem row_tmem {W:World} {n₀ n c:Nat} {p:Option Addr} {ts:List Tok} (h:W.ownsRow n₀ 51 5 (.slice p n c) n (tcs ts)):TMem W p ts∧ts.length=n:=by
 have hlen:=tcs_len ts
 have hn:ts.length=n:=by have:=h.1;omega
 refine ⟨?_,hn⟩
 rcases h.2 with ⟨hv,h0⟩ | ⟨g,cap,cur,hv,hb,hg,h1,h2,h3,h4⟩
 ·left;exact List.length_eq_zero_iff.1 (by omega)
 ·cases hv
  refine .inr ⟨g,0,rfl,(Array.getElem?_eq_some_iff.1 hg).1,fun i t ht=>?_⟩
  have hx:∀ j,j<5→W.cell? ⟨g,0+i * 5+j,none⟩=(tc t)[j]?:=by
   intro j hj
   have k:=tcs_at ts i t j ht hj
   have hs:∃ v,(tc t)[j]?=some v:=⟨_,List.getElem?_eq_getElem (by show j<5;exact hj)⟩
   obtain ⟨v,hv⟩:=hs
   rw [hv] at k ⊢
   rw [Nat.zero_add]
   exact row_cell h k
  exact ⟨hx 0 (by omega),hx 1 (by omega),hx 2 (by omega),hx 3 (by omega),hx 4 (by omega)⟩
structure KP (P:Nat→Prop) (w w':World):Prop where
 os:w'.os=w.os
 tape:w'.tape=w.tape
 output:w'.output=w.output
 size:w.heap.size≤w'.heap.size
 block:∀ b,P b→w'.heap[b]?=w.heap[b]?
theorem KP.trans {P:Nat→Prop} {a b c:World} (h:KP P a b) (k:KP P b c):KP P a c:=⟨k.os.trans h.os,k.tape.trans h.tape,k.output.trans h.output,Nat.le_trans h.size k.size,fun x hx=>(k.block x hx).trans (h.block x hx)⟩
theorem KP.mono {P Q:Nat→Prop} {a b:World} (h:KP P a b) (hq:∀ x,Q x→P x):KP Q a b:=⟨h.os,h.tape,h.output,h.size,fun x hx=>h.block x (hq x hx)⟩
theorem KP.below {P:Nat→Prop} {a b:World} {n:Nat} (h:KP P a b) (hq:∀ x,x<n→P x):Below n a b:=⟨h.os,h.tape,h.output,h.size,fun x hx=>h.block x (hq x hx)⟩
theorem KP.alloc {P:Nat→Prop} (w:World) (o:Obj) (hP:∀ b,P b→b<w.heap.size):KP P w (w.alloc o):=⟨rfl,rfl,rfl,by simp,fun b hb=>Below.heap_alloc w o b (hP b hb)⟩
theorem KP.setCell {P:Nat→Prop} (w:World) (b i:Nat) (v:Value) (hP:¬ P b):KP P w (w.setCell ⟨b,i,none⟩ v):=⟨rfl,rfl,rfl,by simp,fun x hx=>Below.heap_setCell _ _ _ x (fun e=>hP (by subst e;exact hx))⟩
theorem KP.of_grown {P:Nat→Prop} {w w':World} {r:Option Nat} (h:w.grownBy w' r) (hP:∀ b,P b→b<w.heap.size∧some b≠r):KP P w w':=⟨h.os,h.tape,h.output,h.size,fun b hb=>h.block b (hP b hb).1 (hP b hb).2⟩
theorem KP.of_below {P:Nat→Prop} {w w':World} {n:Nat} (h:Below n w w') (hP:∀ b,P b→b<n):KP P w w':=⟨h.os,h.tape,h.output,h.size,fun b hb=>h.block b (hP b hb)⟩
structure LS (P:Nat→Prop) (B:Nat) (o:List Tok) (st:List Blk) (f:Bool) (pa:Option Addr) (ca:Nat) (po:Option Addr) (co:Nat) (W:World):Prop where
 hold:Hold B #[.slice pa o.length ca,.slice po st.length co,.bool f] 89 W
 told:W.ownsRow 0 51 5 (.slice pa o.length ca) o.length (tcs o)
 opn:W.ownsRow 0 146 2 (.slice po st.length co) st.length (bcs st.reverse)
 apart:∀ b,P b→b<W.heap.size∧b≠B∧some b≠(Value.slice pa o.length ca).ownBlock∧some b≠(Value.slice po st.length co).ownBlock
def L (P:Nat→Prop) (B:Nat) (o:List Tok) (st:List Blk) (f:Bool) (W:World):Prop:=∃ pa ca po co,LS P B o st f pa ca po co W
end Go.Proofs.YtcnnlecjdkfdjaaGreatDoor.Ly
