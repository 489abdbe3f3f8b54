/- Parts of the proof. -/
import Derived.Test.YtcnnlecjdkfdjaaGreatDoorWhole
import Derived.Test.YtcnnlecjdkfdjaaGreatDoorMay
set_option linter.unusedVariables false
set_option linter.unusedSimpArgs false
set_option maxRecDepth 100000
set_option maxHeartbeats 8000000
namespace Go.Proofs.YtcnnlecjdkfdjaaGreatDoor
open Go.RowKit
def exprM (l:List Tk):Tr × (Int × Int) × Int:=match exprRun l with
 | .inl n=>(t0,plM l n,60)
 | .inr q=>if checkM (q.ex.headD t0) then (q.ex.headD t0,(0,0),0) else (t0,plM l 0,61)
def colB (B b:Nat):Nat:=if b=B then 1 else 0
theorem pm_start {w:World} {B:Nat} {tp:Option Addr} {n tc:Nat} {l:List Tk} {P:Nat→Prop} (hB:Hold B (psC tp n tc 0 (.slice none 0 0) (.slice none 0 0) (.slice none 0 0) (.slice none 0 0) (.slice none 0 0) (.slice none 0 0)) 63 w) (hn:l.length=n) (hm:n≤10000) (hK:KM P w tp l) (hP:∀ b,P b→b<w.heap.size∧b≠B):PM (colB B) B l (ps0 []) w:=by
 subst hn
 exact ⟨tp,tc,_,_,_,_,_,_,hB,by simp [colB],hK.keep (KP.refl _ w) (fun b hb=>⟨(hP b hb).1,by simp [colB,(hP b hb).2]⟩) (fun _ _ h=>h),by omega,by simp [ps0],RowOf.nil _ _ _ _ _ _,RowOf.nil _ _ _ _ _ _,RowOf.nil _ _ _ _ _ _,RowOf.nil _ _ _ _ _ _,RowOf.nil _ _ _ _ _ _,RowOf.nil _ _ _ _ _ _⟩
theorem start_bound (l:List Tk) (k:Nat) (hm:l.length≤10000) (hk:k=10∨k=1):tot (ps0 [])+wtP l { ps0 [] with ru:=[r0 k,r0 0] }≤900000000:=by
 have h1:=topW_le l { ps0 [] with ru:=[r0 k,r0 0] }
 unfold tot wtP
 have h2:(({ ps0 [] with ru:=[r0 k,r0 0] }:Ps).ru.map wtR).sum≤20:=by rcases hk with rfl | rfl <;> decide
 have h3:tot (ps0 [])=0:=rfl
 unfold tot at h3
 omega
def put5 (w:World) (b:Nat) (v0 v1 v2 v3 v4 p0 p1:Value):World:=((((((w.setCell ⟨b,0,none⟩ v0).setCell ⟨b,1,none⟩ v1).setCell ⟨b,2,none⟩ v2).setCell ⟨b,3,none⟩ v3).setCell ⟨b,4,none⟩ v4).setCell ⟨b+1,0,none⟩ p0).setCell ⟨b+1,1,none⟩ p1
theorem put5_hold {w0 w:World} {b:Nat} {C D:Array Value} (v0 v1 v2 v3 v4 p0 p1:Value) (hC:C.size=5) (hD:D.size=2) (hR:Hold b C 27 w) (hQ:Hold (b+1) D 29 w) (hB:Below b w0 w):(put5 w b v0 v1 v2 v3 v4 p0 p1).cell? ⟨b,0,none⟩=some v0∧(put5 w b v0 v1 v2 v3 v4 p0 p1).cell? ⟨b,1,none⟩=some v1∧(put5 w b v0 v1 v2 v3 v4 p0 p1).cell? ⟨b,2,none⟩=some v2∧(put5 w b v0 v1 v2 v3 v4 p0 p1).cell? ⟨b,3,none⟩=some v3∧(put5 w b v0 v1 v2 v3 v4 p0 p1).cell? ⟨b,4,none⟩=some v4∧(put5 w b v0 v1 v2 v3 v4 p0 p1).cell? ⟨b+1,0,none⟩=some p0∧(put5 w b v0 v1 v2 v3 v4 p0 p1).cell? ⟨b+1,1,none⟩=some p1∧Below b w0 (put5 w b v0 v1 v2 v3 v4 p0 p1)∧KP (fun x=>x≠b∧x≠b+1) w (put5 w b v0 v1 v2 v3 v4 p0 p1):=by
 have n1:b≠b+1:=by omega
 have n2:b+1≠b:=by omega
 match C,hC with
 | ⟨[c0,c1,c2,c3,c4]⟩,_=>
 match D,hD with
 | ⟨[d0,d1]⟩,_=>
  have h1:=((((((hR.set 0 v0).set 1 v1).set 2 v2).set 3 v3).set 4 v4).other n1 0 p0).other n1 1 p1
  have h2:=((((((hQ.other n2 0 v0).other n2 1 v1).other n2 2 v2).other n2 3 v3).other n2 4 v4).set 0 p0).set 1 p1
  simp only [lSI,lSZ,lSS] at h1 h2
  have hx:∀ x:Nat,b≤b+x:=fun x=>by omega
  refine ⟨h1.cell 0,h1.cell 1,h1.cell 2,h1.cell 3,h1.cell 4,h2.cell 0,h2.cell 1,?_,?_⟩
  ·exact ((((((hB.setCell (Nat.le_refl _) _).setCell (Nat.le_refl _) _).setCell (Nat.le_refl _) _).setCell (Nat.le_refl _) _).setCell (Nat.le_refl _) _).setCell (hx 1) _).setCell (hx 1) _
  ·exact ((((((KP.setCell w b 0 v0 (fun h=>h.1 rfl)).trans (KP.setCell _ b 1 v1 (fun h=>h.1 rfl))).trans (KP.setCell _ b 2 v2 (fun h=>h.1 rfl))).trans (KP.setCell _ b 3 v3 (fun h=>h.1 rfl))).trans (KP.setCell _ b 4 v4 (fun h=>h.1 rfl))).trans (KP.setCell _ (b+1) 0 p0 (fun h=>h.2 rfl))).trans (KP.setCell _ (b+1) 1 p1 (fun h=>h.2 rfl))
theorem t0_in (P:Nat→Prop) (w:World):TrIn P w t0 [.int .i64 0,.string ⟨#[]⟩,.int .i64 0,.slice none 0 0,.slice none 0 0]:=by
 rw [TrIn_iff]
 exact ⟨none,0,none,0,rfl,by simp [t0],by simp [t0],⟨Nat.le_refl _,by omega,fun _=>rfl⟩,⟨Nat.le_refl _,by omega,fun _=>rfl⟩,.inl rfl,.inl rfl⟩
theorem pexpr_any {P:Nat→Prop} {w:World} {tp:Option Addr} {n tc:Nat} {l:List Tk} (hP:∀ b,P b→b<w.heap.size) (hn:l.length=n) (hK:KM P w tp l) (hm:n≤10000) :
 Calls Tryz.prog 11 #[.slice tp n tc] w fun r w'=>∃ pn cn pk ck,r=.returned (.tuple #[.agg (cs5 (exprM l).1 pn cn pk ck),.agg #[.int .i64 (exprM l).2.1.1,.int .i64 (exprM l).2.1.2],.int .i64 (exprM l).2.2])∧TrIn (fun b=>b<w'.heap.size) w' (exprM l).1 [.int .i64 (exprM l).1.kd,.string (S (exprM l).1.nm),.int .i64 (exprM l).1.nu,.slice pn (exprM l).1.ns.length cn,.slice pk (exprM l).1.ks.length ck]∧Below w.heap.size w w':=by
 have hmf:=mkf
 obtain ⟨W1,hW1⟩:∃ W1,W1=((w.alloc (.cells #[.int .i64 0,.string ⟨#[]⟩,.int .i64 0,.slice none 0 0,.slice none 0 0] 27)).alloc (.cells #[.int .i64 0,.int .i64 0] 29)).alloc (.cells (psC tp n tc 0 (.slice none 0 0) (.slice none 0 0) (.slice none 0 0) (.slice none 0 0) (.slice none 0 0) (.slice none 0 0)) 63):=⟨_,rfl⟩
 have hB1:Below w.heap.size w W1:=by rw [hW1];exact (((Below.refl _ w).alloc (Nat.le_refl _) _).alloc (by simp) _).alloc (by simp;omega) _
 have hs1:W1.heap.size=w.heap.size+3:=by rw [hW1];simp
 have hR:Hold w.heap.size #[.int .i64 0,.string ⟨#[]⟩,.int .i64 0,.slice none 0 0,.slice none 0 0] 27 W1:=by rw [hW1];exact ((Hold.new w _ 27).alloc _).alloc _
 have hQ:Hold (w.heap.size+1) #[.int .i64 0,.int .i64 0] 29 W1:=by rw [hW1];have:=(Hold.new (w.alloc (.cells #[.int .i64 0,.string ⟨#[]⟩,.int .i64 0,.slice none 0 0,.slice none 0 0] 27)) #[.int .i64 0,.int .i64 0] 29).alloc (.cells (psC tp n tc 0 (.slice none 0 0) (.slice none 0 0) (.slice none 0 0) (.slice none 0 0) (.slice none 0 0) (.slice none 0 0)) 63);simpa using this
 have hBB:Hold (w.heap.size+2) (psC tp n tc 0 (.slice none 0 0) (.slice none 0 0) (.slice none 0 0) (.slice none 0 0) (.slice none 0 0) (.slice none 0 0)) 63 W1:=by rw [hW1];have:=Hold.new ((w.alloc (.cells #[.int .i64 0,.string ⟨#[]⟩,.int .i64 0,.slice none 0 0,.slice none 0 0] 27)).alloc (.cells #[.int .i64 0,.int .i64 0] 29)) (psC tp n tc 0 (.slice none 0 0) (.slice none 0 0) (.slice none 0 0) (.slice none 0 0) (.slice none 0 0) (.slice none 0 0)) 63;simpa using this
 have hP1:=pm_start hBB hn hm (hK.keep (KP.of_below hB1 hP) (fun b hb=>hb) (fun _ _ h=>h)) (fun b hb=>by have:=hP b hb;omega)
 have hwh:=whole_any (nd:=1) (k0:=10) hP1 (by decide) rfl (Nat.le_refl _) (start_bound l 10 (by omega) (.inl rfl))
 have hEX:exprM l=(match exprRun l with | .inl n=>(t0,plM l n,60) | .inr q=>if checkM (q.ex.headD t0) then (q.ex.headD t0,(0,0),0) else (t0,plM l 0,61)):=rfl
 have hrunE:run l { ps0 [] with ru:=[r0 10,r0 0] }=exprRun l:=rfl
 rw [hrunE] at hwh
 have hkeep:∀ w2:World,KP (Imm (colB (w.heap.size+2)) W1) W1 w2→Below w.heap.size w w2∧Hold w.heap.size #[.int .i64 0,.string ⟨#[]⟩,.int .i64 0,.slice none 0 0,.slice none 0 0] 27 w2∧Hold (w.heap.size+1) #[.int .i64 0,.int .i64 0] 29 w2:=fun w2 hk=>by
  have hcl:∀ b,b<w.heap.size+2→Imm (colB (w.heap.size+2)) W1 b:=fun b hb=>⟨by omega,by unfold colB;rw [if_neg (by omega)]⟩
  exact ⟨hB1.trans (hk.below fun b hb=>hcl b (by omega)),(hk.block _ (hcl _ (by omega))).trans hR,(hk.block _ (hcl _ (by omega))).trans hQ⟩
 have HKEEP:=zz hkeep
 have HWH:=zz hwh
 have HEX:=zz hEX
 clear hwh hP1 hrunE hkeep hR hQ hBB hB1 hEX
 subst hW1
 generalize exprM l=E at *
 unfold psC at HWH
 go_enter Tryz.func11,Tryz.ntmps11
 go_wp2_with fail
 refine HWH.out.mono ?_
 intro e w2 hq
 cases hx:exprRun l with
 | inl k=>
  rw [hx] at hq HEX
  obtain ⟨rfl,⟨tp',tc',vr,ve,vs,vf,vd,vp,hB2,hK2⟩,hk2⟩:=hq
  have hEe:E=(t0,plM l k,60):=HEX.out
  have hkl:k≤l.length:=by
   have h:=(run_pos (l:=l) (nd:=1) (ps0 [r0 10,r0 0]) good_expr (Nat.zero_le _)).2
   have h2:run l (ps0 [r0 10,r0 0])=.inl k:=hx
   rw [h2] at h
   exact h
  obtain ⟨b2,r2,q2⟩:=HKEEP.out _ hk2
  have hpl:=place_any (k:=k) hB2 (fun b hb=>hb) rfl hK2 (by omega) (by omega)
  have c1:=hB2.cell 1
  simp only [lGA,lGS,lGZ] at c1
  subst hEe
  have HPL:=zz hpl
  have HB2:=zz b2
  have HR2:=zz r2
  have HQ2:=zz q2
  have hs2:w.heap.size+1<w2.heap.size:=q2.lt
  clear hB2 hK2 hk2 hpl b2 r2 q2 HEX HKEEP HWH
  obtain ⟨pl,hple⟩:∃ pl,pl=plM l k:=⟨_,rfl⟩
  rw [← hple] at HPL
  have HPLE:=zz hple
  clear hple
  go_wp2_with fail
  refine HPL.out.mono ?_
  rintro r w3 ⟨rfl,hb3⟩
  have HR3:=zz (HR2.out.below hb3 HR2.out.lt)
  have HQ3:=zz (HQ2.out.below hb3 HQ2.out.lt)
  have HB3:=zz (HB2.out.trans (hb3.mono HB2.out.size))
  clear hb3
  have a0:=HR3.out.cell 0
  have a1:=HR3.out.cell 1
  have a2:=HR3.out.cell 2
  have a3:=HR3.out.cell 3
  have a4:=HR3.out.cell 4
  have d0:=HQ3.out.cell 0
  have d1:=HQ3.out.cell 1
  have f0:=HR3.out.frozen 0
  have f1:=HR3.out.frozen 1
  have f2:=HR3.out.frozen 2
  have f3:=HR3.out.frozen 3
  have f4:=HR3.out.frozen 4
  have g0:=HQ3.out.frozen 0
  have g1:=HQ3.out.frozen 1
  simp only [lGA,lGS,lGZ] at a0 a1 a2 a3 a4 d0 d1
  go_wp2_with fail
  obtain ⟨q0,q1,q2,q3,q4,q5,q6,qB,qK⟩:=put5_hold (.int .i64 0) (.string ⟨#[]⟩) (.int .i64 0) (.slice none 0 0) (.slice none 0 0) (.int .i64 pl.1) (.int .i64 pl.2) rfl rfl HR3.out HQ3.out HB3.out
  unfold put5 at q0 q1 q2 q3 q4 q5 q6 qB qK
  obtain rfl:=HPLE.out
  exact bodyPost_ret (v:=.tuple #[.agg #[.int .i64 0,.string ⟨#[]⟩,.int .i64 0,.slice none 0 0,.slice none 0 0],.agg #[.int .i64 (plM l k).1,.int .i64 (plM l k).2],.int .i64 60]) (by simp only [results,Tryz.results11];go_simp) rfl ⟨none,0,none,0,rfl,t0_in _ _,qB⟩
 | inr q=>
  rw [hx] at hq HEX
  obtain ⟨e,hrun,rfl⟩:=expr_inv hx
  obtain ⟨rfl,c',⟨tp',tc',vr,ve,vs,vf,vd,vp,hS⟩,hi,hk2⟩:=hq
  have hEe:E=(if checkM e then (e,(0,0),0) else (t0,plM l 0,61)):=HEX.out
  have hms:=run_mass (l:=l) (nd:=1) (ps0 [r0 10,r0 0]) good_expr (Nat.zero_le _) _ hx
  have hme:mass e≤900000:=by
   unfold massP at hms
   simp only [List.map_cons,List.map_nil,List.sum_cons,List.sum_nil] at hms
   omega
  obtain ⟨qa,cap,rfl,hcap,_,hnil,hsome⟩:=hS.exs.slice
  cases qa with
  | none=>exact absurd (hnil rfl).2 (by simp)
  | some a=>
  obtain ⟨g,rfl,hgl,hcg⟩:=hsome a rfl
  obtain ⟨ds,e1,e2,hE⟩:=hS.exs.cell (i:=0) (t:=e) rfl
  have hE':=hE
  rw [TrIn_iff] at hE'
  obtain ⟨pn,cn,pk,ck,rfl,_⟩:=hE'
  obtain ⟨b2,r2,q2⟩:=HKEEP.out _ hk2
  have hck:=check_tree (P:=ImB (w.heap.size+2) c' w2) (fun b hb=>hb.1.1) hE (mass_D hme)
  have hpl:=place_any (k:=0) hS.hold (fun b hb=>hb.1) rfl hS.toks (by omega) (by omega)
  have m0:=e2 0 _ rfl
  have m1:=e2 1 _ rfl
  have m2:=e2 2 _ rfl
  have m3:=e2 3 _ rfl
  have m4:=e2 4 _ rfl
  simp only [Nat.zero_mul,Nat.zero_add,Nat.add_zero] at m0 m1 m2 m3 m4
  have c3:=hS.hold.cell 3
  simp only [lGA,lGS,lGZ,List.length_singleton] at c3
  have HCK:=zz hck
  have HS:=zz hS
  have HB2:=zz b2
  have HR2:=zz r2
  have HQ2:=zz q2
  have HE:=zz hE
  have HEE:=zz hEe
  have hs2:w.heap.size+1<w2.heap.size:=q2.lt
  have hi1:(0:Int)<1:=by omega
  unfold cs5 at HCK
  clear hS hk2 hpl b2 r2 q2 HEX HKEEP HWH hck hE hEe hms hme hi e2 hnil hsome hx hrun
  go_wp2_with fail
  refine HCK.out.mono ?_
  rintro r w3 ⟨rfl,hb3⟩
  have HR3:=zz (HR2.out.below hb3 HR2.out.lt)
  have HQ3:=zz (HQ2.out.below hb3 HQ2.out.lt)
  have HB3:=zz (HB2.out.trans (hb3.mono HB2.out.size))
  have HS3:=zz (HS.out.below hb3 (c':=c') fun _ _=>rfl)
  have HE3:=zz (TrIn.keep (P:=fun b=>b<w2.heap.size∧w.heap.size+2<b) (KP.of_below hb3 fun b hb=>hb.1) (fun b hb=>hb) _ _ (TrIn.keep (KP.refl _ w2) (fun b hb=>⟨hb.1.1,hb.2⟩) _ _ HE.out))
  have k0:=(hb3.cell (p:=⟨g,0,none⟩) hgl).trans m0
  have k1:=(hb3.cell (p:=⟨g,1,none⟩) hgl).trans m1
  have k2:=(hb3.cell (p:=⟨g,2,none⟩) hgl).trans m2
  have k3:=(hb3.cell (p:=⟨g,3,none⟩) hgl).trans m3
  have k4:=(hb3.cell (p:=⟨g,4,none⟩) hgl).trans m4
  have c3':=HS3.out.hold.cell 3
  simp only [lGA,lGS,lGZ,List.length_singleton] at c3'
  have HSZ:=zz hb3.size
  clear hb3 m0 m1 m2 m3 m4 c3
  cases hc:checkM e
  ·rw [hc] at HEE
   obtain rfl:E=(t0,plM l 0,61):=HEE.out
   have hpl:=place_any (k:=0) HS3.out.hold (fun b hb=>hb.1) rfl HS3.out.toks (by omega) (by omega)
   have HPL:=zz hpl
   clear hpl hc k0 k1 k2 k3 k4
   obtain ⟨pl,hple⟩:∃ pl,pl=plM l 0:=⟨_,rfl⟩
   rw [← hple] at HPL
   have HPLE:=zz hple
   clear hple
   go_wp2_with fail
   refine HPL.out.mono ?_
   rintro r w4 ⟨rfl,hb4⟩
   have HR4:=zz (HR3.out.below hb4 HR3.out.lt)
   have HQ4:=zz (HQ3.out.below hb4 HQ3.out.lt)
   have HB4:=zz (HB3.out.trans (hb4.mono HB3.out.size))
   clear hb4
   have a0:=HR4.out.cell 0
   have a1:=HR4.out.cell 1
   have a2:=HR4.out.cell 2
   have a3:=HR4.out.cell 3
   have a4:=HR4.out.cell 4
   have d0:=HQ4.out.cell 0
   have d1:=HQ4.out.cell 1
   have f0:=HR4.out.frozen 0
   have f1:=HR4.out.frozen 1
   have f2:=HR4.out.frozen 2
   have f3:=HR4.out.frozen 3
   have f4:=HR4.out.frozen 4
   have g0:=HQ4.out.frozen 0
   have g1:=HQ4.out.frozen 1
   simp only [lGA,lGS,lGZ] at a0 a1 a2 a3 a4 d0 d1
   go_wp2_with fail
   obtain ⟨q0,q1,q2,q3,q4,q5,q6,qB,qK⟩:=put5_hold (.int .i64 0) (.string ⟨#[]⟩) (.int .i64 0) (.slice none 0 0) (.slice none 0 0) (.int .i64 pl.1) (.int .i64 pl.2) rfl rfl HR4.out HQ4.out HB4.out
   unfold put5 at q0 q1 q2 q3 q4 q5 q6 qB qK
   obtain rfl:=HPLE.out
   exact bodyPost_ret (v:=.tuple #[.agg #[.int .i64 0,.string ⟨#[]⟩,.int .i64 0,.slice none 0 0,.slice none 0 0],.agg #[.int .i64 (plM l 0).1,.int .i64 (plM l 0).2],.int .i64 61]) (by simp only [results,Tryz.results11];go_simp) rfl ⟨none,0,none,0,rfl,t0_in _ _,qB⟩
  ·rw [hc] at HEE
   obtain rfl:E=(e,(0,0),0):=HEE.out
   clear hc
   have a0:=HR3.out.cell 0
   have a1:=HR3.out.cell 1
   have a2:=HR3.out.cell 2
   have a3:=HR3.out.cell 3
   have a4:=HR3.out.cell 4
   have d0:=HQ3.out.cell 0
   have d1:=HQ3.out.cell 1
   have f0:=HR3.out.frozen 0
   have f1:=HR3.out.frozen 1
   have f2:=HR3.out.frozen 2
   have f3:=HR3.out.frozen 3
   have f4:=HR3.out.frozen 4
   have g0:=HQ3.out.frozen 0
   have g1:=HQ3.out.frozen 1
   simp only [lGA,lGS,lGZ] at a0 a1 a2 a3 a4 d0 d1
   go_wp2_with fail
   obtain ⟨q0,q1,q2,q3,q4,q5,q6,qB,qK⟩:=put5_hold (.int .i64 e.kd) (.string (S e.nm)) (.int .i64 e.nu) (.slice pn e.ns.length cn) (.slice pk e.ks.length ck) (.int .i64 0) (.int .i64 0) rfl rfl HR3.out HQ3.out HB3.out
   have hin:=TrIn.keep (Q:=fun b=>b<(put5 w3 w.heap.size (.int .i64 e.kd) (.string (S e.nm)) (.int .i64 e.nu) (.slice pn e.ns.length cn) (.slice pk e.ks.length ck) (.int .i64 0) (.int .i64 0)).heap.size) (qK.mono fun b (hb:b<w2.heap.size∧w.heap.size+2<b)=>⟨by omega,by omega⟩) (fun b hb=>Nat.lt_of_lt_of_le hb.1 (Nat.le_trans HSZ.out qK.size)) _ _ HE3.out
   unfold put5 at q0 q1 q2 q3 q4 q5 q6 qB qK hin
   exact bodyPost_ret (v:=.tuple #[.agg #[.int .i64 e.kd,.string (S e.nm),.int .i64 e.nu,.slice pn e.ns.length cn,.slice pk e.ks.length ck],.agg #[.int .i64 0,.int .i64 0],.int .i64 0]) (by simp only [results,Tryz.results11];go_simp) rfl ⟨pn,cn,pk,ck,rfl,hin,qB⟩
def headsM (s:Sg):Bool:=if cn s.nm then true else if nm s.nm then decide (s.ar.length=0) else (s.nm == [45,62]) && decide (s.ar.length=2)
theorem heads_any {s:Sg} {pk:Option Addr} {ck:Nat} {w:World} (hn:s.nm.length≤281474976710656) (ha:s.ar.length≤9223372036854775807) :
 Calls Tryz.prog 192 #[.agg #[.string (S s.nm),.slice pk s.ar.length ck]] w fun r w'=>r=.returned (.bool (headsM s))∧Below w.heap.size w w':=by
 have HC:=zz fun W=>con_any s.nm W hn
 have HN:=zz fun W=>name_any s.nm W hn
 have hB:Below w.heap.size w (w.alloc (.cells #[.string (S s.nm),.slice pk s.ar.length ck] 175)):=(Below.refl _ w).alloc (Nat.le_refl _) _
 have HB:=zz hB
 unfold headsM
 obtain ⟨snm,ar⟩:=s
 simp only at *
 generalize ar.length=n at *
 have hq:(S snm).toList=snm:=S_list snm
 have e0:Hid (((n:Int) == 0)=decide (n=0)):=by show _=_;rw [Bool.eq_iff_iff];simp
 have e2:Hid (((n:Int) == 2)=decide (n=2)):=by show _=_;rw [Bool.eq_iff_iff];simp;omega
 clear hB
 cases hc:cn snm
 ·rw [hc] at HC
  cases hm:nm snm
  ·rw [hm] at HN
   rw [if_neg (by simp),if_neg (by simp)]
   have HQ:=zz hq
   cases ht:(snm == [45,62])
   ·have h2:((S snm).toList == [45,62])=false:=by rw [hq];exact ht
    clear ht hq
    generalize S snm=sb at *
    go_enter Tryz.func192,Tryz.ntmps192
    go_wp2_with fail
    refine (HC.out _).mono ?_
    rintro r w' ⟨rfl,rfl⟩
    go_wp2_with fail
    refine (HN.out _).mono ?_
    rintro r w' ⟨rfl,rfl⟩
    go_wp2_with fail
    go_ret
    exact ⟨rfl,HB.out⟩
   ·have h2:((S snm).toList == [45,62])=true:=by rw [hq];exact ht
    clear ht hq
    generalize S snm=sb at *
    go_enter Tryz.func192,Tryz.ntmps192
    go_wp2_with fail
    refine (HC.out _).mono ?_
    rintro r w' ⟨rfl,rfl⟩
    go_wp2_with fail
    refine (HN.out _).mono ?_
    rintro r w' ⟨rfl,rfl⟩
    go_wp2_with fail
    go_ret
    refine ⟨?_,HB.out⟩
    show Ending.returned (Value.bool _)=Ending.returned (Value.bool _)
    refine congrArg (fun b=>Ending.returned (Value.bool b)) ?_
    rw [Bool.true_and]
    exact e2.out
  ·rw [hm] at HN
   rw [if_neg (by simp),if_pos rfl]
   go_enter Tryz.func192,Tryz.ntmps192
   go_wp2_with fail
   refine (HC.out _).mono ?_
   rintro r w' ⟨rfl,rfl⟩
   go_wp2_with fail
   refine (HN.out _).mono ?_
   rintro r w' ⟨rfl,rfl⟩
   go_wp2_with fail
   go_ret
   refine ⟨?_,HB.out⟩
   show Ending.returned (Value.bool _)=Ending.returned (Value.bool _)
   refine congrArg (fun b=>Ending.returned (Value.bool b)) ?_
   rw [Bool.eq_iff_iff]
   simp
 ·rw [hc] at HC
  rw [if_pos rfl]
  go_enter Tryz.func192,Tryz.ntmps192
  go_wp2_with fail
  refine (HC.out _).mono ?_
  rintro r w' ⟨rfl,rfl⟩
  go_wp2_with fail
  go_ret
  exact ⟨rfl,HB.out⟩
theorem same_ne {p q:Option Addr} {n m c d:Nat} {w:World} (h:n≠m) (hn:n≤9223372036854775807) (hm:m≤9223372036854775807):Calls Tryz.prog 191 #[.slice p n c,.slice q m d] w fun r w'=>r=.returned (.bool false)∧∃ k,w'=w.drewN k:=by
 have h1:¬ (n:Int)=m:=by omega
 have h2:((n:Int) == m)=false:=by simp;omega
 go_enter Tryz.func191,Tryz.ntmps191
 go_wp2_with fail
 go_quiet (fail)
 go_wp2_with fail
 go_ret
 exact ⟨rfl,_,rfl⟩
theorem same_nil {p q:Option Addr} {c d:Nat} {w:World}:Calls Tryz.prog 191 #[.slice p 0 c,.slice q 0 d] w fun r w'=>r=.returned (.bool true)∧∃ k,w'=w.drewN k:=by
 go_enter Tryz.func191,Tryz.ntmps191
 go_wp2_with fail
 go_quiet (fail)
 go_wp2_with fail
 go_ret
 exact ⟨rfl,_,rfl⟩
theorem und117:Tryz.prog.underlying 228=some (.pointer 175):=by kernel_rfl
theorem inf46:∃ j,Tryz.prog.info? 175=some j∧j.size≠0:=by
 have h:((Tryz.prog.info? 175).map fun j=>decide (j.size≠0))=some true:=by kernel_rfl
 obtain ⟨j,hj,h2⟩:=Option.map_eq_some_iff.1 h
 exact ⟨j,hj,by simpa using h2⟩
theorem same_at {b o b' o' n c d:Nat} {w:World} {ca cb:Array Value} {ta tb:TypeId} (ha:w.heap[b]?=some (.cells ca ta (0,0))) (hb:w.heap[b']?=some (.cells cb tb (0,0))) (hn:n≤9223372036854775807) (h0:0<n):Calls Tryz.prog 191 #[.slice (some ⟨b,o,none⟩) n c,.slice (some ⟨b',o',none⟩) n d] w fun r w'=>r=.returned (.bool (decide ((⟨b,o,none⟩:Addr)=⟨b',o',none⟩)))∧∃ k,w'=w.drewN k:=by
 have h1:¬ (n:Int)=0:=by omega
 have h2:(0:Int)<n:=by omega
 have h3:((n:Int) == 0)=false:=by simp;omega
 obtain ⟨j,hj,hjs⟩:=inf46
 have he:∀ k,(binOp .eql 228 (.pointer (some ⟨b,o,none⟩)) (.pointer (some ⟨b',o',none⟩))).run Tryz.prog (w.drewN k)=.ok (.bool (decide ((⟨b,o,none⟩:Addr)=⟨b',o',none⟩))) (w.drewN k):=by
  intro k
  by_cases hab:(⟨b,o,none⟩:Addr)=⟨b',o',none⟩
  ·rw [← hab,run_eql_ptr_same _ _ und117 hj];simp
  ·rw [run_eql_ptr_other (ca:=ca) (cb:=cb) (ta:=ta) (tb:=tb) (w.drewN k) und117 hj hjs hab (by simpa using ha) (by simpa using hb)];simp [hab]
 clear hj hjs
 generalize decide ((⟨b,o,none⟩:Addr)=⟨b',o',none⟩)=r at *
 clear ha hb
 go_enter Tryz.func191,Tryz.ntmps191
 go_wp2_with fail
 go_quiet (fail)
 go_wp2_with fail
 go_ret
 exact ⟨rfl,_,rfl⟩
def sgM (s:Sg):Nat→Bool:=s.fold (α:=Nat→Bool) fun t l n=>headsM t && (decide (t.ar.length≤40) && (decide (t.ar.length=0) || decide (n≠0)) && l.all fun k=>k.2 (n - 1))
def wrM (l:List Sg) (n:Nat):Bool:=decide (l.length≤40) && (decide (l.length=0) || decide (n≠0)) && l.all fun s=>sgM s (n - 1)
theorem sgM_eq (s:Sg) (n:Nat):sgM s n=(headsM s && wrM s.ar n):=by
 unfold sgM wrM
 rw [Sg.fold_eq]
 simp only [List.all_map]
 rfl
theorem S_inj {a b:List UInt8} (h:S a=S b):a=b:=by rw [← S_list a,h,S_list]
theorem ds2 {w:World} {b x:Nat} {ds es:List Value} (h1:ds.length=2) (h2:∀ j d,ds[j]?=some d→w.cell? ⟨b,x+j,none⟩=some d) (h3:es.length=2) (h4:∀ j d,es[j]?=some d→w.cell? ⟨b,x+j,none⟩=some d):ds=es:=by
 obtain ⟨d0,d1,rfl⟩:∃ a b,ds=[a,b]:=by match ds,h1 with | [a,b],_=>exact ⟨a,b,rfl⟩
 obtain ⟨e0,e1,rfl⟩:∃ a b,es=[a,b]:=by match es,h3 with | [a,b],_=>exact ⟨a,b,rfl⟩
 have a0:=(h2 0 d0 rfl).symm.trans (h4 0 e0 rfl)
 have a1:=(h2 1 d1 rfl).symm.trans (h4 1 e1 rfl)
 simp at a0 a1
 rw [a0,a1]
theorem SgIn_one {P:Nat→Prop} {w:World} (s:Sg):∀ {t:Sg} {cs:List Value},SgIn P w s cs→SgIn P w t cs→s=t:=by
 induction s using Sg.ind with
 | _ s ih=>
  intro t cs hs ht
  obtain ⟨pk,ck,e1,_,_,g1⟩:=(SgIn_iff _ _ _ _).1 hs
  obtain ⟨qk,dk,e2,_,_,g2⟩:=(SgIn_iff _ _ _ _).1 ht
  rw [e1] at e2
  simp at e2
  obtain ⟨hn,hp,hl,hc⟩:=e2
  obtain ⟨sn,sa⟩:=s
  obtain ⟨tn,ta⟩:=t
  simp only at *
  have:=S_inj hn
  subst this
  subst hp
  congr 1
  rcases g1 with g1 | ⟨b,o,hp,hb,hm⟩
  ·rw [g1] at hl ⊢
   exact (List.eq_nil_of_length_eq_zero hl.symm).symm
  rcases g2 with g2 | ⟨b',o',hp',hb',hm'⟩
  ·rw [g2] at hl ⊢
   simp at hl
   exact hl
  rw [hp] at hp'
  simp at hp'
  obtain ⟨rfl,rfl⟩:=hp'
  apply List.ext_getElem?
  intro i
  cases hq:sa[i]? with
  | none=>
   rw [List.getElem?_eq_none_iff] at hq
   exact (List.getElem?_eq_none (by omega)).symm
  | some x=>
   have hi:i<ta.length:=by have:=(List.getElem?_eq_some_iff.1 hq).1;omega
   rw [List.getElem?_eq_getElem hi]
   obtain ⟨ds,l1,c1,r1⟩:=hm i x hq
   obtain ⟨es,l2,c2,r2⟩:=hm' i ta[i] (List.getElem?_eq_getElem hi)
   have:=ds2 l1 c1 l2 c2
   subst this
   rw [ih x (List.mem_of_getElem? hq) r1 r2]
theorem GM_one {P:Nat→Prop} {w:World} {p:Option Addr} {l m:List Sg} (hl:GM P w p l) (hm:GM P w p m) (h:l.length=m.length) (hb:l.length≤9223372036854775807):l=m:=by
 rcases hl with g1 | ⟨b,o,hp,hb,hx⟩
 ·rw [g1] at h ⊢
  exact (List.eq_nil_of_length_eq_zero h.symm).symm
 rcases hm with g2 | ⟨b',o',hp',hb',hy⟩
 ·rw [g2] at h ⊢
  simp at h
  exact h
 rw [hp] at hp'
 simp at hp'
 obtain ⟨rfl,rfl⟩:=hp'
 apply List.ext_getElem?
 intro i
 cases hq:l[i]? with
 | none=>
  rw [List.getElem?_eq_none_iff] at hq
  exact (List.getElem?_eq_none (by omega)).symm
 | some x=>
  have hi:i<m.length:=by have:=(List.getElem?_eq_some_iff.1 hq).1;omega
  rw [List.getElem?_eq_getElem hi]
  obtain ⟨ds,l1,c1,r1⟩:=hx i x hq
  obtain ⟨es,l2,c2,r2⟩:=hy i m[i] (List.getElem?_eq_getElem hi)
  have:=ds2 l1 c1 l2 c2
  subst this
  rw [SgIn_one x r1 r2]
def PL (P:Nat→Prop) (w:World):Prop:=∀ b,P b→b<w.heap.size∧∃ cs t,w.heap[b]?=some (.cells cs t (0,0))
theorem PL.lt {P:Nat→Prop} {w:World} (h:PL P w):∀ b,P b→b<w.heap.size:=fun b hb=>(h b hb).1
theorem PL.below {P:Nat→Prop} {w w':World} {n:Nat} (h:PL P w) (hn:w.heap.size≤n) (hb:Below n w w'):PL P w':=fun b hPb=>by
 obtain ⟨h1,cs,t,h2⟩:=h b hPb
 exact ⟨Nat.lt_of_lt_of_le h1 hb.size,cs,t,(hb.block b (by omega)).trans h2⟩
theorem drew_more {w:World} {k f:Nat} {av:Array Value} {v:Value} (h:Calls Tryz.prog f av (w.drewN k) fun e w'=>e=.returned v∧∃ j,w'=(w.drewN k).drewN j):Calls Tryz.prog f av (w.drewN k) fun e w'=>e=.returned v∧∃ j,w'=w.drewN j:=
 h.mono fun e w' h=>⟨h.1,by obtain ⟨_,j,rfl⟩:=h;exact ⟨k+j,by simp⟩⟩
theorem same_any {P:Nat→Prop} {w:World} {p q:Option Addr} {l m:List Sg} {c d:Nat} (hP:PL P w) (hl:GM P w p l) (hm:GM P w q m) (h1:l.length≤9223372036854775807) (h2:m.length≤9223372036854775807) :
 ∃ r:Bool,(r=true→l=m)∧∀ k,Calls Tryz.prog 191 #[.slice p l.length c,.slice q m.length d] (w.drewN k) fun e w'=>e=.returned (.bool r)∧∃ k,w'=w.drewN k:=by
 by_cases hn:l.length=m.length
 ·rcases hl with rfl | ⟨b,o,rfl,hb,hx⟩
  ·have:m=[]:=List.eq_nil_of_length_eq_zero hn.symm
   subst this
   exact ⟨true,fun _=>rfl,fun k=>drew_more same_nil⟩
  ·rcases hm with rfl | ⟨b',o',rfl,hb',hy⟩
   ·have:l=[]:=List.eq_nil_of_length_eq_zero hn
    subst this
    exact ⟨true,fun _=>rfl,fun k=>drew_more same_nil⟩
   ·by_cases h0:l.length=0
    ·have e1:=List.eq_nil_of_length_eq_zero h0
     have e2:=List.eq_nil_of_length_eq_zero (hn.symm.trans h0)
     subst e1
     subst e2
     exact ⟨true,fun _=>rfl,fun k=>drew_more same_nil⟩
    ·obtain ⟨_,ca,ta,hca⟩:=hP b hb
     obtain ⟨_,cb,tb,hcb⟩:=hP b' hb'
     refine ⟨_,?_,fun k=>by rw [← hn];exact drew_more (same_at (w:=w.drewN k) hca hcb h1 (by omega))⟩
     intro hr
     have hr:=of_decide_eq_true hr
     simp at hr
     obtain ⟨rfl,rfl⟩:=hr
     exact GM_one (.inr ⟨b,o,rfl,hb,hx⟩) (.inr ⟨b,o,rfl,hb,hy⟩) hn h1
 ·exact ⟨false,(fun h=>by cases h),fun k=>drew_more (same_ne hn h1 h2)⟩
theorem written_any (n:Nat):∀ {P:Nat→Prop} {w:World} {p:Option Addr} {l:List Sg} {c:Nat},PL P w→GM P w p l→l.length≤9223372036854775807→n≤1000000 →
 Calls Tryz.prog 142 #[.slice p l.length c,.int .i64 n] w fun r w'=>r=.returned (.bool (wrM l n))∧Below w.heap.size w w':=by
 induction n with
 | zero=>
  intro P w p l c hP hM hl hn
  have HW:Hid (wrM l 0=decide (l.length=0)):=by
   show _=_
   unfold wrM
   by_cases h:l.length=0
   ·have:=List.eq_nil_of_length_eq_zero h
    subst this
    rfl
   ·simp [h]
  generalize wrM l 0=wv at *
  generalize l.length=m at *
  clear hM
  by_cases h0:m=0
  ·subst h0
   go_enter Tryz.func142,Tryz.ntmps142
   go_wp2_with fail
   go_loopg [21] 0 (fun k s21 wr=>s21=.int .i64 0∧wr=w)
   case atStart=>exact ⟨rfl,rfl⟩
   case round=>
    obtain ⟨rfl,rfl⟩:=hrel
    go_wp2_with fail
    go_ret
    exact ⟨by rw [HW.out];rfl,Below.refl _ _⟩
  ·have q1:(0:Int)<m:=by omega
   have HF:Hid (wv=false):=by show _=_;rw [HW.out];simp [h0]
   by_cases h40:(40:Int)<m
   ·go_enter Tryz.func142,Tryz.ntmps142
    go_wp2_with fail
    go_ret
    exact ⟨by rw [HF.out];rfl,Below.refl _ _⟩
   ·go_enter Tryz.func142,Tryz.ntmps142
    go_wp2_with fail
    go_ret
    exact ⟨by rw [HF.out];rfl,Below.refl _ _⟩
 | succ n ih=>
  intro P w p l c hP hM hl hn
  have HIH:=zz fun (Q:Nat→Prop) (W:World) (q:Option Addr) (l':List Sg) (c':Nat)=>@ih Q W q l' c'
  have HM:=zz hM
  have HPL:=zz hP
  have hni:((n+1:Nat):Int) - 1=n:=by omega
  have hn0:¬ ((n+1:Nat):Int)=0:=by omega
  have hn1:(((n+1:Nat):Int) == 0)=false:=by simp;omega
  have HW:Hid (wrM l (n+1)=(decide (l.length≤40) && l.all fun s=>sgM s n)):=by show _=_;unfold wrM;simp
  generalize hm:l.length=m at *
  have HLM:=zz hm
  clear ih hM hP hm
  by_cases h40:m≤40
  ·have q1:¬ (40:Int)<m:=by omega
   generalize hN:((n+1:Nat):Int)=N at *
   have q2:(N == 0)=false:=hn1
   go_enter Tryz.func142,Tryz.ntmps142
   by_cases h0:m=0
   ·have HT:Hid (wrM l (n+1)=true):=by
     show _=_
     have:l=[]:=List.eq_nil_of_length_eq_zero (by rw [HLM.out];exact h0)
     rw [HW.out,this];simp [h0]
    subst h0
    go_wp2_with fail
    go_loopg [21] 0 (fun k s21 wr=>s21=.int .i64 0∧wr=w)
    case atStart=>exact ⟨rfl,rfl⟩
    case round=>
     obtain ⟨rfl,rfl⟩:=hrel
     go_wp2_with fail
     go_ret
     exact ⟨by rw [HT.out];rfl,Below.refl _ _⟩
   have q3:(0:Int)<m:=by omega
   go_wp2_with fail
   go_loopg [21] m (fun k s21 wr=>∃ i:Nat,i≤m∧k=m - i∧s21=.int .i64 i∧Below w.heap.size w wr∧(l.take i).all (fun s=>sgM s n)=true)
   case atStart=>exact ⟨0,Nat.zero_le _,by omega,rfl,Below.refl _ _,rfl⟩
   case round=>
    obtain ⟨i,hi1,rfl,rfl,hbr,hall⟩:=hrel
    have HBR:=zz hbr
    have HALL:=zz hall
    by_cases hlt:i<m
    ·have hil:i<l.length:=by rw [HLM.out];exact hlt
     rcases HM.out with he | ⟨b,o,rfl,hPb,hma⟩
     ·rw [he] at hil;simp at hil
     obtain ⟨ds,l1,c1,r1⟩:=hma i l[i] (by simp)
     obtain ⟨qk,dk,rfl,hz,hsl,hG⟩:=(SgIn_iff _ _ _ _).1 r1
     have hbb:=HPL.out b hPb
     have a0:wr.cell? ⟨b,o+i * 2,none⟩=some (.string (S l[i].nm)):=(hbr.cell (p:=⟨b,o+i * 2,none⟩) hbb.1).trans (c1 0 _ rfl)
     have a1:wr.cell? ⟨b,o+i * 2+1,none⟩=some (.slice qk l[i].ar.length dk):=(hbr.cell (p:=⟨b,o+i * 2+1,none⟩) hbb.1).trans (c1 1 _ rfl)
     have hii:(i:Int)<m:=by omega
     have hHS:=fun W=>heads_any (s:=l[i]) (pk:=qk) (ck:=dk) (w:=W) hz (Nat.le_trans hsl.1 hsl.2.1)
     have hWR:=fun W (hb:Below w.heap.size w W)=>HIH.out P W qk l[i].ar dk (HPL.out.below (Nat.le_refl _) hb) (hG.keep (KP.of_below hb HPL.out.lt) fun b hb=>hb) (Nat.le_trans hsl.1 hsl.2.1) (by omega)
     have htk:l.take (i+1)=l.take i ++ [l[i]]:=List.take_succ_eq_append_getElem hil
     have hmem:l[i] ∈ l:=by simp
     have hnal:=Nat.le_trans hsl.1 hsl.2.1
     have hbw:b<wr.heap.size:=Nat.lt_of_lt_of_le hbb.1 hbr.size
     have hne:¬ b=wr.heap.size:=by omega
     have hsz:w.heap.size≤wr.heap.size:=hbr.size
     have HSZ:=zz hsz
     have HG:=zz hG
     have HZ:=zz hz
     cases i with
     | zero=>
      generalize l[0]=s at *
      generalize hna:s.ar.length=na at *
      have HNA:=zz hna
      have HH:=zz hHS
      have HWR:=zz hWR
      have HTK:=zz htk
      have HMEM:=zz hmem
      clear hHS hWR htk hmem hbr hall hma r1 hG hsl c1 l1 hz hna hbb hsz
      simp only [Nat.zero_mul,Nat.add_zero] at a0 a1
      go_wp2_with fail
      go_quiet (fail)
      go_wp2_with fail
      refine (HH.out _).mono ?_
      rintro r w1 ⟨rfl,hb1⟩
      have hBa:=HBR.out.alloc HSZ.out (.cells #[.string (S s.nm),.slice qk na dk] 175)
      have hBd:Below w.heap.size w ((wr.alloc (.cells #[.string (S s.nm),.slice qk na dk] 175)).drewN nq):=⟨hBa.os,hBa.tape,hBa.output,hBa.size,hBa.block⟩
      have hB1:Below w.heap.size w w1:=hBd.trans (hb1.mono hBd.size)
      have hH1:Hold wr.heap.size #[.string (S s.nm),.slice qk na dk] 175 w1:=Hold.below (W:=(wr.alloc (.cells #[.string (S s.nm),.slice qk na dk] 175)).drewN nq) (Hold.new wr _ 175) hb1 (by simp)
      have e1:=hH1.cell 1
      simp only [lGA,lGS,lGZ,Nat.zero_add] at e1
      have HB1:=zz hB1
      clear hB1 hH1 hb1 hBa hBd
      cases hh:headsM s
      ·have HF:Hid (wrM l (n+1)=false):=by
        show _=_
        rw [HW.out]
        have:(l.all fun s=>sgM s n)=false:=by
         rw [List.all_eq_false]
         exact ⟨s,HMEM.out,by rw [sgM_eq,hh];simp⟩
        rw [this];simp
       clear hh
       go_wp2_with fail
       go_ret
       exact ⟨by rw [HF.out];rfl,HB1.out⟩
      ·have HHT:=zz hh
       clear hh
       go_wp2_with fail
       refine (HWR.out w1 HB1.out).mono ?_
       rintro r w2 ⟨rfl,hb2⟩
       have HB2:=zz (HB1.out.trans (hb2.mono HB1.out.size))
       clear hb2
       cases hw:wrM s.ar n
       ·have HF:Hid (wrM l (n+1)=false):=by
         show _=_
         rw [HW.out]
         have:(l.all fun s=>sgM s n)=false:=by
          rw [List.all_eq_false]
          exact ⟨s,HMEM.out,by rw [sgM_eq,hw];simp⟩
         rw [this];simp
        clear hw
        go_wp2_with fail
        go_ret
        exact ⟨by rw [HF.out];rfl,HB2.out⟩
       ·have HWT:=zz hw
        clear hw
        go_wp2_with fail
        go_roundg (m - (0+1))
        case measure=>omega
        case rel=>
         refine ⟨0+1,by omega,rfl,by go_num,HB2.out,?_⟩
         rw [HTK.out,List.all_append,HALL.out]
         simp [sgM_eq,HHT.out,HWT.out]
     | succ j=>
      have hjl:j<l.length:=by omega
      obtain ⟨es,l2,c2,r2⟩:=hma j l[j] (by simp)
      obtain ⟨pk',ck',rfl,hz2,hsl2,hG2⟩:=(SgIn_iff _ _ _ _).1 r2
      have b0:wr.cell? ⟨b,o+j * 2,none⟩=some (.string (S l[j].nm)):=(hbr.cell (p:=⟨b,o+j * 2,none⟩) hbb.1).trans (c2 0 _ rfl)
      have b1:wr.cell? ⟨b,o+j * 2+1,none⟩=some (.slice pk' l[j].ar.length ck'):=(hbr.cell (p:=⟨b,o+j * 2+1,none⟩) hbb.1).trans (c2 1 _ rfl)
      have hji:((j+1:Nat):Int) - 1=(j:Int):=by omega
      have hjlt:j<m:=by omega
      have hmj:sgM l[j] n=true:=by
       have h:=HALL.out
       rw [List.all_eq_true] at h
       exact h _ (List.mem_take_iff_getElem.2 ⟨j,by omega,rfl⟩)
      have hnal2:=Nat.le_trans hsl2.1 hsl2.2.1
      by_cases hnm:l[j+1].nm=l[j].nm
      ·have hnq:((S l[j+1].nm).toList == (S l[j].nm).toList)=true:=by rw [S_list,S_list,hnm];simp
       have hBn:=hbr.alloc hsz (.cells #[.string (S l[j+1].nm),.slice qk l[j+1].ar.length dk] 175)
       obtain ⟨rr,hrr,hSC⟩:=same_any (c:=dk) (d:=ck') (HPL.out.below (Nat.le_refl _) hBn) (hG.keep (KP.of_below hBn HPL.out.lt) fun b hb=>hb) (hG2.keep (KP.of_below hBn HPL.out.lt) fun b hb=>hb) hnal hnal2
       have HSC:=zz hSC
       clear hSC hBn
       have hres:rr=true→sgM l[j+1] n=true:=fun h=>by
        rw [← hmj,sgM_eq,sgM_eq,hrr h]
        congr 1
        unfold headsM
        rw [hnm,hrr h]
       have HRES:=zz hres
       clear hres hrr
       generalize l[j+1]=s at *
       generalize l[j]=v at *
       generalize hna:s.ar.length=na at *
       have HNA:=zz hna
       have HH:=zz hHS
       have HWR:=zz hWR
       have HTK:=zz htk
       have HMEM:=zz hmem
       clear hHS hWR htk hmem hbr hall hma r1 hG hsl c1 l1 hz hna hbb hsz r2 c2 l2 hG2 hsl2 hz2 hmj hnm
       cases rr with
       | false=>
        go_wp2_with fail
        go_quiet (exact HSC.out _)
        go_wp2_with fail
        refine (HH.out _).mono ?_
        rintro r w1 ⟨rfl,hb1⟩
        have hBa:=HBR.out.alloc HSZ.out (.cells #[.string (S s.nm),.slice qk na dk] 175)
        have hBd:Below w.heap.size w ((wr.alloc (.cells #[.string (S s.nm),.slice qk na dk] 175)).drewN nq):=⟨hBa.os,hBa.tape,hBa.output,hBa.size,hBa.block⟩
        have hB1:Below w.heap.size w w1:=hBd.trans (hb1.mono hBd.size)
        have hH1:Hold wr.heap.size #[.string (S s.nm),.slice qk na dk] 175 w1:=Hold.below (W:=(wr.alloc (.cells #[.string (S s.nm),.slice qk na dk] 175)).drewN nq) (Hold.new wr _ 175) hb1 (by simp)
        have e1:=hH1.cell 1
        simp only [lGA,lGS,lGZ,Nat.zero_add] at e1
        have HB1:=zz hB1
        clear hB1 hH1 hb1 hBa hBd
        cases hh:headsM s
        ·have HF:Hid (wrM l (n+1)=false):=by
          show _=_
          rw [HW.out]
          have:(l.all fun s=>sgM s n)=false:=by
           rw [List.all_eq_false]
           exact ⟨s,HMEM.out,by rw [sgM_eq,hh];simp⟩
          rw [this];simp
         clear hh
         go_wp2_with fail
         go_ret
         exact ⟨by rw [HF.out];rfl,HB1.out⟩
        ·have HHT:=zz hh
         clear hh
         go_wp2_with fail
         refine (HWR.out w1 HB1.out).mono ?_
         rintro r w2 ⟨rfl,hb2⟩
         have HB2:=zz (HB1.out.trans (hb2.mono HB1.out.size))
         clear hb2
         cases hw:wrM s.ar n
         ·have HF:Hid (wrM l (n+1)=false):=by
           show _=_
           rw [HW.out]
           have:(l.all fun s=>sgM s n)=false:=by
            rw [List.all_eq_false]
            exact ⟨s,HMEM.out,by rw [sgM_eq,hw];simp⟩
           rw [this];simp
          clear hw
          go_wp2_with fail
          go_ret
          exact ⟨by rw [HF.out];rfl,HB2.out⟩
         ·have HWT:=zz hw
          clear hw
          go_wp2_with fail
          go_roundg (m - (j+1+1))
          case measure=>omega
          case rel=>
           refine ⟨j+1+1,by omega,rfl,by go_num,HB2.out,?_⟩
           rw [HTK.out,List.all_append,HALL.out]
           simp [sgM_eq,HHT.out,HWT.out]
       | true=>
        have HRT:=zz (HRES.out rfl)
        go_wp2_with fail
        go_quiet (exact HSC.out _)
        have hBa:=HBR.out.alloc HSZ.out (.cells #[.string (S s.nm),.slice qk na dk] 175)
        have hBd:Below w.heap.size w ((wr.alloc (.cells #[.string (S s.nm),.slice qk na dk] 175)).drewN nq):=⟨hBa.os,hBa.tape,hBa.output,hBa.size,hBa.block⟩
        have HBD:=zz hBd
        clear hBa hBd
        go_wp2_with fail
        go_roundg (m - (j+1+1))
        case measure=>omega
        case rel=>
         refine ⟨j+1+1,by omega,rfl,by go_num,HBD.out,?_⟩
         rw [HTK.out,List.all_append,HALL.out]
         simp [HRT.out]
      ·have hnq:((S l[j+1].nm).toList == (S l[j].nm).toList)=false:=by rw [S_list,S_list];simpa using hnm
       generalize l[j+1]=s at *
       generalize l[j]=v at *
       generalize hna:s.ar.length=na at *
       have HNA:=zz hna
       have HH:=zz hHS
       have HWR:=zz hWR
       have HTK:=zz htk
       have HMEM:=zz hmem
       clear hHS hWR htk hmem hbr hall hma r1 hG hsl c1 l1 hz hna hbb hsz r2 c2 l2 hG2 hsl2 hz2 hmj hnm
       go_wp2_with fail
       go_quiet (fail)
       go_wp2_with fail
       refine (HH.out _).mono ?_
       rintro r w1 ⟨rfl,hb1⟩
       have hBa:=HBR.out.alloc HSZ.out (.cells #[.string (S s.nm),.slice qk na dk] 175)
       have hBd:Below w.heap.size w ((wr.alloc (.cells #[.string (S s.nm),.slice qk na dk] 175)).drewN nq):=⟨hBa.os,hBa.tape,hBa.output,hBa.size,hBa.block⟩
       have hB1:Below w.heap.size w w1:=hBd.trans (hb1.mono hBd.size)
       have hH1:Hold wr.heap.size #[.string (S s.nm),.slice qk na dk] 175 w1:=Hold.below (W:=(wr.alloc (.cells #[.string (S s.nm),.slice qk na dk] 175)).drewN nq) (Hold.new wr _ 175) hb1 (by simp)
       have e1:=hH1.cell 1
       simp only [lGA,lGS,lGZ,Nat.zero_add] at e1
       have HB1:=zz hB1
       clear hB1 hH1 hb1 hBa hBd
       cases hh:headsM s
       ·have HF:Hid (wrM l (n+1)=false):=by
         show _=_
         rw [HW.out]
         have:(l.all fun s=>sgM s n)=false:=by
          rw [List.all_eq_false]
          exact ⟨s,HMEM.out,by rw [sgM_eq,hh];simp⟩
         rw [this];simp
        clear hh
        go_wp2_with fail
        go_ret
        exact ⟨by rw [HF.out];rfl,HB1.out⟩
       ·have HHT:=zz hh
        clear hh
        go_wp2_with fail
        refine (HWR.out w1 HB1.out).mono ?_
        rintro r w2 ⟨rfl,hb2⟩
        have HB2:=zz (HB1.out.trans (hb2.mono HB1.out.size))
        clear hb2
        cases hw:wrM s.ar n
        ·have HF:Hid (wrM l (n+1)=false):=by
          show _=_
          rw [HW.out]
          have:(l.all fun s=>sgM s n)=false:=by
           rw [List.all_eq_false]
           exact ⟨s,HMEM.out,by rw [sgM_eq,hw];simp⟩
          rw [this];simp
         clear hw
         go_wp2_with fail
         go_ret
         exact ⟨by rw [HF.out];rfl,HB2.out⟩
        ·have HWT:=zz hw
         clear hw
         go_wp2_with fail
         go_roundg (m - (j+1+1))
         case measure=>omega
         case rel=>
          refine ⟨j+1+1,by omega,rfl,by go_num,HB2.out,?_⟩
          rw [HTK.out,List.all_append,HALL.out]
          simp [sgM_eq,HHT.out,HWT.out]
    ·have h1:l.take i=l:=List.take_of_length_le (by rw [HLM.out];omega)
     have HT:Hid (wrM l (n+1)=true):=by show _=_;rw [HW.out,← h1,HALL.out];simp [h40]
     have hii:¬ (i:Int)<m:=by omega
     clear h1 hall hbr
     go_wp2_with fail
     go_ret
     exact ⟨by rw [HT.out];rfl,HBR.out⟩
  ·have q1:(40:Int)<m:=by omega
   have HF:Hid (wrM l (n+1)=false):=by show _=_;rw [HW.out];simp [h40]
   generalize ((n+1:Nat):Int)=N at *
   go_enter Tryz.func142,Tryz.ntmps142
   go_wp2_with fail
   go_ret
   exact ⟨by rw [HF.out];rfl,Below.refl _ _⟩
def formM (f:Fm):Bool:=cn f.nm && wrM f.ar 30
def dataM (d:Dt):Bool:=cn d.nm && namesM d.ps && !decide (d.fs.length=0) && decide (d.fs.length≤40) && d.fs.all formM
theorem data_any {P:Nat→Prop} {w:World} {d:Dt} {pp:Option Addr} {cp:Nat} {pf:Option Addr} {cf:Nat} (hP:PL P w) (hE:DtIn P w d [.string (S d.nm),.slice pp d.ps.length cp,.slice pf d.fs.length cf]) :
 Calls Tryz.prog 77 #[.agg #[.string (S d.nm),.slice pp d.ps.length cp,.slice pf d.fs.length cf]] w fun r w'=>r=.returned (.bool (dataM d))∧Below w.heap.size w w':=by
 obtain ⟨pp',cp',pf',cf',hcs,hz,hs1,hs2,hSM,hRM⟩:=hE
 simp at hcs
 obtain ⟨⟨rfl,rfl⟩,rfl,rfl⟩:=hcs
 have hpl:=Nat.le_trans hs1.1 hs1.2.1
 have hfl:=Nat.le_trans hs2.1 hs2.2.1
 have HC:=zz fun W=>con_any d.nm W hz
 have HN:=zz fun W (hb:Below w.heap.size w W)=>names_any (c:=cp) (w:=W) hpl (fun b hb'=>Nat.lt_of_lt_of_le (hP.lt b hb') hb.size) (hSM.keep (KP.of_below hb hP.lt))
 have HRM:=zz hRM
 have HPL:=zz hP
 have hB0:Below w.heap.size w (w.alloc (.cells #[.string (S d.nm),.slice pp d.ps.length cp,.slice pf d.fs.length cf] 77)):=(Below.refl _ w).alloc (Nat.le_refl _) _
 have hW:Hold w.heap.size #[.string (S d.nm),.slice pp d.ps.length cp,.slice pf d.fs.length cf] 77 (w.alloc (.cells #[.string (S d.nm),.slice pp d.ps.length cp,.slice pf d.fs.length cf] 77)):=Hold.new w _ 77
 have HB0:=zz hB0
 have HHW:=zz hW
 have HD:Hid (dataM d=(cn d.nm && namesM d.ps && !decide (d.fs.length=0) && decide (d.fs.length≤40) && d.fs.all formM)):=rfl
 clear hSM hRM hP hB0 hW hs1 hs2 hz
 generalize hnf:d.fs.length=nf at *
 have HNF:=zz hnf
 generalize hdp:d.ps.length=np at *
 have HNP:=zz hdp
 clear hnf hdp
 generalize S d.nm=sn at *
 cases hc:cn d.nm
 ·rw [hc] at HC HD
  have HF:Hid (dataM d=false):=by show _=_;rw [HD.out];simp
  clear hc
  go_enter Tryz.func77,Tryz.ntmps77
  go_wp2_with fail
  refine (HC.out _).mono ?_
  rintro r w1 ⟨rfl,rfl⟩
  go_wp2_with fail
  go_ret
  exact ⟨by rw [HF.out];rfl,HB0.out⟩
 ·rw [hc] at HC HD
  clear hc
  go_enter Tryz.func77,Tryz.ntmps77
  go_wp2_with fail
  refine (HC.out _).mono ?_
  rintro r w1 ⟨rfl,rfl⟩
  go_wp2_with fail
  refine (HN.out _ HB0.out).mono ?_
  rintro r w1 ⟨rfl,hb1⟩
  have hB1:=HB0.out.trans (hb1.mono HB0.out.size)
  have hH1:=HHW.out.below hb1 (by simp)
  have c2:=hH1.cell 2
  simp only [lGA,lGS,lGZ,Nat.zero_add] at c2
  have HB1:=zz hB1
  clear hb1 hB1 hH1
  cases hn:namesM d.ps
  ·rw [hn] at HD
   have HF:Hid (dataM d=false):=by show _=_;rw [HD.out];simp
   clear hn
   go_wp2_with fail
   go_ret
   exact ⟨by rw [HF.out];rfl,HB1.out⟩
  ·rw [hn] at HD
   clear hn
   by_cases h0:nf=0
   ·subst h0
    have HF:Hid (dataM d=false):=by show _=_;rw [HD.out];simp
    go_wp2_with fail
    go_ret
    exact ⟨by rw [HF.out];rfl,HB1.out⟩
   have q0:¬ (nf:Int)=0:=by omega
   have q0b:((nf:Int) == 0)=false:=by simp;omega
   by_cases h40:nf≤40
   ·have q1:¬ (40:Int)<nf:=by omega
    have q2:(0:Int)<nf:=by omega
    have HD2:Hid (dataM d=d.fs.all formM):=by show _=_;rw [HD.out];simp [h0,h40]
    go_wp2_with fail
    go_loopg [30] nf (fun k s30 wr=>∃ i:Nat,i≤nf∧k=nf - i∧s30=.int .i64 i∧Below w.heap.size w wr∧(d.fs.take i).all formM=true)
    case atStart=>exact ⟨0,Nat.zero_le _,by omega,rfl,HB1.out,rfl⟩
    case round=>
     obtain ⟨i,hi1,rfl,rfl,hbr,hall⟩:=hrel
     have HBR:=zz hbr
     have HALL:=zz hall
     by_cases hlt:i<nf
     ·have hil:i<d.fs.length:=by rw [HNF.out];exact hlt
      rcases HRM.out with he | ⟨b,o,rfl,hPb,hma⟩
      ·rw [he] at hil;simp at hil
      obtain ⟨ds,l1,c1,r1⟩:=hma i d.fs[i] (by simp)
      obtain ⟨qk,dk,rfl,hz,hsl,hG⟩:=r1
      have hbb:=HPL.out b hPb
      have a0:wr.cell? ⟨b,o+i * 2,none⟩=some (.string (S d.fs[i].nm)):=(hbr.cell (p:=⟨b,o+i * 2,none⟩) hbb.1).trans (c1 0 _ rfl)
      have a1:wr.cell? ⟨b,o+i * 2+1,none⟩=some (.slice qk d.fs[i].ar.length dk):=(hbr.cell (p:=⟨b,o+i * 2+1,none⟩) hbb.1).trans (c1 1 _ rfl)
      have hii:(i:Int)<nf:=by omega
      have hCF:=fun W=>con_any d.fs[i].nm W hz
      have hWR:=fun W (hb:Below w.heap.size w W)=>written_any 30 (w:=W) (c:=dk) (HPL.out.below (Nat.le_refl _) hb) (hG.keep (KP.of_below hb HPL.out.lt) fun b hb=>hb) (Nat.le_trans hsl.1 hsl.2.1) (by omega)
      have htk:d.fs.take (i+1)=d.fs.take i ++ [d.fs[i]]:=List.take_succ_eq_append_getElem hil
      have hmem:d.fs[i] ∈ d.fs:=by simp
      have hsz:w.heap.size≤wr.heap.size:=hbr.size
      have HSZ:=zz hsz
      generalize d.fs[i]=f at *
      generalize f.ar.length=na at *
      have HCF:=zz hCF
      have HWR:=zz hWR
      have HTK:=zz htk
      have HMEM:=zz hmem
      have hBa:=hbr.alloc hsz (.cells #[.string (S f.nm),.slice qk na dk] 121)
      have HBA:=zz hBa
      clear hCF hWR htk hmem hbr hall hma hG hsl c1 l1 hz hbb hsz hBa
      cases hcf:cn f.nm
      ·have HF:Hid (dataM d=false):=by
        show _=_
        rw [HD2.out,List.all_eq_false]
        exact ⟨f,HMEM.out,by unfold formM;rw [hcf];simp⟩
       rw [hcf] at HCF
       clear hcf
       go_wp2_with fail
       refine (HCF.out _).mono ?_
       rintro r w2 ⟨rfl,rfl⟩
       go_wp2_with fail
       go_ret
       exact ⟨by rw [HF.out];rfl,HBA.out⟩
      ·have HCT:=zz hcf
       rw [hcf] at HCF
       clear hcf
       go_wp2_with fail
       refine (HCF.out _).mono ?_
       rintro r w2 ⟨rfl,rfl⟩
       go_wp2_with fail
       refine (HWR.out _ HBA.out).mono ?_
       rintro r w2 ⟨rfl,hb2⟩
       have HB2:=zz (HBA.out.trans (hb2.mono HBA.out.size))
       clear hb2
       cases hw:wrM f.ar 30
       ·have HF:Hid (dataM d=false):=by
         show _=_
         rw [HD2.out,List.all_eq_false]
         exact ⟨f,HMEM.out,by unfold formM;rw [hw];simp⟩
        clear hw
        go_wp2_with fail
        go_ret
        exact ⟨by rw [HF.out];rfl,HB2.out⟩
       ·have HWT:=zz hw
        clear hw
        go_wp2_with fail
        go_roundg (nf - (i+1))
        case measure=>omega
        case rel=>
         refine ⟨i+1,by omega,rfl,by go_num,HB2.out,?_⟩
         rw [HTK.out,List.all_append,HALL.out]
         simp [formM,HCT.out,HWT.out]
     ·have h1:d.fs.take i=d.fs:=List.take_of_length_le (by rw [HNF.out];omega)
      have HT:Hid (dataM d=true):=by show _=_;rw [HD2.out,← h1,HALL.out]
      have hii:¬ (i:Int)<nf:=by omega
      clear h1 hall hbr
      go_wp2_with fail
      go_ret
      exact ⟨by rw [HT.out];rfl,HBR.out⟩
   ·have q1:(40:Int)<nf:=by omega
    have HF:Hid (dataM d=false):=by show _=_;rw [HD.out];simp [h40]
    go_wp2_with fail
    go_ret
    exact ⟨by rw [HF.out];rfl,HB1.out⟩
end Go.Proofs.YtcnnlecjdkfdjaaGreatDoor
