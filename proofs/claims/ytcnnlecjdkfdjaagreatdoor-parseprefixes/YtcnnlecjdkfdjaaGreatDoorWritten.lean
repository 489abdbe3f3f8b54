/- TopE Written: the texts of these names, of which the claim is made. -/
import Derived.Test.YtcnnlecjdkfdjaaGreatDoorMass
import Derived.Test.YtcnnlecjdkfdjaaGreatDoorMay
set_option linter.unusedVariables false
set_option linter.unusedSimpArgs false
set_option maxRecDepth 100000
set_option maxHeartbeats 8000000
namespace Go.Proofs.YtcnnlecjdkfdjaaGreatDoor
open Go.RowKit
def exprM (l:List Tk):Tr × (Int × Int) × Int:=match exprRun l with
 | .inl n=>(t0,plM l n,60)
 | .inr q=>if checkM (q.ex.headD t0) then (q.ex.headD t0,(0,0),0) else (t0,plM l 0,61)
def colB (B b:Nat):Nat:=if b=B then 1 else 0
theorem pm_start {w:World} {B:Nat} {tp:Option Addr} {n tc:Nat} {l:List Tk} {P:Nat→Prop} (hB:Hold B (psC tp n tc 0 (.slice none 0 0) (.slice none 0 0) (.slice none 0 0) (.slice none 0 0) (.slice none 0 0) (.slice none 0 0)) 63 w) (hn:l.length=n) (hm:n≤10000) (hK:KM P w tp l) (hP:∀ b,P b→b<w.heap.size∧b≠B):PM (colB B) B l (ps0 []) w:=by
 subst hn
 exact ⟨tp,tc,_,_,_,_,_,_,hB,by simp [colB],hK.keep (KP.refl _ w) (fun b hb=>⟨(hP b hb).1,by simp [colB,(hP b hb).2]⟩) (fun _ _ h=>h),by omega,by simp [ps0],RowOf.nil _ _ _ _ _ _,RowOf.nil _ _ _ _ _ _,RowOf.nil _ _ _ _ _ _,RowOf.nil _ _ _ _ _ _,RowOf.nil _ _ _ _ _ _,RowOf.nil _ _ _ _ _ _⟩
theorem start_bound (l:List Tk) (k:Nat) (hm:l.length≤10000) (hk:k=10∨k=1):tot (ps0 [])+wtP l { ps0 [] with ru:=[r0 k,r0 0] }≤900000000:=by
 have h1:=topW_le l { ps0 [] with ru:=[r0 k,r0 0] }
 unfold tot wtP
 have h2:(({ ps0 [] with ru:=[r0 k,r0 0] }:Ps).ru.map wtR).sum≤20:=by rcases hk with rfl | rfl <;> decide
 have h3:tot (ps0 [])=0:=rfl
 unfold tot at h3
 omega
def put5 (w:World) (b:Nat) (v0 v1 v2 v3 v4 p0 p1:Value):World:=((((((w.setCell ⟨b,0,none⟩ v0).setCell ⟨b,1,none⟩ v1).setCell ⟨b,2,none⟩ v2).setCell ⟨b,3,none⟩ v3).setCell ⟨b,4,none⟩ v4).setCell ⟨b+1,0,none⟩ p0).setCell ⟨b+1,1,none⟩ p1
theorem put5_hold {w0 w:World} {b:Nat} {C D:Array Value} (v0 v1 v2 v3 v4 p0 p1:Value) (hC:C.size=5) (hD:D.size=2) (hR:Hold b C 27 w) (hQ:Hold (b+1) D 29 w) (hB:Below b w0 w):(put5 w b v0 v1 v2 v3 v4 p0 p1).cell? ⟨b,0,none⟩=some v0∧(put5 w b v0 v1 v2 v3 v4 p0 p1).cell? ⟨b,1,none⟩=some v1∧(put5 w b v0 v1 v2 v3 v4 p0 p1).cell? ⟨b,2,none⟩=some v2∧(put5 w b v0 v1 v2 v3 v4 p0 p1).cell? ⟨b,3,none⟩=some v3∧(put5 w b v0 v1 v2 v3 v4 p0 p1).cell? ⟨b,4,none⟩=some v4∧(put5 w b v0 v1 v2 v3 v4 p0 p1).cell? ⟨b+1,0,none⟩=some p0∧(put5 w b v0 v1 v2 v3 v4 p0 p1).cell? ⟨b+1,1,none⟩=some p1∧Below b w0 (put5 w b v0 v1 v2 v3 v4 p0 p1)∧KP (fun x=>x≠b∧x≠b+1) w (put5 w b v0 v1 v2 v3 v4 p0 p1):=by
 have n1:b≠b+1:=by omega
 have n2:b+1≠b:=by omega
 match C,hC with
 | ⟨[c0,c1,c2,c3,c4]⟩,_=>
 match D,hD with
 | ⟨[d0,d1]⟩,_=>
  have h1:=((((((hR.set 0 v0).set 1 v1).set 2 v2).set 3 v3).set 4 v4).other n1 0 p0).other n1 1 p1
  have h2:=((((((hQ.other n2 0 v0).other n2 1 v1).other n2 2 v2).other n2 3 v3).other n2 4 v4).set 0 p0).set 1 p1
  simp only [lSI,lSZ,lSS] at h1 h2
  have hx:∀ x:Nat,b≤b+x:=fun x=>by omega
  refine ⟨h1.cell 0,h1.cell 1,h1.cell 2,h1.cell 3,h1.cell 4,h2.cell 0,h2.cell 1,?_,?_⟩
  ·exact ((((((hB.setCell (Nat.le_refl _) _).setCell (Nat.le_refl _) _).setCell (Nat.le_refl _) _).setCell (Nat.le_refl _) _).setCell (Nat.le_refl _) _).setCell (hx 1) _).setCell (hx 1) _
  ·exact ((((((KP.setCell w b 0 v0 (fun h=>h.1 rfl)).trans (KP.setCell _ b 1 v1 (fun h=>h.1 rfl))).trans (KP.setCell _ b 2 v2 (fun h=>h.1 rfl))).trans (KP.setCell _ b 3 v3 (fun h=>h.1 rfl))).trans (KP.setCell _ b 4 v4 (fun h=>h.1 rfl))).trans (KP.setCell _ (b+1) 0 p0 (fun h=>h.2 rfl))).trans (KP.setCell _ (b+1) 1 p1 (fun h=>h.2 rfl))
theorem t0_in (P:Nat→Prop) (w:World):TrIn P w t0 [.int .i64 0,.string ⟨#[]⟩,.int .i64 0,.slice none 0 0,.slice none 0 0]:=by
 rw [TrIn_iff]
 exact ⟨none,0,none,0,rfl,by simp [t0],by simp [t0],⟨Nat.le_refl _,by omega,fun _=>rfl⟩,⟨Nat.le_refl _,by omega,fun _=>rfl⟩,.inl rfl,.inl rfl⟩
theorem pexpr_any {P:Nat→Prop} {w:World} {tp:Option Addr} {n tc:Nat} {l:List Tk} (hP:∀ b,P b→b<w.heap.size) (hn:l.length=n) (hK:KM P w tp l) (hm:n≤10000) :
 Calls Tryz.prog 11 #[.slice tp n tc] w fun r w'=>∃ pn cn pk ck,r=.returned (.tuple #[.agg (cs5 (exprM l).1 pn cn pk ck),.agg #[.int .i64 (exprM l).2.1.1,.int .i64 (exprM l).2.1.2],.int .i64 (exprM l).2.2])∧TrIn (fun b=>b<w'.heap.size) w' (exprM l).1 [.int .i64 (exprM l).1.kd,.string (S (exprM l).1.nm),.int .i64 (exprM l).1.nu,.slice pn (exprM l).1.ns.length cn,.slice pk (exprM l).1.ks.length ck]∧Below w.heap.size w w':=by
 have hmf:=mkf
 obtain ⟨W1,hW1⟩:∃ W1,W1=((w.alloc (.cells #[.int .i64 0,.string ⟨#[]⟩,.int .i64 0,.slice none 0 0,.slice none 0 0] 27)).alloc (.cells #[.int .i64 0,.int .i64 0] 29)).alloc (.cells (psC tp n tc 0 (.slice none 0 0) (.slice none 0 0) (.slice none 0 0) (.slice none 0 0) (.slice none 0 0) (.slice none 0 0)) 63):=⟨_,rfl⟩
 have hB1:Below w.heap.size w W1:=by rw [hW1];exact (((Below.refl _ w).alloc (Nat.le_refl _) _).alloc (by simp) _).alloc (by simp;omega) _
 have hs1:W1.heap.size=w.heap.size+3:=by rw [hW1];simp
 have hR:Hold w.heap.size #[.int .i64 0,.string ⟨#[]⟩,.int .i64 0,.slice none 0 0,.slice none 0 0] 27 W1:=by rw [hW1];exact ((Hold.new w _ 27).alloc _).alloc _
 have hQ:Hold (w.heap.size+1) #[.int .i64 0,.int .i64 0] 29 W1:=by rw [hW1];have:=(Hold.new (w.alloc (.cells #[.int .i64 0,.string ⟨#[]⟩,.int .i64 0,.slice none 0 0,.slice none 0 0] 27)) #[.int .i64 0,.int .i64 0] 29).alloc (.cells (psC tp n tc 0 (.slice none 0 0) (.slice none 0 0) (.slice none 0 0) (.slice none 0 0) (.slice none 0 0) (.slice none 0 0)) 63);simpa using this
 have hBB:Hold (w.heap.size+2) (psC tp n tc 0 (.slice none 0 0) (.slice none 0 0) (.slice none 0 0) (.slice none 0 0) (.slice none 0 0) (.slice none 0 0)) 63 W1:=by rw [hW1];have:=Hold.new ((w.alloc (.cells #[.int .i64 0,.string ⟨#[]⟩,.int .i64 0,.slice none 0 0,.slice none 0 0] 27)).alloc (.cells #[.int .i64 0,.int .i64 0] 29)) (psC tp n tc 0 (.slice none 0 0) (.slice none 0 0) (.slice none 0 0) (.slice none 0 0) (.slice none 0 0) (.slice none 0 0)) 63;simpa using this
 have hP1:=pm_start hBB hn hm (hK.keep (KP.of_below hB1 hP) (fun b hb=>hb) (fun _ _ h=>h)) (fun b hb=>by have:=hP b hb;omega)
 have hwh:=whole_any (nd:=1) (k0:=10) hP1 (by decide) rfl (Nat.le_refl _) (start_bound l 10 (by omega) (.inl rfl))
 have hEX:exprM l=(match exprRun l with | .inl n=>(t0,plM l n,60) | .inr q=>if checkM (q.ex.headD t0) then (q.ex.headD t0,(0,0),0) else (t0,plM l 0,61)):=rfl
 have hrunE:run l { ps0 [] with ru:=[r0 10,r0 0] }=exprRun l:=rfl
 rw [hrunE] at hwh
 have hkeep:∀ w2:World,KP (Imm (colB (w.heap.size+2)) W1) W1 w2→Below w.heap.size w w2∧Hold w.heap.size #[.int .i64 0,.string ⟨#[]⟩,.int .i64 0,.slice none 0 0,.slice none 0 0] 27 w2∧Hold (w.heap.size+1) #[.int .i64 0,.int .i64 0] 29 w2:=fun w2 hk=>by
  have hcl:∀ b,b<w.heap.size+2→Imm (colB (w.heap.size+2)) W1 b:=fun b hb=>⟨by omega,by unfold colB;rw [if_neg (by omega)]⟩
  exact ⟨hB1.trans (hk.below fun b hb=>hcl b (by omega)),(hk.block _ (hcl _ (by omega))).trans hR,(hk.block _ (hcl _ (by omega))).trans hQ⟩
 have HKEEP:=hide hkeep
 have HWH:=hide hwh
 have HEX:=hide hEX
 clear hwh hP1 hrunE hkeep hR hQ hBB hB1 hEX
 subst hW1
 generalize exprM l=E at *
 unfold psC at HWH
 go_enter Tryz.func11,Tryz.ntmps11
 go_wp2_with fail
 refine HWH.out.mono ?_
 intro e w2 hq
 cases hx:exprRun l with
 | inl k=>
  rw [hx] at hq HEX
  obtain ⟨rfl,⟨tp',tc',vr,ve,vs,vf,vd,vp,hB2,hK2⟩,hk2⟩:=hq
  have hEe:E=(t0,plM l k,60):=HEX.out
  have hkl:k≤l.length:=by
   have h:=(run_pos (l:=l) (nd:=1) (ps0 [r0 10,r0 0]) good_expr (Nat.zero_le _)).2
   have h2:run l (ps0 [r0 10,r0 0])=.inl k:=hx
   rw [h2] at h
   exact h
  obtain ⟨b2,r2,q2⟩:=HKEEP.out _ hk2
  have hpl:=place_any (k:=k) hB2 (fun b hb=>hb) rfl hK2 (by omega) (by omega)
  have c1:=hB2.cell 1
  simp only [lGA,lGS,lGZ] at c1
  subst hEe
  have HPL:=hide hpl
  have HB2:=hide b2
  have HR2:=hide r2
  have HQ2:=hide q2
  have hs2:w.heap.size+1<w2.heap.size:=q2.lt
  clear hB2 hK2 hk2 hpl b2 r2 q2 HEX HKEEP HWH
  obtain ⟨pl,hple⟩:∃ pl,pl=plM l k:=⟨_,rfl⟩
  rw [← hple] at HPL
  have HPLE:=hide hple
  clear hple
  go_wp2_with fail
  refine HPL.out.mono ?_
  rintro r w3 ⟨rfl,hb3⟩
  have HR3:=hide (HR2.out.below hb3 HR2.out.lt)
  have HQ3:=hide (HQ2.out.below hb3 HQ2.out.lt)
  have HB3:=hide (HB2.out.trans (hb3.mono HB2.out.size))
  clear hb3
  have a0:=HR3.out.cell 0
  have a1:=HR3.out.cell 1
  have a2:=HR3.out.cell 2
  have a3:=HR3.out.cell 3
  have a4:=HR3.out.cell 4
  have d0:=HQ3.out.cell 0
  have d1:=HQ3.out.cell 1
  have f0:=HR3.out.frozen 0
  have f1:=HR3.out.frozen 1
  have f2:=HR3.out.frozen 2
  have f3:=HR3.out.frozen 3
  have f4:=HR3.out.frozen 4
  have g0:=HQ3.out.frozen 0
  have g1:=HQ3.out.frozen 1
  simp only [lGA,lGS,lGZ] at a0 a1 a2 a3 a4 d0 d1
  go_wp2_with fail
  obtain ⟨q0,q1,q2,q3,q4,q5,q6,qB,qK⟩:=put5_hold (.int .i64 0) (.string ⟨#[]⟩) (.int .i64 0) (.slice none 0 0) (.slice none 0 0) (.int .i64 pl.1) (.int .i64 pl.2) rfl rfl HR3.out HQ3.out HB3.out
  unfold put5 at q0 q1 q2 q3 q4 q5 q6 qB qK
  obtain rfl:=HPLE.out
  exact bodyPost_ret (v:=.tuple #[.agg #[.int .i64 0,.string ⟨#[]⟩,.int .i64 0,.slice none 0 0,.slice none 0 0],.agg #[.int .i64 (plM l k).1,.int .i64 (plM l k).2],.int .i64 60]) (by simp only [results,Tryz.results11];go_simp) rfl ⟨none,0,none,0,rfl,t0_in _ _,qB⟩
 | inr q=>
  rw [hx] at hq HEX
  obtain ⟨e,hrun,rfl⟩:=expr_inv hx
  obtain ⟨rfl,c',⟨tp',tc',vr,ve,vs,vf,vd,vp,hS⟩,hi,hk2⟩:=hq
  have hEe:E=(if checkM e then (e,(0,0),0) else (t0,plM l 0,61)):=HEX.out
  have hms:=run_mass (l:=l) (nd:=1) (ps0 [r0 10,r0 0]) good_expr (Nat.zero_le _) _ hx
  have hme:mass e≤900000:=by
   unfold massP at hms
   simp only [List.map_cons,List.map_nil,List.sum_cons,List.sum_nil] at hms
   omega
  obtain ⟨qa,cap,rfl,hcap,_,hnil,hsome⟩:=hS.exs.slice
  cases qa with
  | none=>exact absurd (hnil rfl).2 (by simp)
  | some a=>
  obtain ⟨g,rfl,hgl,hcg⟩:=hsome a rfl
  obtain ⟨ds,e1,e2,hE⟩:=hS.exs.cell (i:=0) (t:=e) rfl
  have hE':=hE
  rw [TrIn_iff] at hE'
  obtain ⟨pn,cn,pk,ck,rfl,_⟩:=hE'
  obtain ⟨b2,r2,q2⟩:=HKEEP.out _ hk2
  have hck:=check_tree (P:=ImB (w.heap.size+2) c' w2) (fun b hb=>hb.1.1) hE (mass_D hme)
  have hpl:=place_any (k:=0) hS.hold (fun b hb=>hb.1) rfl hS.toks (by omega) (by omega)
  have m0:=e2 0 _ rfl
  have m1:=e2 1 _ rfl
  have m2:=e2 2 _ rfl
  have m3:=e2 3 _ rfl
  have m4:=e2 4 _ rfl
  simp only [Nat.zero_mul,Nat.zero_add,Nat.add_zero] at m0 m1 m2 m3 m4
  have c3:=hS.hold.cell 3
  simp only [lGA,lGS,lGZ,List.length_singleton] at c3
  have HCK:=hide hck
  have HS:=hide hS
  have HB2:=hide b2
  have HR2:=hide r2
  have HQ2:=hide q2
  have HE:=hide hE
  have HEE:=hide hEe
  have hs2:w.heap.size+1<w2.heap.size:=q2.lt
  have hi1:(0:Int)<1:=by omega
  unfold cs5 at HCK
  clear hS hk2 hpl b2 r2 q2 HEX HKEEP HWH hck hE hEe hms hme hi e2 hnil hsome hx hrun
  go_wp2_with fail
  refine HCK.out.mono ?_
  rintro r w3 ⟨rfl,hb3⟩
  have HR3:=hide (HR2.out.below hb3 HR2.out.lt)
  have HQ3:=hide (HQ2.out.below hb3 HQ2.out.lt)
  have HB3:=hide (HB2.out.trans (hb3.mono HB2.out.size))
  have HS3:=hide (HS.out.below hb3 (c':=c') fun _ _=>rfl)
  have HE3:=hide (TrIn.keep (P:=fun b=>b<w2.heap.size∧w.heap.size+2<b) (KP.of_below hb3 fun b hb=>hb.1) (fun b hb=>hb) _ _ (TrIn.keep (KP.refl _ w2) (fun b hb=>⟨hb.1.1,hb.2⟩) _ _ HE.out))
  have k0:=(hb3.cell (p:=⟨g,0,none⟩) hgl).trans m0
  have k1:=(hb3.cell (p:=⟨g,1,none⟩) hgl).trans m1
  have k2:=(hb3.cell (p:=⟨g,2,none⟩) hgl).trans m2
  have k3:=(hb3.cell (p:=⟨g,3,none⟩) hgl).trans m3
  have k4:=(hb3.cell (p:=⟨g,4,none⟩) hgl).trans m4
  have c3':=HS3.out.hold.cell 3
  simp only [lGA,lGS,lGZ,List.length_singleton] at c3'
  have HSZ:=hide hb3.size
  clear hb3 m0 m1 m2 m3 m4 c3
  cases hc:checkM e
  ·rw [hc] at HEE
   obtain rfl:E=(t0,plM l 0,61):=HEE.out
   have hpl:=place_any (k:=0) HS3.out.hold (fun b hb=>hb.1) rfl HS3.out.toks (by omega) (by omega)
   have HPL:=hide hpl
   clear hpl hc k0 k1 k2 k3 k4
   obtain ⟨pl,hple⟩:∃ pl,pl=plM l 0:=⟨_,rfl⟩
   rw [← hple] at HPL
   have HPLE:=hide hple
   clear hple
   go_wp2_with fail
   refine HPL.out.mono ?_
   rintro r w4 ⟨rfl,hb4⟩
   have HR4:=hide (HR3.out.below hb4 HR3.out.lt)
   have HQ4:=hide (HQ3.out.below hb4 HQ3.out.lt)
   have HB4:=hide (HB3.out.trans (hb4.mono HB3.out.size))
   clear hb4
   have a0:=HR4.out.cell 0
   have a1:=HR4.out.cell 1
   have a2:=HR4.out.cell 2
   have a3:=HR4.out.cell 3
   have a4:=HR4.out.cell 4
   have d0:=HQ4.out.cell 0
   have d1:=HQ4.out.cell 1
   have f0:=HR4.out.frozen 0
   have f1:=HR4.out.frozen 1
   have f2:=HR4.out.frozen 2
   have f3:=HR4.out.frozen 3
   have f4:=HR4.out.frozen 4
   have g0:=HQ4.out.frozen 0
   have g1:=HQ4.out.frozen 1
   simp only [lGA,lGS,lGZ] at a0 a1 a2 a3 a4 d0 d1
   go_wp2_with fail
   obtain ⟨q0,q1,q2,q3,q4,q5,q6,qB,qK⟩:=put5_hold (.int .i64 0) (.string ⟨#[]⟩) (.int .i64 0) (.slice none 0 0) (.slice none 0 0) (.int .i64 pl.1) (.int .i64 pl.2) rfl rfl HR4.out HQ4.out HB4.out
   unfold put5 at q0 q1 q2 q3 q4 q5 q6 qB qK
   obtain rfl:=HPLE.out
   exact bodyPost_ret (v:=.tuple #[.agg #[.int .i64 0,.string ⟨#[]⟩,.int .i64 0,.slice none 0 0,.slice none 0 0],.agg #[.int .i64 (plM l 0).1,.int .i64 (plM l 0).2],.int .i64 61]) (by simp only [results,Tryz.results11];go_simp) rfl ⟨none,0,none,0,rfl,t0_in _ _,qB⟩
  ·rw [hc] at HEE
   obtain rfl:E=(e,(0,0),0):=HEE.out
   clear hc
   have a0:=HR3.out.cell 0
   have a1:=HR3.out.cell 1
   have a2:=HR3.out.cell 2
   have a3:=HR3.out.cell 3
   have a4:=HR3.out.cell 4
   have d0:=HQ3.out.cell 0
   have d1:=HQ3.out.cell 1
   have f0:=HR3.out.frozen 0
   have f1:=HR3.out.frozen 1
   have f2:=HR3.out.frozen 2
   have f3:=HR3.out.frozen 3
   have f4:=HR3.out.frozen 4
   have g0:=HQ3.out.frozen 0
   have g1:=HQ3.out.frozen 1
   simp only [lGA,lGS,lGZ] at a0 a1 a2 a3 a4 d0 d1
   go_wp2_with fail
   obtain ⟨q0,q1,q2,q3,q4,q5,q6,qB,qK⟩:=put5_hold (.int .i64 e.kd) (.string (S e.nm)) (.int .i64 e.nu) (.slice pn e.ns.length cn) (.slice pk e.ks.length ck) (.int .i64 0) (.int .i64 0) rfl rfl HR3.out HQ3.out HB3.out
   have hin:=TrIn.keep (Q:=fun b=>b<(put5 w3 w.heap.size (.int .i64 e.kd) (.string (S e.nm)) (.int .i64 e.nu) (.slice pn e.ns.length cn) (.slice pk e.ks.length ck) (.int .i64 0) (.int .i64 0)).heap.size) (qK.mono fun b (hb:b<w2.heap.size∧w.heap.size+2<b)=>⟨by omega,by omega⟩) (fun b hb=>Nat.lt_of_lt_of_le hb.1 (Nat.le_trans HSZ.out qK.size)) _ _ HE3.out
   unfold put5 at q0 q1 q2 q3 q4 q5 q6 qB qK hin
   exact bodyPost_ret (v:=.tuple #[.agg #[.int .i64 e.kd,.string (S e.nm),.int .i64 e.nu,.slice pn e.ns.length cn,.slice pk e.ks.length ck],.agg #[.int .i64 0,.int .i64 0],.int .i64 0]) (by simp only [results,Tryz.results11];go_simp) rfl ⟨pn,cn,pk,ck,rfl,hin,qB⟩
def headsM (s:Sg):Bool:=if cn s.nm then true else if nm s.nm then decide (s.ar.length=0) else (s.nm == [45,62]) && decide (s.ar.length=2)
theorem heads_any {s:Sg} {pk:Option Addr} {ck:Nat} {w:World} (hn:s.nm.length≤281474976710656) (ha:s.ar.length≤9223372036854775807) :
 Calls Tryz.prog 192 #[.agg #[.string (S s.nm),.slice pk s.ar.length ck]] w fun r w'=>r=.returned (.bool (headsM s))∧Below w.heap.size w w':=by
 have HC:=hide fun W=>con_any s.nm W hn
 have HN:=hide fun W=>name_any s.nm W hn
 have hB:Below w.heap.size w (w.alloc (.cells #[.string (S s.nm),.slice pk s.ar.length ck] 175)):=(Below.refl _ w).alloc (Nat.le_refl _) _
 have HB:=hide hB
 unfold headsM
 obtain ⟨snm,ar⟩:=s
 simp only at *
 generalize ar.length=n at *
 have hq:(S snm).toList=snm:=S_list snm
 have e0:Hid (((n:Int) == 0)=decide (n=0)):=by show _=_;rw [Bool.eq_iff_iff];simp
 have e2:Hid (((n:Int) == 2)=decide (n=2)):=by show _=_;rw [Bool.eq_iff_iff];simp;omega
 clear hB
 cases hc:cn snm
 ·rw [hc] at HC
  cases hm:nm snm
  ·rw [hm] at HN
   rw [if_neg (by simp),if_neg (by simp)]
   have HQ:=hide hq
   cases ht:(snm == [45,62])
   ·have h2:((S snm).toList == [45,62])=false:=by rw [hq];exact ht
    clear ht hq
    generalize S snm=sb at *
    go_enter Tryz.func192,Tryz.ntmps192
    go_wp2_with fail
    refine (HC.out _).mono ?_
    rintro r w' ⟨rfl,rfl⟩
    go_wp2_with fail
    refine (HN.out _).mono ?_
    rintro r w' ⟨rfl,rfl⟩
    go_wp2_with fail
    go_ret
    exact ⟨rfl,HB.out⟩
   ·have h2:((S snm).toList == [45,62])=true:=by rw [hq];exact ht
    clear ht hq
    generalize S snm=sb at *
    go_enter Tryz.func192,Tryz.ntmps192
    go_wp2_with fail
    refine (HC.out _).mono ?_
    rintro r w' ⟨rfl,rfl⟩
    go_wp2_with fail
    refine (HN.out _).mono ?_
    rintro r w' ⟨rfl,rfl⟩
    go_wp2_with fail
    go_ret
    refine ⟨?_,HB.out⟩
    show Ending.returned (Value.bool _)=Ending.returned (Value.bool _)
    refine congrArg (fun b=>Ending.returned (Value.bool b)) ?_
    rw [Bool.true_and]
    exact e2.out
  ·rw [hm] at HN
   rw [if_neg (by simp),if_pos rfl]
   go_enter Tryz.func192,Tryz.ntmps192
   go_wp2_with fail
   refine (HC.out _).mono ?_
   rintro r w' ⟨rfl,rfl⟩
   go_wp2_with fail
   refine (HN.out _).mono ?_
   rintro r w' ⟨rfl,rfl⟩
   go_wp2_with fail
   go_ret
   refine ⟨?_,HB.out⟩
   show Ending.returned (Value.bool _)=Ending.returned (Value.bool _)
   refine congrArg (fun b=>Ending.returned (Value.bool b)) ?_
   rw [Bool.eq_iff_iff]
   simp
 ·rw [hc] at HC
  rw [if_pos rfl]
  go_enter Tryz.func192,Tryz.ntmps192
  go_wp2_with fail
  refine (HC.out _).mono ?_
  rintro r w' ⟨rfl,rfl⟩
  go_wp2_with fail
  go_ret
  exact ⟨rfl,HB.out⟩
theorem same_ne {p q:Option Addr} {n m c d:Nat} {w:World} (h:n≠m) (hn:n≤9223372036854775807) (hm:m≤9223372036854775807):Calls Tryz.prog 191 #[.slice p n c,.slice q m d] w fun r w'=>r=.returned (.bool false)∧∃ k,w'=w.drewN k:=by
 have h1:¬ (n:Int)=m:=by omega
 have h2:((n:Int) == m)=false:=by simp;omega
 go_enter Tryz.func191,Tryz.ntmps191
 go_wp2_with fail
 go_quiet (fail)
 go_wp2_with fail
 go_ret
 exact ⟨rfl,_,rfl⟩
theorem same_nil {p q:Option Addr} {c d:Nat} {w:World}:Calls Tryz.prog 191 #[.slice p 0 c,.slice q 0 d] w fun r w'=>r=.returned (.bool true)∧∃ k,w'=w.drewN k:=by
 go_enter Tryz.func191,Tryz.ntmps191
 go_wp2_with fail
 go_quiet (fail)
 go_wp2_with fail
 go_ret
 exact ⟨rfl,_,rfl⟩
theorem und117:Tryz.prog.underlying 228=some (.pointer 175):=by kernel_rfl
theorem inf46:∃ j,Tryz.prog.info? 175=some j∧j.size≠0:=by
 have h:((Tryz.prog.info? 175).map fun j=>decide (j.size≠0))=some true:=by kernel_rfl
 obtain ⟨j,hj,h2⟩:=Option.map_eq_some_iff.1 h
 exact ⟨j,hj,by simpa using h2⟩
theorem same_at {b o b' o' n c d:Nat} {w:World} {ca cb:Array Value} {ta tb:TypeId} (ha:w.heap[b]?=some (.cells ca ta (0,0))) (hb:w.heap[b']?=some (.cells cb tb (0,0))) (hn:n≤9223372036854775807) (h0:0<n):Calls Tryz.prog 191 #[.slice (some ⟨b,o,none⟩) n c,.slice (some ⟨b',o',none⟩) n d] w fun r w'=>r=.returned (.bool (decide ((⟨b,o,none⟩:Addr)=⟨b',o',none⟩)))∧∃ k,w'=w.drewN k:=by
 have h1:¬ (n:Int)=0:=by omega
 have h2:(0:Int)<n:=by omega
 have h3:((n:Int) == 0)=false:=by simp;omega
 obtain ⟨j,hj,hjs⟩:=inf46
 have he:∀ k,(binOp .eql 228 (.pointer (some ⟨b,o,none⟩)) (.pointer (some ⟨b',o',none⟩))).run Tryz.prog (w.drewN k)=.ok (.bool (decide ((⟨b,o,none⟩:Addr)=⟨b',o',none⟩))) (w.drewN k):=by
  intro k
  by_cases hab:(⟨b,o,none⟩:Addr)=⟨b',o',none⟩
  ·rw [← hab,run_eql_ptr_same _ _ und117 hj];simp
  ·rw [run_eql_ptr_other (ca:=ca) (cb:=cb) (ta:=ta) (tb:=tb) (w.drewN k) und117 hj hjs hab (by simpa using ha) (by simpa using hb)];simp [hab]
 clear hj hjs
 generalize decide ((⟨b,o,none⟩:Addr)=⟨b',o',none⟩)=r at *
 clear ha hb
 go_enter Tryz.func191,Tryz.ntmps191
 go_wp2_with fail
 go_quiet (fail)
 go_wp2_with fail
 go_ret
 exact ⟨rfl,_,rfl⟩
end Go.Proofs.YtcnnlecjdkfdjaaGreatDoor
