/- DeclR Whole Place Sound: the texts of these names, of which the claim is made. -/
import Derived.Test.YtcnnlecjdkfdjaaGreatDoorDataR
import Derived.Test.YtcnnlecjdkfdjaaGreatDoorRun
set_option linter.unusedVariables false
set_option linter.unusedSimpArgs false
set_option maxRecDepth 100000
set_option maxHeartbeats 8000000
namespace Go.Proofs.YtcnnlecjdkfdjaaGreatDoor
open Go.RowKit
theorem decl_rule {c:Nat→Nat} {B:Nat} {l:List Tk} {p:Ps} {w:World} (hx:p.ex.length≤1000000000) (hP:PM c B l p w) (hn:p.ru.length≤900000000) :
 Calls Tryz.prog 139 #[.pointer (some ⟨B,0,none⟩)] w (RQ c B l w (declR l p)):=by
 have HP0:=hide (PW.start hP)
 obtain ⟨X,HX0⟩:∃ X,Hid (X=declR l p):=⟨_,rfl⟩
 rw [← HX0.out]
 clear hP
 go_enter Tryz.func139,Tryz.ntmps139
 go_wp2_with fail
 refine (isKeyX HP0.out [sData] (n:=1) (cap:=1) rfl (by decide)).mono ?_
 rintro r w1 ⟨hr,hp,hf⟩
 have HP1:=hide hp
 clear hp hf
 have hb0:([sData].any fun s=>isK l p.tk s)=isK l p.tk sData:=by simp
 rw [hb0] at hr
 clear hb0
 cases hb:isK l p.tk sData
 ·rw [hb] at hr
  subst hr
  have HX2:=hide (HX0.out.trans (if_neg (by simp [hb])))
  clear hb
  go_wp2_with fail
  refine (callW HP1.out (fun c' hp'=>def_rule hx hp' hn)).mono ?_
  intro r w3 hq
  rw [← HX2.out] at hq
  have HQ:=hide hq
  clear hq
  cases X with
  | inl n=>
   obtain ⟨rfl,h⟩:=HQ.out
   unfold stuckV at *
   go_wp2_with fail
   exact ⟨rfl,HQ.out⟩
  | inr q=>
   obtain ⟨rfl,h⟩:=HQ.out
   go_wp2_with fail
   go_end0
   exact HQ.out
 ·rw [hb] at hr
  subst hr
  have HX2:=hide (HX0.out.trans (if_pos hb))
  clear hb
  go_wp2_with fail
  refine (callW HP1.out (fun c' hp'=>data_rule hp' (Nat.le_trans hn (by decide)))).mono ?_
  intro r w3 hq
  rw [← HX2.out] at hq
  have HQ:=hide hq
  clear hq
  cases X with
  | inl n=>
   obtain ⟨rfl,h⟩:=HQ.out
   unfold stuckV at *
   go_wp2_with fail
   exact ⟨rfl,HQ.out⟩
  | inr q=>
   obtain ⟨rfl,h⟩:=HQ.out
   go_wp2_with fail
   go_end0
   exact HQ.out
def WQ (c:Nat→Nat) (B:Nat) (l:List Tk) (w:World) (x:Rs) (e:Ending) (w':World):Prop:=match x with
 | .inl n=>e=.returned (.bool false)∧(∃ tp tc vr ve vs vf vd vp,Hold B (psC tp l.length tc n vr ve vs vf vd vp) 63 w'∧KM (fun b=>b<w'.heap.size) w' tp l)∧KP (Imm c w) w w'
 | .inr q=>e=.returned (.bool true)∧∃ c',PM c' B l q w'∧(∀ b,Imm c w b→Imm c' w' b)∧KP (Imm c w) w w'
theorem PSt.pop {c:Nat→Nat} {B:Nat} {l:List Tk} {p:Ps} {tp:Option Addr} {tc:Nat} {vr ve vs vf vd vp:Value} {w:World} {r:Ru} {q:List Ru} (h:PSt c B l p tp tc vr ve vs vf vd vp w) (hr:p.ru=r :: q) :
 ∃ g cap v,vr=.slice (some ⟨g,0,none⟩) (q.length+1) cap∧q.length+1≤cap∧w.cell? ⟨g,q.length,none⟩=some v∧RuV B c w q.length v r∧PM c B l { p with ru:=q } (w.setCell ⟨B,2,none⟩ (.slice (some ⟨g,0,none⟩) q.length cap))∧RuV B c (w.setCell ⟨B,2,none⟩ (.slice (some ⟨g,0,none⟩) q.length cap)) q.length v r∧KP (fun b=>b≠B) w (w.setCell ⟨B,2,none⟩ (.slice (some ⟨g,0,none⟩) q.length cap)):=by
 have hrul:=h.rul
 rw [hr,List.reverse_cons] at hrul
 obtain ⟨qa,cap,rfl,hcap,_,hnil,hsome⟩:=hrul.slice
 rw [List.length_append,List.length_reverse,List.length_singleton] at hcap
 cases qa with
 | none=>exact absurd (hnil rfl).2 (by simp)
 | some a=>
  obtain ⟨g,rfl,hgl,hcg⟩:=hsome a rfl
  obtain ⟨ds,d1,d2,v,rfl,hv⟩:=hrul.cell (i:=q.length) (t:=r) (by simp)
  have hkp:KP (fun b=>b≠B) w (w.setCell ⟨B,2,none⟩ (.slice (some ⟨g,0,none⟩) q.length cap)):=KP.setCell _ _ _ _ (fun h=>h rfl)
  have st:Step c c (fun k=>k≠1) w (w.setCell ⟨B,2,none⟩ (.slice (some ⟨g,0,none⟩) q.length cap)):=⟨hkp.mono fun b hb e=>hb.2 (by rw [e];exact h.colB),fun _ _ _=>rfl⟩
  refine ⟨g,cap,v,by simp,hcap,by have:=d2 0 v rfl;simpa using this,hv,⟨tp,tc,_,ve,vs,vf,vd,vp,h.hold.set 2 _,h.colB,h.ktoks st (by decide),h.len,h.at',?_,h.kexs st (by decide) (by decide),h.ksgs st (by decide) (by decide),h.kfms st (by decide) (by decide),h.kdts st (by decide) (by decide),h.kdfs st (by decide) (by decide)⟩,hv.step st (by decide) (by show 10+q.length≠1;omega),hkp⟩
  have hcut:=hrul.cut q.length (by simp)
  rw [List.take_append_of_le_length (by simp),List.take_of_length_le (by simp)] at hcut
  exact hcut.step st (by decide) fun i r ds hr ⟨v,h1,h2⟩=>⟨v,h1,h2.step st (by decide) (by show 10+i≠1;omega)⟩
theorem whole_any {c:Nat→Nat} {B:Nat} {l:List Tk} {p:Ps} {w:World} {nd k0:Nat} (hP:PM c B l p w) (hk0:k0≤21∧k0≠13) (hru:p.ru=[]) (hg:Good nd [r0 k0,r0 0] p.ex.length p.sg.length) (hb:tot p+wtP l { p with ru:=[r0 k0,r0 0] }≤900000000) :
 Calls Tryz.prog 25 #[.pointer (some ⟨B,0,none⟩),mth B k0] w (WQ c B l w (run l { p with ru:=[r0 k0,r0 0] })):=by
 unfold run
 have hmf:=mkf
 have HT:=hide (thenX (m:=2) (cap:=2) (PW.start hP) [r0 k0,r0 0] (L:=[.func (.func (fnR k0)) #[pB B] #[],.func (.func 56) #[pB B] #[]]) 0 0 (by rw [hru];simp) rfl (by decide) (Nat.lt_of_le_of_lt (Nat.zero_le _) (PW.start hP).ltB) ⟨by
  show RuV B _ _ _ _ ⟨k0,[],0,t0,0,[]⟩
  unfold RuV
  simp only
  split <;> first | omega | exact ⟨hk0.1,hk0.2,rfl⟩,⟨by decide,by decide,rfl⟩,trivial⟩)
 rw [hru,List.append_nil] at HT
 obtain ⟨X,HX⟩:∃ X,Hid (X=runF l (wtP l { p with ru:=[r0 k0,r0 0] }) { p with ru:=[r0 k0,r0 0] }):=⟨_,rfl⟩
 rw [← HX.out]
 unfold mth
 clear hP
 go_enter_defers Tryz.func25,Tryz.ntmps25
 go_wp2_with fail
 refine HT.out.mono ?_
 rintro r w1 ⟨rfl,hq⟩
 have HQ:=hide hq
 clear hq HT
 go_wp2_with fail
 go_loopg [5,6] (wtP l { p with ru:=[r0 k0,r0 0] }) (fun g v5 v6 wr=>∃ (p':Ps) (c':Nat→Nat) (n:Nat),g=wtP l p'∧wtP l p'≤n∧Hid (X=runF l n p')∧PM c' B l p' wr∧GoodP nd p'∧tot p'+wtP l p'≤900000000∧(∀ b,Imm c w b→Imm c' wr b)∧KP (Imm c w) w wr)
 case atStart=>
  obtain ⟨c1,h1,h2,h3⟩:=HQ.out
  exact ⟨_,c1,_,rfl,Nat.le_refl _,HX.out,h1,hg,hb,h2,h3⟩
 case round=>
  obtain ⟨p',c',n,rfl,hn,hX,hP',hg',hb',hi',hk'⟩:=hrel
  obtain ⟨tp,tc,vr,ve,vs,vf,vd,vp,hS⟩:=hP'
  cases hru':p'.ru with
  | nil=>
   have c2:=hS.hold.cell 2
   obtain ⟨qa,cap,hvr⟩:=hS.rslice
   rw [hru'] at hvr
   subst hvr
   simp only [lGA,lGS,lGZ,List.length_nil] at c2
   have HS:=hide hS
   have HXX:Hid (X=.inr p'):=by
    show X=.inr p'
    rw [hX.out]
    cases n with
    | zero=>rfl
    | succ n=>unfold runF;rw [hru']
   have HI:=hide hi'
   have HKP:=hide hk'
   clear hS hX hg' hb' hn hi' hk'
   go_wp2_with fail
   refine leaves_cons (f:=54) (args:=#[]) (by simp) (by simp [go_sem]) ?_
   refine (catch_idle _).mono ?_
   rintro e u' w'' ⟨rfl,rfl,rfl⟩
   refine ⟨.bool true,by simp [results,Tryz.f25,go_sem],?_⟩
   rw [HXX.out]
   exact ⟨rfl,c',⟨tp,tc,_,ve,vs,vf,vd,vp,HS.out⟩,HI.out,HKP.out⟩
  | cons r q=>
   obtain ⟨gr,cap,v,rfl,hcap,hcell,_,hPM,hRV,hkp⟩:=hS.pop hru'
   have hBd:Bd { p' with ru:=q }:=by
    have h1:∀ rs:List Ru,rs.length≤(rs.map wtR).sum:=fun rs=>by
     induction rs with
     | nil=>simp
     | cons a b ih=>
      have:1≤wtR a:=by unfold wtR;split <;> omega
      simp only [List.length_cons,List.map_cons,List.sum_cons]
      omega
    have h2:=h1 q
    unfold wtP tot at hb'
    rw [hru'] at hb'
    simp only [List.map_cons,List.sum_cons] at hb'
    exact ⟨by show q.length≤_;omega,by show p'.ex.length≤_;omega,by show p'.sg.length≤_;omega,by show p'.fm.length≤_;omega,by show p'.ds.length≤_;omega,by show p'.fs.length≤_;omega,by show q.length≤_;omega⟩
   have hgd:Good nd (r :: q) p'.ex.length p'.sg.length:=by unfold GoodP at hg';rw [hru'] at hg';exact hg'
   obtain ⟨K,first,cp,rfl,heg,hcall⟩:=rule_call (p:={ p' with ru:=q }) (fun c p w h hb=>decl_rule hb.ex h hb.r9) hPM hRV hgd hBd
   have HCALL:=hide hcall
   have c2:=hS.hold.cell 2
   have z2:=hS.hold.frozen 2
   simp only [lGA,lGS,lGZ] at c2
   have hql:q.length≤1000000000:=hBd.ru
   have i1:(0:Int)<(q.length:Int)+1:=by omega
   have i2:(q.length:Int)<(q.length:Int)+1:=by omega
   have i3:(0:Int)≤(q.length:Int):=by omega
   have i4:(q.length:Int)≤(cap:Int):=by omega
   have i5:q.length≤cap:=by omega
   have HS:=hide hS
   have HB:=hide hb'
   have HG:=hide hgd
   have HI:=hide hi'
   have HKP:=hide hk'
   have HK2:=hide hkp
   have hnz:n≠0:=by
    have:1≤wtR r:=by unfold wtR;split <;> omega
    unfold wtP at hn
    rw [hru'] at hn
    simp only [List.map_cons,List.sum_cons] at hn
    omega
   have HN:=hide hn
   have HRU:=hide hru'
   clear hS hb' hgd hi' hk' hkp hn hg' hBd hPM hRV hcall hru'
   go_wp2_with fail
   refine HCALL.out.mono ?_
   intro e w2 hq
   have hX':X=(match ruleR l r { p' with ru:=q } with | .inl k=>.inl k | .inr p2=>runF l (n - 1) p2):=by
    rw [hX.out]
    obtain ⟨m,rfl⟩:∃ m,n=m+1:=⟨n - 1,by omega⟩
    exact runF_cons HRU.out
   have hcB:=HS.out.colB
   have himm:∀ b,Imm c w b→Imm c' (wr.setCell ⟨B,2,none⟩ (.slice (some ⟨gr,0,none⟩) q.length cap)) b:=fun b hb=>⟨by have:=(HI.out b hb).1;simpa using this,(HI.out b hb).2⟩
   have hkpw:KP (Imm c w) w (wr.setCell ⟨B,2,none⟩ (.slice (some ⟨gr,0,none⟩) q.length cap)):=HKP.out.trans (HK2.out.mono fun b hb e=>by have:=(HI.out b hb).2;rw [e,hcB] at this;cases this)
   rcases hrr:ruleR l r { p' with ru:=q } with k | p2
   ·rw [hrr] at hq hX'
    obtain ⟨rfl,h1,h2⟩:=hq
    have HF:Hid (WQ c B l w X (.returned (.bool false)) w2):=by
     show WQ c B l w X (.returned (.bool false)) w2
     rw [hX']
     exact ⟨rfl,h1,hkpw.trans (h2.mono himm)⟩
    clear h1 h2 hX' hrr himm hkpw
    unfold stuckV
    go_wp2_with fail
    refine leaves_cons (f:=54) (args:=#[]) (by simp) (by simp [go_sem]) ?_
    refine (catch_stuck _).mono ?_
    rintro e u' w'' ⟨rfl,rfl,rfl⟩
    have hF:=HF.out
    simp [Leaves,settle,results,Tryz.results25,Tryz.f25,go_sem]
    exact hF
   ·rw [hrr] at hq hX'
    obtain ⟨rfl,c2',h1,h2,h3⟩:=hq
    have hgood:=rule_good (p:={ p' with ru:=q }) HG.out hrr
    have hless:=step_less (l:=l) (p:=p') (q:=p2) (by rw [HRU.out];simp) (by unfold stepP;rw [HRU.out];exact hrr)
    have HFIN:Hid (∃ (p'':Ps) (c'':Nat→Nat) (n':Nat),wtP l p2=wtP l p''∧wtP l p''≤n'∧Hid (X=runF l n' p'')∧PM c'' B l p'' w2∧GoodP nd p''∧tot p''+wtP l p''≤900000000∧(∀ b,Imm c w b→Imm c'' w2 b)∧KP (Imm c w) w w2):=
     ⟨p2,c2',n - 1,rfl,by have:=HN.out;omega,hX',h1,hgood.1,by have h4:=hgood.2;have h5:=HB.out;have h6:tot { p' with ru:=q }=tot p':=rfl;omega,fun b hb=>h2 b (himm b hb),hkpw.trans (h3.mono himm)⟩
    have hl2:wtP l p2<wtP l p':=hless
    clear hX' h1 h2 h3 hgood hless himm hkpw hrr
    go_wp2_with fail
    go_roundg (wtP l p2)
    case measure=>exact hl2
    case rel=>exact HFIN.out
def plM (l:List Tk) (n:Nat):Int × Int:=if l.length=0 then (0,0) else ((tkAt l (min n (l.length - 1))).ln,(tkAt l (min n (l.length - 1))).co)
theorem place_any {P:Nat→Prop} {w:World} {B tn tc tk k:Nat} {tp:Option Addr} {vr ve vs vf vd vp:Value} {l:List Tk} (hB:Hold B (psC tp tn tc tk vr ve vs vf vd vp) 63 w) (hP:∀ b,P b→b<w.heap.size) (hn:l.length=tn) (hK:KM P w tp l) (hm:tn≤1000000) (hk:k≤1000000) :
 Calls Tryz.prog 27 #[.pointer (some ⟨B,0,none⟩),.int .i64 k] w fun r w'=>r=.returned (.agg #[.int .i64 (plM l k).1,.int .i64 (plM l k).2])∧Below w.heap.size w w':=by
 have HB0:Hid (Below w.heap.size w (w.alloc (.cells #[.int .i64 0,.int .i64 0] 29))):=(Below.refl _ w).alloc (Nat.le_refl _) _
 have c0:=(hB.alloc (.cells #[.int .i64 0,.int .i64 0] 29)).cell 0
 simp only [lGA,lGS,lGZ] at c0
 by_cases h0:tn=0
 ·subst h0
  have HR:Hid (plM l k=(0,0)):=by show plM l k=_;unfold plM;rw [if_pos hn]
  clear hK hn
  go_enter Tryz.func27,Tryz.ntmps27
  go_wp2_with fail
  refine bodyPost_ret (v:=.agg #[.int .i64 0,.int .i64 0]) (by simp [results,Tryz.results27,go_sem]) rfl ⟨by rw [HR.out],HB0.out⟩
 ·have h1:((tn:Int) == 0)=false:=by simp;omega
  obtain ⟨i,hi⟩:∃ i,i=min k (tn - 1):=⟨_,rfl⟩
  have hil:i<l.length:=by omega
  have HR:Hid (plM l k=(l[i].ln,l[i].co)):=by show plM l k=_;unfold plM;rw [if_neg (by omega),hn,← hi,tkAt];simp [List.getD,List.getElem?_eq_getElem hil]
  rcases hK with he | ⟨b,o,rfl,hPb,hma⟩
  ·rw [he] at hil;simp at hil
  obtain ⟨ds,_,h2,rfl,hz⟩:=hma i l[i] (by simp)
  have hbl:=hP b hPb
  have a0:=(HB0.out.cell (p:=⟨b,o+i * 5,none⟩) hbl).trans (h2 0 _ rfl)
  have a1:=(HB0.out.cell (p:=⟨b,o+i * 5+1,none⟩) hbl).trans (h2 1 _ rfl)
  have a2:=(HB0.out.cell (p:=⟨b,o+i * 5+2,none⟩) hbl).trans (h2 2 _ rfl)
  have a3:=(HB0.out.cell (p:=⟨b,o+i * 5+3,none⟩) hbl).trans (h2 3 _ rfl)
  have a4:=(HB0.out.cell (p:=⟨b,o+i * 5+4,none⟩) hbl).trans (h2 4 _ rfl)
  generalize l[i]=t at *
  have hmin:min (k:Int) ((tn:Int) - 1)=(i:Int):=by omega
  have hlt:(i:Int)<tn:=by omega
  clear h2 hma hn hi hz hil
  have hwr:IntKind.i64.wrap ((tn:Int) - 1)=(tn:Int) - 1:=wrap_i (by omega) (by omega)
  have hmin2:(if (tn:Int) - 1<(k:Int) then (tn:Int) - 1 else (k:Int))=(i:Int):=by split <;> omega
  have hz0:(0:Int)≤(i:Int):=by omega
  have hzn:((i:Int)).toNat=i:=by omega
  clear hmin
  go_enter Tryz.func27,Tryz.ntmps27
  go_wp2_with fail
  refine region_J 16 (N:=15) (S:=(fun W':World=>W'.cell? ⟨B,0,none⟩=some (.slice (some ⟨b,o,none⟩) tn tc)∧W'.cell? ⟨b,o+i * 5,none⟩=some (.int .i64 t.kd)∧W'.cell? ⟨b,o+i * 5+1,none⟩=some (.string (S t.tx))∧W'.cell? ⟨b,o+i * 5+2,none⟩=some (.int .i64 t.nu)∧W'.cell? ⟨b,o+i * 5+3,none⟩=some (.int .i64 t.ln)∧W'.cell? ⟨b,o+i * 5+4,none⟩=some (.int .i64 t.co))) (by kernel_rfl) (by kernel_rfl) ?_
  have hS:(fun W':World=>W'.cell? ⟨B,0,none⟩=some (.slice (some ⟨b,o,none⟩) tn tc)∧W'.cell? ⟨b,o+i * 5,none⟩=some (.int .i64 t.kd)∧W'.cell? ⟨b,o+i * 5+1,none⟩=some (.string (S t.tx))∧W'.cell? ⟨b,o+i * 5+2,none⟩=some (.int .i64 t.nu)∧W'.cell? ⟨b,o+i * 5+3,none⟩=some (.int .i64 t.ln)∧W'.cell? ⟨b,o+i * 5+4,none⟩=some (.int .i64 t.co)) (w.alloc (.cells #[.int .i64 0,.int .i64 0] 29)).drew:=⟨c0,a0,a1,a2,a3,a4⟩
  refine take_E 0 13 (.pointer (some ⟨B,0,none⟩)) rfl (Or.inl ⟨by rfl,fun W' hW=>by obtain ⟨s0,s1,s2,s3,s4,s5⟩:=hW;first | (go_simp;done) | (go_simp;exact hwr) | (go_simp;rw [hmin2];done) | (go_simp;rw [if_pos hz0];done) | (go_simp;rw [if_pos ⟨hz0,hlt⟩,hzn];done) | (go_simp;rw [if_pos hz0,hzn];done) | (go_simp;rw [hzn];done)⟩) hS ?_
  simp only [Act.put,lSI,lSZ,lSS]
  refine take_E 1 14 (.pointer (some ⟨B,0,none⟩)) rfl (Or.inl ⟨by rfl,fun W' hW=>by obtain ⟨s0,s1,s2,s3,s4,s5⟩:=hW;first | (go_simp;done) | (go_simp;exact hwr) | (go_simp;rw [hmin2];done) | (go_simp;rw [if_pos hz0];done) | (go_simp;rw [if_pos ⟨hz0,hlt⟩,hzn];done) | (go_simp;rw [if_pos hz0,hzn];done) | (go_simp;rw [hzn];done)⟩) hS ?_
  simp only [Act.put,lSI,lSZ,lSS]
  refine take_E 2 15 (.pointer (some ⟨B,0,none⟩)) rfl (Or.inl ⟨by rfl,fun W' hW=>by obtain ⟨s0,s1,s2,s3,s4,s5⟩:=hW;first | (go_simp;done) | (go_simp;exact hwr) | (go_simp;rw [hmin2];done) | (go_simp;rw [if_pos hz0];done) | (go_simp;rw [if_pos ⟨hz0,hlt⟩,hzn];done) | (go_simp;rw [if_pos hz0,hzn];done) | (go_simp;rw [hzn];done)⟩) hS ?_
  simp only [Act.put,lSI,lSZ,lSS]
  refine take_E 3 16 (.slice (some ⟨b,o,none⟩) tn tc) rfl (Or.inl ⟨by rfl,fun W' hW=>by obtain ⟨s0,s1,s2,s3,s4,s5⟩:=hW;first | (go_simp;done) | (go_simp;exact hwr) | (go_simp;rw [hmin2];done) | (go_simp;rw [if_pos hz0];done) | (go_simp;rw [if_pos ⟨hz0,hlt⟩,hzn];done) | (go_simp;rw [if_pos hz0,hzn];done) | (go_simp;rw [hzn];done)⟩) hS ?_
  simp only [Act.put,lSI,lSZ,lSS]
  refine take_E 4 17 (.int .i64 k) rfl (Or.inl ⟨by rfl,fun W' hW=>by obtain ⟨s0,s1,s2,s3,s4,s5⟩:=hW;first | (go_simp;done) | (go_simp;exact hwr) | (go_simp;rw [hmin2];done) | (go_simp;rw [if_pos hz0];done) | (go_simp;rw [if_pos ⟨hz0,hlt⟩,hzn];done) | (go_simp;rw [if_pos hz0,hzn];done) | (go_simp;rw [hzn];done)⟩) hS ?_
  simp only [Act.put,lSI,lSZ,lSS]
  refine take_E 5 18 (.pointer (some ⟨B,0,none⟩)) rfl (Or.inl ⟨by rfl,fun W' hW=>by obtain ⟨s0,s1,s2,s3,s4,s5⟩:=hW;first | (go_simp;done) | (go_simp;exact hwr) | (go_simp;rw [hmin2];done) | (go_simp;rw [if_pos hz0];done) | (go_simp;rw [if_pos ⟨hz0,hlt⟩,hzn];done) | (go_simp;rw [if_pos hz0,hzn];done) | (go_simp;rw [hzn];done)⟩) hS ?_
  simp only [Act.put,lSI,lSZ,lSS]
  refine take_E 6 19 (.pointer (some ⟨B,0,none⟩)) rfl (Or.inl ⟨by rfl,fun W' hW=>by obtain ⟨s0,s1,s2,s3,s4,s5⟩:=hW;first | (go_simp;done) | (go_simp;exact hwr) | (go_simp;rw [hmin2];done) | (go_simp;rw [if_pos hz0];done) | (go_simp;rw [if_pos ⟨hz0,hlt⟩,hzn];done) | (go_simp;rw [if_pos hz0,hzn];done) | (go_simp;rw [hzn];done)⟩) hS ?_
  simp only [Act.put,lSI,lSZ,lSS]
  refine take_E 7 20 (.pointer (some ⟨B,0,none⟩)) rfl (Or.inl ⟨by rfl,fun W' hW=>by obtain ⟨s0,s1,s2,s3,s4,s5⟩:=hW;first | (go_simp;done) | (go_simp;exact hwr) | (go_simp;rw [hmin2];done) | (go_simp;rw [if_pos hz0];done) | (go_simp;rw [if_pos ⟨hz0,hlt⟩,hzn];done) | (go_simp;rw [if_pos hz0,hzn];done) | (go_simp;rw [hzn];done)⟩) hS ?_
  simp only [Act.put,lSI,lSZ,lSS]
  refine take_E 8 21 (.slice (some ⟨b,o,none⟩) tn tc) rfl (Or.inl ⟨by rfl,fun W' hW=>by obtain ⟨s0,s1,s2,s3,s4,s5⟩:=hW;first | (go_simp;done) | (go_simp;exact hwr) | (go_simp;rw [hmin2];done) | (go_simp;rw [if_pos hz0];done) | (go_simp;rw [if_pos ⟨hz0,hlt⟩,hzn];done) | (go_simp;rw [if_pos hz0,hzn];done) | (go_simp;rw [hzn];done)⟩) hS ?_
  simp only [Act.put,lSI,lSZ,lSS]
  refine take_E 9 22 (.int .i64 tn) rfl (Or.inl ⟨by rfl,fun W' hW=>by obtain ⟨s0,s1,s2,s3,s4,s5⟩:=hW;first | (go_simp;done) | (go_simp;exact hwr) | (go_simp;rw [hmin2];done) | (go_simp;rw [if_pos hz0];done) | (go_simp;rw [if_pos ⟨hz0,hlt⟩,hzn];done) | (go_simp;rw [if_pos hz0,hzn];done) | (go_simp;rw [hzn];done)⟩) hS ?_
  simp only [Act.put,lSI,lSZ,lSS]
  refine take_E 10 23 (.int .i64 ((tn:Int) - 1)) rfl (Or.inl ⟨by rfl,fun W' hW=>by obtain ⟨s0,s1,s2,s3,s4,s5⟩:=hW;first | (go_simp;done) | (go_simp;exact hwr) | (go_simp;rw [hmin2];done) | (go_simp;rw [if_pos hz0];done) | (go_simp;rw [if_pos ⟨hz0,hlt⟩,hzn];done) | (go_simp;rw [if_pos hz0,hzn];done) | (go_simp;rw [hzn];done)⟩) hS ?_
  simp only [Act.put,lSI,lSZ,lSS]
  refine take_E 11 24 (.int .i64 i) rfl (Or.inl ⟨by rfl,fun W' hW=>by obtain ⟨s0,s1,s2,s3,s4,s5⟩:=hW;first | (go_simp;done) | (go_simp;exact hwr) | (go_simp;rw [hmin2];done) | (go_simp;rw [if_pos hz0];done) | (go_simp;rw [if_pos ⟨hz0,hlt⟩,hzn];done) | (go_simp;rw [if_pos hz0,hzn];done) | (go_simp;rw [hzn];done)⟩) hS ?_
  simp only [Act.put,lSI,lSZ,lSS]
  refine take_E 12 25 (.pointer (some ⟨b,o+i * 5,none⟩)) rfl (Or.inl ⟨by rfl,fun W' hW=>by obtain ⟨s0,s1,s2,s3,s4,s5⟩:=hW;first | (go_simp;done) | (go_simp;exact hwr) | (go_simp;rw [hmin2];done) | (go_simp;rw [if_pos hz0];done) | (go_simp;rw [if_pos ⟨hz0,hlt⟩,hzn];done) | (go_simp;rw [if_pos hz0,hzn];done) | (go_simp;rw [hzn];done)⟩) hS ?_
  simp only [Act.put,lSI,lSZ,lSS]
  refine take_E 13 26 (.agg #[.int .i64 t.kd,.string (S t.tx),.int .i64 t.nu,.int .i64 t.ln,.int .i64 t.co]) rfl (Or.inl ⟨by rfl,fun W' hW=>by obtain ⟨s0,s1,s2,s3,s4,s5⟩:=hW;first | (go_simp;done) | (go_simp;exact hwr) | (go_simp;rw [hmin2];done) | (go_simp;rw [if_pos hz0];done) | (go_simp;rw [if_pos ⟨hz0,hlt⟩,hzn];done) | (go_simp;rw [if_pos hz0,hzn];done) | (go_simp;rw [hzn];done)⟩) hS ?_
  simp only [Act.put,lSI,lSZ,lSS]
  refine ready_E [14] ?_
  intro jj hjj
  obtain rfl:=List.mem_singleton.1 hjj
  clear hjj
  refine op_J rfl rfl fun K hK=>?_
  go_simp
  have HW:=hide (Hold.new (w.alloc (.cells #[.int .i64 0,.int .i64 0] 29)) #[.int .i64 0,.string ⟨#[]⟩,.int .i64 0,.int .i64 0,.int .i64 0] 51)
  have hb2:Below (w.heap.size+1) (w.alloc (.cells #[.int .i64 0,.int .i64 0] 29)) ((w.alloc (.cells #[.int .i64 0,.int .i64 0] 29)).alloc (.cells #[.int .i64 0,.string ⟨#[]⟩,.int .i64 0,.int .i64 0,.int .i64 0] 51)):=(Below.refl _ _).alloc (by simp) _
  have HB2:Hid (Below w.heap.size w ((w.alloc (.cells #[.int .i64 0,.int .i64 0] 29)).alloc (.cells #[.int .i64 0,.string ⟨#[]⟩,.int .i64 0,.int .i64 0,.int .i64 0] 51))):=HB0.out.trans (hb2.mono (by omega))
  have HR2:=hide ((Hold.new w #[.int .i64 0,.int .i64 0] 29).alloc (.cells #[.int .i64 0,.string ⟨#[]⟩,.int .i64 0,.int .i64 0,.int .i64 0] 51))
  have hbn:w.heap.size+1=(w.alloc (.cells #[.int .i64 0,.int .i64 0] 29)).heap.size:=by simp
  rw [← hbn] at HW
  have hBn:B<w.heap.size:=hB.lt
  have g0:=((hB.alloc (.cells #[.int .i64 0,.int .i64 0] 29)).alloc (.cells #[.int .i64 0,.string ⟨#[]⟩,.int .i64 0,.int .i64 0,.int .i64 0] 51)).cell 0
  simp only [lGA,lGZ] at g0
  have kc:∀ x,((w.alloc (.cells #[.int .i64 0,.int .i64 0] 29)).alloc (.cells #[.int .i64 0,.string ⟨#[]⟩,.int .i64 0,.int .i64 0,.int .i64 0] 51)).cell? ⟨b,x,none⟩=(w.alloc (.cells #[.int .i64 0,.int .i64 0] 29)).cell? ⟨b,x,none⟩:=fun x=>hb2.cell (p:=⟨b,x,none⟩) (by show b<w.heap.size+1;omega)
  refine hK _ _ ⟨fun _=>⟨g0,(kc _).trans a0,(kc _).trans a1,(kc _).trans a2,(kc _).trans a3,(kc _).trans a4⟩,?_⟩
  clear hK K hb2 kc hbn
  generalize (w.alloc (.cells #[.int .i64 0,.int .i64 0] 29)).alloc (.cells #[.int .i64 0,.string ⟨#[]⟩,.int .i64 0,.int .i64 0,.int .i64 0] 51)=W2 at *
  refine ready_E [15] ?_
  intro jj hjj
  obtain rfl:=List.mem_singleton.1 hjj
  clear hjj
  refine op_J rfl rfl fun K hK=>?_
  have z0:=HW.out.frozen 0
  have z1:=HW.out.frozen 1
  have z2:=HW.out.frozen 2
  have z3:=HW.out.frozen 3
  have z4:=HW.out.frozen 4
  have y0:=HW.out.cell 0
  have y1:=HW.out.cell 1
  have y2:=HW.out.cell 2
  have y3:=HW.out.cell 3
  have y4:=HW.out.cell 4
  simp only [lGA,lGS,lGZ] at y0 y1 y2 y3 y4
  go_simp
  refine hK _ _ ⟨fun h=>absurd h (by omega),?_⟩
  clear hK K
  refine done_J (by kernel_rfl) ?_ _
  have HW3:Hid (Hold (w.heap.size+1) #[.int .i64 t.kd,.string (S t.tx),.int .i64 t.nu,.int .i64 t.ln,.int .i64 t.co] 51 (((((W2.setCell ⟨w.heap.size+1,0,none⟩ (.int .i64 t.kd)).setCell ⟨w.heap.size+1,1,none⟩ (.string (S t.tx))).setCell ⟨w.heap.size+1,2,none⟩ (.int .i64 t.nu)).setCell ⟨w.heap.size+1,3,none⟩ (.int .i64 t.ln)).setCell ⟨w.heap.size+1,4,none⟩ (.int .i64 t.co))):=((((HW.out.set 0 _).set 1 _).set 2 _).set 3 _).set 4 _
  have hne:w.heap.size≠w.heap.size+1:=by omega
  have HR3:Hid (Hold w.heap.size #[.int .i64 0,.int .i64 0] 29 (((((W2.setCell ⟨w.heap.size+1,0,none⟩ (.int .i64 t.kd)).setCell ⟨w.heap.size+1,1,none⟩ (.string (S t.tx))).setCell ⟨w.heap.size+1,2,none⟩ (.int .i64 t.nu)).setCell ⟨w.heap.size+1,3,none⟩ (.int .i64 t.ln)).setCell ⟨w.heap.size+1,4,none⟩ (.int .i64 t.co))):=((((HR2.out.other hne _ _).other hne _ _).other hne _ _).other hne _ _).other hne _ _
  have HB3:Hid (Below w.heap.size w (((((W2.setCell ⟨w.heap.size+1,0,none⟩ (.int .i64 t.kd)).setCell ⟨w.heap.size+1,1,none⟩ (.string (S t.tx))).setCell ⟨w.heap.size+1,2,none⟩ (.int .i64 t.nu)).setCell ⟨w.heap.size+1,3,none⟩ (.int .i64 t.ln)).setCell ⟨w.heap.size+1,4,none⟩ (.int .i64 t.co))):=((((HB2.out.setCell (by show w.heap.size≤w.heap.size+1;omega) _).setCell (by show w.heap.size≤w.heap.size+1;omega) _).setCell (by show w.heap.size≤w.heap.size+1;omega) _).setCell (by show w.heap.size≤w.heap.size+1;omega) _).setCell (by show w.heap.size≤w.heap.size+1;omega) _
  clear z0 z1 z2 z3 z4 y0 y1 y2 y3 y4 g0 hS c0 a0 a1 a2 a3 a4
  generalize (((((W2.setCell ⟨w.heap.size+1,0,none⟩ (.int .i64 t.kd)).setCell ⟨w.heap.size+1,1,none⟩ (.string (S t.tx))).setCell ⟨w.heap.size+1,2,none⟩ (.int .i64 t.nu)).setCell ⟨w.heap.size+1,3,none⟩ (.int .i64 t.ln)).setCell ⟨w.heap.size+1,4,none⟩ (.int .i64 t.co))=W3 at *
  have y3:=HW3.out.cell 3
  have y4:=HW3.out.cell 4
  have x0:=HR3.out.cell 0
  have x1:=HR3.out.cell 1
  have x2:=HR3.out.frozen 0
  have x3:=HR3.out.frozen 1
  simp only [lGA,lGS,lGZ] at y3 y4 x0 x1
  go_wp2_with fail
  have hr4:=(HR3.out.set 0 (.int .i64 t.ln)).set 1 (.int .i64 t.co)
  have q0:=hr4.cell 0
  have q1:=hr4.cell 1
  simp only [lGA,lGS,lGZ,lSI,lSZ,lSS] at q0 q1
  have hb4:=(HB3.out.setCell (p:=⟨w.heap.size,0,none⟩) (Nat.le_refl _) (.int .i64 t.ln)).setCell (p:=⟨w.heap.size,1,none⟩) (Nat.le_refl _) (.int .i64 t.co)
  refine bodyPost_ret (v:=.agg #[.int .i64 t.ln,.int .i64 t.co]) (by simp [results,Tryz.results27,go_sem,q0,q1]) rfl ⟨by rw [HR.out],⟨hb4.os,hb4.tape,hb4.output,hb4.size,hb4.block⟩⟩
def isOp (l:List UInt8):Bool:=l == [43] || l == [45] || l == [42] || l == [47]
def isCmp (l:List UInt8):Bool:=l == [61,61] || l == [60]
def cs5 (e:Tr) (pn:Option Addr) (cn:Nat) (pk:Option Addr) (ck:Nat):Array Value:=#[.int .i64 e.kd,.string (S e.nm),.int .i64 e.nu,.slice pn e.ns.length cn,.slice pk e.ks.length ck]
def hasNumM (e:Tr):Bool:=decide (e.nu=0) || (decide (e.kd=1) && decide (0<e.nu))
def hasNameM (e:Tr):Bool:=if e.kd=2 then nm e.nm else if e.kd=3∨e.kd=8 then cn e.nm else if e.kd=9 then isOp e.nm || isCmp e.nm else e.nm == []
def hasKidsM (e:Tr):Bool:=if e.kd=10 then decide (e.ks.length=3) else if e.kd=5∨e.kd=6∨e.kd=9 then decide (e.ks.length=2) else if e.kd=4∨e.kd=8∨e.kd=13 then decide (e.ks.length=1) else if e.kd=1∨e.kd=2∨e.kd=3 then decide (e.ks.length=0) else if e.kd=7 then decide (1<e.ks.length) else if e.kd=11∨e.kd=12 then decide (0<e.ks.length) else false
theorem is_anyP (l:List UInt8) (w:World):Calls Tryz.prog 216 #[.string (S l)] w fun e w'=>e=.returned (.tuple #[.bool (isOp l),.bool (isCmp l)])∧w'=w:=by
 have hl:=S_list l
 unfold isOp isCmp
 generalize S l=s at *
 subst hl
 go_enter Tryz.func216,Tryz.ntmps216
 go_wp2
 all_goals first | (exfalso;simp_all;done) | skip
 all_goals go_ret2
 all_goals exact ⟨by simp_all,rfl⟩
theorem isDo_any (e:Tr) (pn:Option Addr) (cn:Nat) (pk:Option Addr) (ck:Nat) (w:World):Calls Tryz.prog 217 #[.agg (cs5 e pn cn pk ck)] w fun r w'=>r=.returned (.bool (e.kd == 11 || e.kd == 12))∧w'=w.alloc (.cells (cs5 e pn cn pk ck) 27):=by
 unfold cs5
 by_cases h:e.kd=11
 ·go_enter Tryz.func217,Tryz.ntmps217
  go_wp2_with fail
  go_ret
  exact ⟨by simp [h],by simp [h]⟩
 ·go_enter Tryz.func217,Tryz.ntmps217
  go_wp2_with fail
  go_ret
  exact ⟨by simp [h],rfl⟩
theorem hasNum_any (e:Tr) (pn:Option Addr) (cn:Nat) (pk:Option Addr) (ck:Nat) (w:World):Calls Tryz.prog 182 #[.agg (cs5 e pn cn pk ck)] w fun r w'=>r=.returned (.bool (hasNumM e))∧w'=w.alloc (.cells (cs5 e pn cn pk ck) 27):=by
 unfold cs5 hasNumM
 by_cases h:e.nu=0
 ·go_enter Tryz.func182,Tryz.ntmps182
  go_wp2_with fail
  go_ret
  exact ⟨by simp [h],by simp [h]⟩
 ·by_cases h1:e.kd=1
  ·go_enter Tryz.func182,Tryz.ntmps182
   go_wp2_with fail
   go_ret
   exact ⟨by simp [h,h1],by simp [h1]⟩
  ·go_enter Tryz.func182,Tryz.ntmps182
   go_wp2_with fail
   go_ret
   exact ⟨by simp [h,h1],rfl⟩
theorem hasName_any (e:Tr) (pn:Option Addr) (cn:Nat) (pk:Option Addr) (ck:Nat) (w:World) (hl:e.nm.length≤281474976710656):Calls Tryz.prog 183 #[.agg (cs5 e pn cn pk ck)] w fun r w'=>r=.returned (.bool (hasNameM e))∧w'=w.alloc (.cells (cs5 e pn cn pk ck) 27):=by
 unfold cs5 hasNameM
 obtain ⟨kd,nm',nu,ns,ks⟩:=e
 simp only at *
 by_cases h2:kd=2
 ·subst h2
  go_enter Tryz.func183,Tryz.ntmps183
  go_wp2_with fail
  refine (name_any nm' _ hl).mono ?_;rintro r w' ⟨rfl,rfl⟩
  go_wp2_with fail
  go_ret
  exact ⟨by simp,rfl⟩
 by_cases h3:kd=3
 ·subst h3
  go_enter Tryz.func183,Tryz.ntmps183
  go_wp2_with fail
  refine (con_any nm' _ hl).mono ?_;rintro r w' ⟨rfl,rfl⟩
  go_wp2_with fail
  go_ret
  exact ⟨by simp,rfl⟩
 by_cases h8:kd=8
 ·subst h8
  go_enter Tryz.func183,Tryz.ntmps183
  go_wp2_with fail
  refine (con_any nm' _ hl).mono ?_;rintro r w' ⟨rfl,rfl⟩
  go_wp2_with fail
  go_ret
  exact ⟨by simp,rfl⟩
 by_cases h9:kd=9
 ·subst h9
  cases hq:isOp nm'
  ·go_enter Tryz.func183,Tryz.ntmps183
   go_wp2_with fail
   refine (is_anyP nm' _).mono ?_;rintro r w' ⟨rfl,rfl⟩;rw [hq]
   go_wp2_with fail
   go_ret
   exact ⟨by simp,rfl⟩
  ·go_enter Tryz.func183,Tryz.ntmps183
   go_wp2_with fail
   refine (is_anyP nm' _).mono ?_;rintro r w' ⟨rfl,rfl⟩;rw [hq]
   go_wp2_with fail
   go_ret
   exact ⟨by simp,rfl⟩
 have hsl:=S_list nm'
 rw [if_neg h2,if_neg (by simp [h3,h8]),if_neg h9]
 generalize S nm'=sb at *
 subst hsl
 go_enter Tryz.func183,Tryz.ntmps183
 go_wp2_with fail
 go_ret
 exact ⟨by simp,rfl⟩
theorem hasKids_any (e:Tr) (pn:Option Addr) (cn:Nat) (pk:Option Addr) (ck:Nat) (w:World):Calls Tryz.prog 185 #[.agg (cs5 e pn cn pk ck)] w fun r w'=>r=.returned (.bool (hasKidsM e))∧w'=w.alloc (.cells (cs5 e pn cn pk ck) 27):=by
 unfold cs5 hasKidsM
 obtain ⟨kd,nm',nu,ns,ks⟩:=e
 simp only at *
 generalize ks.length=nk
 by_cases h:kd=10∨kd=5∨kd=6∨kd=9∨kd=4∨kd=8∨kd=13∨kd=1∨kd=2∨kd=3∨kd=7∨kd=11∨kd=12
 ·rcases h with rfl | rfl | rfl | rfl | rfl | rfl | rfl | rfl | rfl | rfl | rfl | rfl | rfl <;>
  ·go_enter Tryz.func185,Tryz.ntmps185
   go_wp2_with fail
   all_goals go_ret
   all_goals refine ⟨?_,rfl⟩
   all_goals show Ending.returned (Value.bool _)=Ending.returned (Value.bool _)
   all_goals refine congrArg (fun b=>Ending.returned (Value.bool b)) ?_
   all_goals rw [Bool.eq_iff_iff]
   all_goals simp
   all_goals first | done | omega
 ·simp only [not_or] at h
  obtain ⟨h1,h2,h3,h4,h5,h6,h7,h8,h9,h10,h11,h12,h13⟩:=h
  go_enter Tryz.func185,Tryz.ntmps185
  go_wp2_with fail
  go_ret
  exact ⟨by simp [*],rfl⟩
end Go.Proofs.YtcnnlecjdkfdjaaGreatDoor
