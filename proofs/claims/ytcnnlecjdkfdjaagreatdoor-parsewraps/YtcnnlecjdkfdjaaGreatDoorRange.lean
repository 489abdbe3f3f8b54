/- Parts of the proof. -/
import Derived.Test.YtcnnlecjdkfdjaaGreatDoorRun4
set_option linter.unusedVariables false
set_option linter.unusedSimpArgs false
set_option maxRecDepth 100000
set_option maxHeartbeats 8000000
namespace Go.Proofs.YtcnnlecjdkfdjaaGreatDoor
def Fam (r:Ru):Prop:=(10≤r.k∧r.k≤24∧r.k≠13)∧(r.k=23→r.s≠sRight∧(r.j=11∨r.j=12))
def Fin (nd:Nat):List Ru→Nat→Prop
 | [],m=>m=nd
 | r :: q,m=>match r.k with
  | 14=>Fin nd q m
  | 16=>Fin nd q m
  | 18=>Fin nd q m
  | 20=>Fin nd q m
  | 22=>Fin nd q m
  | 23=>∀ m',m≤m'→Fin nd q m'
  | 24=>Fin nd q (r.n+1)
  | _=>Fin nd q (m+1)
theorem fam_r0 {j:Nat} (h:10≤j∧j≤21∧j≠13):Fam (r0 j):=⟨⟨h.1,by show j≤24;omega,h.2.2⟩,fun e=>by have e':j=23:=e;omega⟩
theorem fam_later (s:List UInt8):Fam (rLater s):=⟨⟨by show 10≤22;omega,by show 22≤24;omega,by show (22:Nat)≠13;omega⟩,fun e=>by have e':(22:Nat)=23:=e;omega⟩
theorem fam_make (t:Tr) (n:Nat):Fam (rMake t n):=⟨⟨by show 10≤24;omega,by show 24≤24;omega,by show (24:Nat)≠13;omega⟩,fun e=>by have e':(24:Nat)=23:=e;omega⟩
theorem fam_more {j:Nat} (h:j=11∨j=12):Fam (rMore sSemi j):=⟨⟨by show 10≤23;omega,by show 23≤24;omega,by show (23:Nat)≠13;omega⟩,fun _=>⟨by show sSemi≠sRight;decide,h⟩⟩
structure FamQ (nd:Nat) (r:Ru) (p q:Ps):Prop where
 ru:(∀ x ∈ p.ru,Fam x)→∀ x ∈ q.ru,Fam x
 sg:q.sg=p.sg
 fm:q.fm=p.fm
 ds:q.ds=p.ds
 fs:q.fs=p.fs
 fin:Fin nd (r :: p.ru) p.ex.length→Fin nd q.ru q.ex.length
theorem famQ_push {nd:Nat} {r:Ru} {p p' q:Ps} {rs:List Ru} (h:pushR rs p'=.inr q) (e:p'={ p with tk:=p'.tk }) (hf:∀ x ∈ rs,Fam x) (hn:Fin nd (r :: p.ru) p.ex.length→Fin nd (rs ++ p.ru) p.ex.length):FamQ nd r p q:=by
 cases h
 rw [e]
 refine ⟨fun hx x hm=>?_,rfl,rfl,rfl,rfl,hn⟩
 rcases List.mem_append.1 hm with h | h
 ·exact hf x h
 ·exact hx x h
theorem famQ_same {nd:Nat} {r:Ru} {p q:Ps} (h:(.inr p:Rs)=.inr q) (hn:Fin nd (r :: p.ru) p.ex.length→Fin nd p.ru p.ex.length):FamQ nd r p q:=by
 cases h
 exact ⟨fun hx=>hx,rfl,rfl,rfl,rfl,hn⟩
theorem expr_fam {nd:Nat} {r:Ru} {l:List Tk} {p q:Ps} (hr:Fin nd (r :: p.ru) p.ex.length→Fin nd p.ru (p.ex.length+1)) (h:exprR l p=.inr q):FamQ nd r p q:=by
 unfold exprR at h
 split at h
 ·unfold lamR at h
  obtain ⟨p1,h1,h2⟩:=then_inv h
  obtain ⟨hl,rfl⟩:=key_inv h1
  obtain ⟨hl2,h3⟩:=take_inv (by decide) h2
  obtain ⟨p2,h4,h5⟩:=then_inv h3
  obtain ⟨hl3,rfl⟩:=key_inv h4
  exact famQ_push h5 rfl (by simp [fam_r0,fam_make]) fun hn=>hr hn
 split at h
 ·unfold letR at h
  obtain ⟨p1,h1,h2⟩:=then_inv h
  obtain ⟨hl,rfl⟩:=key_inv h1
  obtain ⟨hl2,h3⟩:=take_inv (by decide) h2
  obtain ⟨p2,h4,h5⟩:=then_inv h3
  obtain ⟨hl3,rfl⟩:=key_inv h4
  exact famQ_push h5 rfl (by simp [fam_r0,fam_make,fam_later]) fun hn=>hr hn
 split at h
 ·unfold waysR at h
  obtain ⟨p1,h1,h2⟩:=then_inv h
  obtain ⟨hl,rfl⟩:=key_inv h1
  exact famQ_push h2 rfl (by simp [fam_r0,fam_make,fam_later,fam_more]) fun hn m' hm=>hr hn
 split at h
 ·unfold choiceR at h
  obtain ⟨p1,h1,h2⟩:=then_inv h
  obtain ⟨hl,rfl⟩:=key_inv h1
  exact famQ_push h2 rfl (by simp [fam_r0,fam_make,fam_later]) fun hn=>hr hn
 split at h
 ·unfold blockR at h
  obtain ⟨p1,h1,h2⟩:=then_inv h
  obtain ⟨hl,rfl⟩:=key_inv h1
  exact famQ_push h2 rfl (by simp [fam_r0,fam_make,fam_later,fam_more]) fun hn m' hm=>hr hn
 split at h
 ·unfold blockR at h
  obtain ⟨p1,h1,h2⟩:=then_inv h
  obtain ⟨hl,rfl⟩:=key_inv h1
  exact famQ_push h2 rfl (by simp [fam_r0,fam_make,fam_later,fam_more]) fun hn m' hm=>hr hn
 ·exact famQ_push h rfl (by simp [fam_r0]) fun hn=>hr hn
theorem fam_rule {nd:Nat} {r:Ru} {l:List Tk} {p q:Ps} (hr:Fam r) (hh:r.k=14∨r.k=16∨r.k=18∨r.k=20→1≤p.ex.length) (hk:r.k=24→r.n≤p.ex.length) (h:ruleR l r p=.inr q):FamQ nd r p q:=by
 obtain ⟨k,s,j,t,n,ns⟩:=r
 obtain ⟨⟨h10,h24,h13⟩,hm⟩:=hr
 simp only at h10 h24 h13 hm hh hk
 have hcases:k=10∨k=11∨k=12∨k=14∨k=15∨k=16∨k=17∨k=18∨k=19∨k=20∨k=21∨k=22∨k=23∨k=24:=by omega
 rcases hcases with rfl | rfl | rfl | rfl | rfl | rfl | rfl | rfl | rfl | rfl | rfl | rfl | rfl | rfl
 ·exact expr_fam (fun hn=>hn) h
 ·have h:altR l p=.inr q:=h
  obtain ⟨hl,h2⟩:=take_inv (by decide) h
  unfold namesR at h2
  simp only at h2
  obtain ⟨p2,h4,h5⟩:=then_inv h2
  obtain ⟨hl3,rfl⟩:=key_inv h4
  exact famQ_push h5 rfl (by simp [fam_r0,fam_make]) fun hn=>hn
 ·have h:lineR l p=.inr q:=h
  unfold lineR at h
  split at h
  ·obtain ⟨hl,h2⟩:=take_inv (by decide) h
   exact famQ_push h2 rfl (by simp [fam_r0,fam_make,fam_later]) fun hn=>hn
  ·exact expr_fam (fun hn=>hn) h
 ·have h:comparedR l p=.inr q:=h
  unfold comparedR at h
  split at h
  ·obtain ⟨hl,h2⟩:=take_inv (by decide) h
   refine famQ_push h2 rfl (by simp [fam_r0,fam_make]) fun hn=>?_
   show Fin nd p.ru (p.ex.length - 1+1)
   rw [Nat.sub_add_cancel (hh (.inl rfl))]
   exact hn
  ·exact famQ_same h fun hn=>hn
 ·exact famQ_push h rfl (by simp [fam_r0]) fun hn=>hn
 ·have h:addedR l p=.inr q:=h
  unfold addedR at h
  split at h
  ·obtain ⟨hl,h2⟩:=take_inv (by decide) h
   refine famQ_push h2 rfl (by simp [fam_r0,fam_make]) fun hn=>?_
   show Fin nd p.ru (p.ex.length - 1+1)
   rw [Nat.sub_add_cancel (hh (.inr (.inl rfl)))]
   exact hn
  ·exact famQ_same h fun hn=>hn
 ·exact famQ_push h rfl (by simp [fam_r0]) fun hn=>hn
 ·have h:multipliedR l p=.inr q:=h
  unfold multipliedR at h
  split at h
  ·obtain ⟨hl,h2⟩:=take_inv (by decide) h
   refine famQ_push h2 rfl (by simp [fam_r0,fam_make]) fun hn=>?_
   show Fin nd p.ru (p.ex.length - 1+1)
   rw [Nat.sub_add_cancel (hh (.inr (.inr (.inl rfl))))]
   exact hn
  ·exact famQ_same h fun hn=>hn
 ·exact famQ_push h rfl (by simp [fam_r0]) fun hn=>hn
 ·have h:appliedR l p=.inr q:=h
  unfold appliedR at h
  split at h
  ·refine famQ_push h rfl (by simp [fam_r0,fam_make]) fun hn=>?_
   show Fin nd p.ru (p.ex.length - 1+1)
   rw [Nat.sub_add_cancel (hh (.inr (.inr (.inr rfl))))]
   exact hn
  ·exact famQ_same h fun hn=>hn
 ·have h:atomR l p=.inr q:=h
  unfold atomR at h
  split at h
  ·obtain ⟨hl,h2⟩:=take_inv (by decide) h
   cases h2
   exact ⟨fun hx=>hx,rfl,rfl,rfl,rfl,fun hn=>by simp only [List.length_append,List.length_singleton];exact hn⟩
  split at h
  ·obtain ⟨hl,h2⟩:=take_inv (by decide) h
   cases h2
   exact ⟨fun hx=>hx,rfl,rfl,rfl,rfl,fun hn=>by simp only [List.length_append,List.length_singleton];exact hn⟩
  split at h
  ·obtain ⟨hl,h2⟩:=take_inv (by decide) h
   cases h2
   exact ⟨fun hx=>hx,rfl,rfl,rfl,rfl,fun hn=>by simp only [List.length_append,List.length_singleton];exact hn⟩
  ·obtain ⟨p1,h1,h2⟩:=then_inv h
   obtain ⟨hl,rfl⟩:=key_inv h1
   exact famQ_push h2 rfl (by simp [fam_r0,fam_later]) fun hn=>hn
 ·have h:keyR l s p=.inr q:=h
  obtain ⟨hl,rfl⟩:=key_inv h
  exact ⟨fun hx=>hx,rfl,rfl,rfl,rfl,fun hn=>hn⟩
 ·have h:moreR l s j p=.inr q:=h
  obtain ⟨hs,hj⟩:=hm rfl
  unfold moreR at h
  split at h
  ·obtain ⟨p1,h1,h2⟩:=then_inv h
   obtain ⟨hl,rfl⟩:=key_inv h1
   refine famQ_push h2 rfl (fun x hx=>?_) fun hn=>?_
   ·simp only [List.mem_cons,List.not_mem_nil,or_false] at hx
    rcases hx with rfl | rfl
    ·exact fam_r0 (by omega)
    ·exact ⟨⟨by show 10≤23;omega,by show 23≤24;omega,by show (23:Nat)≠13;omega⟩,fun _=>⟨hs,hj⟩⟩
   ·rcases hj with rfl | rfl
    ·show ∀ m',p.ex.length+1≤m'→Fin nd p.ru m'
     exact fun m' hm'=>hn m' (by omega)
    ·show ∀ m',p.ex.length+1≤m'→Fin nd p.ru m'
     exact fun m' hm'=>hn m' (by omega)
  ·exact famQ_same h fun hn=>hn _ (Nat.le_refl _)
 ·have h:makeR t n p=.inr q:=h
  cases h
  refine ⟨fun hx=>hx,rfl,rfl,rfl,rfl,fun hn=>?_⟩
  have hn':Fin nd p.ru (n+1):=hn
  have hnl:=hk rfl
  show Fin nd p.ru (p.ex.take n ++ [({ t with ks:=p.ex.drop n }:Tr)]).length
  rw [List.length_append,List.length_take,List.length_singleton,Nat.min_eq_left hnl]
  exact hn'
theorem good_make {nd:Nat} {r:Ru} {q:List Ru} {m s:Nat} (hg:Good nd (r :: q) m s) (h:r.k=24):r.n<m:=by
 obtain ⟨k,sx,j,t,n,ns⟩:=r
 simp only at h
 subst h
 exact hg.1
theorem run_in {l l2:List Tk} {a nd:Nat} {E:List Tr} {bot:List Ru} (hA:Alike l l2 a l.length true) (p:Ps):(∀ x ∈ p.ru,Fam x)→GoodP nd p→p.tk≤l.length→∀ q,run l p=.inr q→run l2 (sft a E bot p)=run l2 (sft a E bot q):=by
 refine run_ind (l:=l) (M:=fun p=>(∀ x ∈ p.ru,Fam x)→GoodP nd p→p.tk≤l.length→∀ q,run l p=.inr q→run l2 (sft a E bot p)=run l2 (sft a E bot q)) (fun p ih hf hg hp q hq=>?_) p
 cases hru:p.ru with
 | nil=>rw [run_nil hru] at hq;cases hq;rfl
 | cons r rest=>
  have hgd:Good nd (r :: rest) p.ex.length p.sg.length:=by unfold GoodP at hg;rw [hru] at hg;exact hg
  have hfr:=hf r (by rw [hru];exact List.mem_cons_self)
  have hfq:∀ x ∈ rest,Fam x:=fun x hx=>hf x (by rw [hru];exact List.mem_cons_of_mem _ hx)
  rw [run_cons hru] at hq
  have hs:(sft a E bot p).ru=shn E.length r :: (rest.map (shn E.length) ++ bot):=by unfold sft;rw [hru];rfl
  have e:({ sft a E bot p with ru:=rest.map (shn E.length) ++ bot }:Ps)=sft a E bot { p with ru:=rest }:=rfl
  cases hx:ruleR l r { p with ru:=rest } with
  | inl n=>rw [hx] at hq;cases hq
  | inr p2=>
   rw [hx] at hq
   simp only at hq
   have hgp:=(rule_good (p:={ p with ru:=rest }) hgd hx).1
   have hfam:=fam_rule (nd:=nd) (p:={ p with ru:=rest }) hfr (good_has hgd) (fun h=>Nat.le_of_lt (good_make hgd h)) hx
   have hstep:p2.tk≤l.length∧ruleR l2 (shn E.length r) (sft a E bot { p with ru:=rest })=.inr (sft a E bot p2):=by
    by_cases h22:r.k=22
    ·obtain ⟨k,s,j,t,n,ns⟩:=r
     simp only at h22
     subst h22
     have hx':keyR l s { p with ru:=rest }=.inr p2:=hx
     have hk:isK l p.tk s=true:=by
      cases hk:isK l p.tk s
      ·unfold keyR at hx'
       rw [show isK l ({ p with ru:=rest }:Ps).tk s=false from hk] at hx'
       cases hx'
      ·rfl
     have hl:=isK_lt hk
     obtain ⟨_,rfl⟩:=key_inv hx'
     refine ⟨hl,?_⟩
     show keyR l2 s _=_
     unfold keyR
     rw [show isK l2 (sft a E bot { p with ru:=rest }).tk s=true from (hA.key (Nat.le_of_lt hl) (.inr (.inr hl))).trans hk]
     show Sum.inr _=Sum.inr _
     unfold sft
     rw [show p.tk+1+a=p.tk+a+1 by omega]
    ·obtain ⟨⟨h10,h24,h13⟩,hm⟩:=hfr
     obtain ⟨h1,h2,h3⟩:=rule_lk (E:=E) (bot:=bot) hA r ⟨fun h=>by omega,fun h=>.inl (hm (h.resolve_left h22)).1,fun h=>by have:=(hm h).2;omega,fun h=>by omega⟩ { p with ru:=rest } (fun h=>.inl (good_has hgd h)) hp
     rw [hx] at h2 h3
     exact ⟨h2,h3 (.inr (.inr (Nat.le_refl _)))⟩
   rw [run_cons hs,e,hstep.2]
   exact ih r rest p2 hru hx (hfam.ru hfq) hgp hstep.1 q hq
theorem run_keep {l:List Tk} {nd:Nat} (p:Ps):(∀ x ∈ p.ru,Fam x)→GoodP nd p→Fin nd p.ru p.ex.length→∀ q,run l p=.inr q→q.sg=p.sg∧q.fm=p.fm∧q.ds=p.ds∧q.fs=p.fs∧q.ex.length=nd:=by
 refine run_ind (l:=l) (M:=fun p=>(∀ x ∈ p.ru,Fam x)→GoodP nd p→Fin nd p.ru p.ex.length→∀ q,run l p=.inr q→q.sg=p.sg∧q.fm=p.fm∧q.ds=p.ds∧q.fs=p.fs∧q.ex.length=nd) (fun p ih hf hg hn q hq=>?_) p
 cases hru:p.ru with
 | nil=>
  rw [run_nil hru] at hq
  cases hq
  rw [hru] at hn
  exact ⟨rfl,rfl,rfl,rfl,hn⟩
 | cons r rest=>
  have hgd:Good nd (r :: rest) p.ex.length p.sg.length:=by unfold GoodP at hg;rw [hru] at hg;exact hg
  have hfr:=hf r (by rw [hru];exact List.mem_cons_self)
  have hfq:∀ x ∈ rest,Fam x:=fun x hx=>hf x (by rw [hru];exact List.mem_cons_of_mem _ hx)
  rw [run_cons hru] at hq
  rw [hru] at hn
  cases hx:ruleR l r { p with ru:=rest } with
  | inl n=>rw [hx] at hq;cases hq
  | inr p2=>
   rw [hx] at hq
   simp only at hq
   have hgp:=(rule_good (p:={ p with ru:=rest }) hgd hx).1
   obtain ⟨f1,f2,f3,f4,f5,f6⟩:=fam_rule (nd:=nd) (p:={ p with ru:=rest }) hfr (good_has hgd) (fun h=>Nat.le_of_lt (good_make hgd h)) hx
   obtain ⟨g1,g2,g3,g4,g5⟩:=ih r rest p2 hru hx (f1 hfq) hgp (f6 hn) q hq
   exact ⟨g1.trans f2,g2.trans f3,g3.trans f4,g4.trans f5,g5⟩
theorem expr_inv {l:List Tk} {q:Ps} (h:exprRun l=.inr q):∃ e,run l (ps0 [r0 10])=.inr ⟨l.length,[],[e],[],[],[],[]⟩∧q=⟨l.length,[],[e],[],[],[],[]⟩:=by
 have hb:=run_bot (l:=l) (nd:=1) [r0 0] (ps0 [r0 10]) (Nat.le_refl _) (Nat.zero_le _)
 have e:sft 0 [] [r0 0] (ps0 [r0 10])=ps0 [r0 10,r0 0]:=rfl
 have h':run l (ps0 [r0 10,r0 0])=.inr q:=h
 rw [e,h'] at hb
 have hps:=run_pos (l:=l) (nd:=1) (ps0 [r0 10]) (Nat.le_refl _) (Nat.zero_le _)
 cases hx:run l (ps0 [r0 10]) with
 | inl n=>rw [hx] at hb;cases hb
 | inr q1=>
  rw [hx] at hb hps
  simp only at hb
  have hend:=run_ended l (ps0 [r0 10])
  rw [hx] at hend
  have hru:q1.ru=[]:=hend
  obtain ⟨g1,g2,g3,g4,g5⟩:=run_keep (nd:=1) (ps0 [r0 10]) (fun x hx=>by
   have:x=r0 10:=by simpa [ps0] using hx
   rw [this];exact fam_r0 (by decide)) (Nat.le_refl _) rfl q1 hx
  have hs:(sft 0 [] [r0 0] q1).ru=[r0 0]:=by unfold sft;simp [hru]
  rw [run_cons hs] at hb
  have e3:ruleR l (r0 0) { sft 0 [] [r0 0] q1 with ru:=[] }=(if q1.tk<l.length then .inl q1.tk else .inr { q1 with ru:=[] }):=rfl
  rw [e3] at hb
  by_cases hq:q1.tk<l.length
  ·rw [if_pos hq] at hb;cases hb
  ·rw [if_neg hq] at hb
   simp only at hb
   rw [run_nil rfl] at hb
   have hle:q1.tk≤l.length:=hps.2
   have htk:q1.tk=l.length:=by omega
   obtain ⟨ex,hex⟩:∃ ex,q1.ex=[ex]:=by
    match he:q1.ex,g5 with
    | [ex],_=>exact ⟨ex,rfl⟩
   obtain ⟨tk,ru,exs,sg,fm,ds,fs⟩:=q1
   simp only at hru g1 g2 g3 g4 htk hex
   subst hru g1 g2 g3 g4 htk hex
   exact ⟨ex,rfl,Sum.inr.inj hb⟩
def wrapT:Nat→List Tk→List Tk
 | 0,l=>l
 | k+1,l=>sgn sLeft :: (wrapT k l ++ [sgn sRight])
theorem wrapT_len (k:Nat) (l:List Tk):(wrapT k l).length=l.length+2 * k:=by
 induction k with
 | zero=>rfl
 | succ k ih=>simp only [wrapT,List.length_cons,List.length_append,ih,List.length_nil];omega
structure Stop (L:List Tk) (i:Nat):Prop where
 atm:isAtm L i=false
 mul:isK L i [42]=false
 div:isK L i [47]=false
 add:isK L i [43]=false
 sub:isK L i [45]=false
 eql:isK L i [61,61]=false
 lss:isK L i [60]=false
theorem stop_right {L:List Tk} {i:Nat} (h:tkAt L i=sgn sRight):Stop L i:=by
 refine ⟨?_,?_,?_,?_,?_,?_,?_⟩
 all_goals
  simp only [isAtm,isD,isK]
  rw [h]
  rfl
theorem stop_end {L:List Tk} {i:Nat} (h:L.length≤i):Stop L i:=by
 refine ⟨?_,?_,?_,?_,?_,?_,?_⟩
 all_goals
  simp only [isAtm,isD,isK]
  rw [tkAt_end h]
  rfl
theorem run_pops {L:List Tk} {i:Nat} {bot:List Ru} {ex:List Tr} (h:Stop L i):run L ⟨i,r0 20 :: r0 18 :: r0 16 :: r0 14 :: bot,ex,[],[],[],[]⟩=run L ⟨i,bot,ex,[],[],[],[]⟩:=by
 refine (run_go (r:=r0 20) (q:=r0 18 :: r0 16 :: r0 14 :: bot) rfl (p2:=⟨i,r0 18 :: r0 16 :: r0 14 :: bot,ex,[],[],[],[]⟩) ?_).trans ?_
 ·show appliedR L _=_
  unfold appliedR
  rw [show isAtm L (⟨i,r0 18 :: r0 16 :: r0 14 :: bot,ex,[],[],[],[]⟩:Ps).tk=false from h.atm]
  rfl
 refine (run_go (r:=r0 18) (q:=r0 16 :: r0 14 :: bot) rfl (p2:=⟨i,r0 16 :: r0 14 :: bot,ex,[],[],[],[]⟩) ?_).trans ?_
 ·show multipliedR L _=_
  unfold multipliedR
  rw [show (isK L (⟨i,r0 16 :: r0 14 :: bot,ex,[],[],[],[]⟩:Ps).tk [42] || isK L (⟨i,r0 16 :: r0 14 :: bot,ex,[],[],[],[]⟩:Ps).tk [47])=false by rw [show isK L _ [42]=false from h.mul,show isK L _ [47]=false from h.div];rfl]
  rfl
 refine (run_go (r:=r0 16) (q:=r0 14 :: bot) rfl (p2:=⟨i,r0 14 :: bot,ex,[],[],[],[]⟩) ?_).trans ?_
 ·show addedR L _=_
  unfold addedR
  rw [show (isK L (⟨i,r0 14 :: bot,ex,[],[],[],[]⟩:Ps).tk [43] || isK L (⟨i,r0 14 :: bot,ex,[],[],[],[]⟩:Ps).tk [45])=false by rw [show isK L _ [43]=false from h.add,show isK L _ [45]=false from h.sub];rfl]
  rfl
 refine run_go (r:=r0 14) (q:=bot) rfl ?_
 ·show comparedR L _=_
  unfold comparedR
  rw [show (isK L (⟨i,bot,ex,[],[],[],[]⟩:Ps).tk [61,61] || isK L (⟨i,bot,ex,[],[],[],[]⟩:Ps).tk [60])=false by rw [show isK L _ [61,61]=false from h.eql,show isK L _ [60]=false from h.lss];rfl]
  rfl
theorem run_down {L:List Tk} {i:Nat} {bot:List Ru} {ex:List Tr} (h:tkAt L i=sgn sLeft):run L ⟨i,r0 10 :: bot,ex,[],[],[],[]⟩=run L ⟨i,r0 21 :: r0 20 :: r0 18 :: r0 16 :: r0 14 :: bot,ex,[],[],[],[]⟩:=by
 refine (run_go (r:=r0 10) (q:=bot) rfl (p2:=⟨i,r0 15 :: r0 14 :: bot,ex,[],[],[],[]⟩) ?_).trans ?_
 ·show exprR L _=_
  have hk:∀ s,(sLeft == s)=false→isK L (⟨i,bot,ex,[],[],[],[]⟩:Ps).tk s=false:=fun s hs=>by
   show isK L i s=false
   unfold isK
   rw [h]
   show (true && (sLeft == s))=false
   rw [hs];rfl
  unfold exprR
  rw [hk sLam (by decide),hk sLet (by decide),hk sCase (by decide),hk sIf (by decide),hk sDo (by decide),hk sDos (by decide)]
  rfl
 refine (run_go (r:=r0 15) (q:=r0 14 :: bot) rfl rfl).trans ?_
 refine (run_go (r:=r0 17) (q:=r0 16 :: r0 14 :: bot) rfl rfl).trans ?_
 exact run_go (r:=r0 19) (q:=r0 18 :: r0 16 :: r0 14 :: bot) rfl rfl
theorem run_atom {L:List Tk} {i:Nat} {bot:List Ru} {ex:List Tr} (h:tkAt L i=sgn sLeft):run L ⟨i,r0 21 :: bot,ex,[],[],[],[]⟩=run L ⟨i+1,r0 10 :: rLater sRight :: bot,ex,[],[],[],[]⟩:=by
 refine run_go (r:=r0 21) (q:=bot) rfl ?_
 show atomR L _=_
 have hd:∀ k,(4:Int)≠k→isD L (⟨i,bot,ex,[],[],[],[]⟩:Ps).tk k=false:=fun k hk=>by
  show isD L i k=false
  unfold isD
  rw [h]
  exact decide_eq_false hk
 have hk:isK L (⟨i,bot,ex,[],[],[],[]⟩:Ps).tk sLeft=true:=by
  show isK L i sLeft=true
  unfold isK
  rw [h]
  rfl
 unfold atomR keyR
 rw [hd 1 (by decide),hd 2 (by decide),hd 3 (by decide),hk]
 rfl
theorem run_later {L:List Tk} {i:Nat} {bot:List Ru} {ex:List Tr} (h:tkAt L i=sgn sRight):run L ⟨i,rLater sRight :: bot,ex,[],[],[],[]⟩=run L ⟨i+1,bot,ex,[],[],[],[]⟩:=by
 refine run_go (r:=rLater sRight) (q:=bot) rfl ?_
 show keyR L sRight _=_
 have hk:isK L (⟨i,bot,ex,[],[],[],[]⟩:Ps).tk sRight=true:=by
  show isK L i sRight=true
  unfold isK
  rw [h]
  rfl
 unfold keyR
 rw [hk]
 rfl
theorem tkAt_mid (pre:List Tk) (t:Tk) (post:List Tk):tkAt (pre ++ t :: post) pre.length=t:=by
 unfold tkAt
 simp [List.getD]
theorem wrap_atom {l:List Tk} {e:Tr} (h:run l (ps0 [r0 10])=.inr ⟨l.length,[],[e],[],[],[],[]⟩):∀ (k:Nat) (pre post:List Tk) (ex:List Tr) (bot:List Ru),run (pre ++ (wrapT (k+1) l ++ post)) ⟨pre.length,r0 21 :: bot,ex,[],[],[],[]⟩=run (pre ++ (wrapT (k+1) l ++ post)) ⟨pre.length+(wrapT (k+1) l).length,bot,ex ++ [e],[],[],[],[]⟩:=by
 intro k
 induction k with
 | zero=>
  intro pre post ex bot
  have e1:pre ++ (wrapT (0+1) l ++ post)=pre ++ sgn sLeft :: (l ++ sgn sRight :: post):=by simp [wrapT]
  have e2:pre.length+(wrapT (0+1) l).length=pre.length+1+l.length+1:=by rw [wrapT_len];omega
  rw [e1,e2]
  rw [run_atom (tkAt_mid _ _ _)]
  have e3:pre ++ sgn sLeft :: (l ++ sgn sRight :: post)=(pre ++ [sgn sLeft]) ++ (l ++ sgn sRight :: post):=by simp
  have e4:pre ++ sgn sLeft :: (l ++ sgn sRight :: post)=((pre ++ [sgn sLeft]) ++ l) ++ sgn sRight :: post:=by simp
  have hat:tkAt (pre ++ sgn sLeft :: (l ++ sgn sRight :: post)) (pre.length+1+l.length)=sgn sRight:=by
   rw [e4,show pre.length+1+l.length=((pre ++ [sgn sLeft]) ++ l).length by simp;omega]
   exact tkAt_mid _ _ _
  have hA:Alike l (pre ++ sgn sLeft :: (l ++ sgn sRight :: post)) (pre.length+1) l.length true:=by
   intro i hi
   rcases Nat.lt_or_ge i l.length with hl | hl
   ·left
    unfold tkAt
    simp only [List.getD]
    rw [e3,List.getElem?_append_right (by simp),show i+(pre.length+1) - (pre ++ [sgn sLeft]).length=i by simp,List.getElem?_append_left hl]
   ·obtain rfl:i=l.length:=by omega
    right
    rw [show l.length+(pre.length+1)=pre.length+1+l.length by omega,hat]
    exact ⟨rfl,rfl,rfl,rfl⟩
  have hin:=run_in (nd:=1) (E:=ex) (bot:=rLater sRight :: bot) hA (ps0 [r0 10]) (fun x hx=>by
   have:x=r0 10:=by simpa [ps0] using hx
   rw [this];exact fam_r0 (by decide)) (Nat.le_refl _) (Nat.zero_le _) _ h
  have s1:sft (pre.length+1) ex (rLater sRight :: bot) (ps0 [r0 10])=⟨pre.length+1,r0 10 :: rLater sRight :: bot,ex,[],[],[],[]⟩:=by
   unfold sft ps0
   simp [shn_r0]
  have s2:sft (pre.length+1) ex (rLater sRight :: bot) ⟨l.length,[],[e],[],[],[],[]⟩=⟨pre.length+1+l.length,rLater sRight :: bot,ex ++ [e],[],[],[],[]⟩:=by
   unfold sft
   simp [Nat.add_comm]
  rw [s1,s2] at hin
  rw [hin]
  exact run_later hat
 | succ k ih=>
  intro pre post ex bot
  have e1:pre ++ (wrapT (k+1+1) l ++ post)=pre ++ sgn sLeft :: (wrapT (k+1) l ++ sgn sRight :: post):=by simp [wrapT]
  have e2:pre.length+(wrapT (k+1+1) l).length=pre.length+1+(wrapT (k+1) l).length+1:=by rw [wrapT_len,wrapT_len];omega
  rw [e1,e2,run_atom (tkAt_mid _ _ _)]
  have e3:pre ++ sgn sLeft :: (wrapT (k+1) l ++ sgn sRight :: post)=(pre ++ [sgn sLeft]) ++ (wrapT (k+1) l ++ sgn sRight :: post):=by simp
  have e5:(pre ++ [sgn sLeft]) ++ (wrapT (k+1) l ++ sgn sRight :: post)=(pre ++ [sgn sLeft]) ++ sgn sLeft :: ((wrapT k l ++ [sgn sRight]) ++ sgn sRight :: post):=by simp [wrapT]
  have e6:(pre ++ [sgn sLeft]).length=pre.length+1:=by simp
  have hlf:tkAt ((pre ++ [sgn sLeft]) ++ (wrapT (k+1) l ++ sgn sRight :: post)) (pre.length+1)=sgn sLeft:=by
   rw [e5,← e6]
   exact tkAt_mid _ _ _
  have hat:tkAt ((pre ++ [sgn sLeft]) ++ (wrapT (k+1) l ++ sgn sRight :: post)) (pre.length+1+(wrapT (k+1) l).length)=sgn sRight:=by
   rw [← List.append_assoc,show pre.length+1+(wrapT (k+1) l).length=((pre ++ [sgn sLeft]) ++ wrapT (k+1) l).length by simp;omega]
   exact tkAt_mid _ _ _
  rw [e3,run_down hlf]
  have:=ih (pre ++ [sgn sLeft]) (sgn sRight :: post) ex (r0 20 :: r0 18 :: r0 16 :: r0 14 :: rLater sRight :: bot)
  rw [e6] at this
  rw [this,run_pops (stop_right hat)]
  exact run_later hat
theorem wraps_one {l:List Tk} {q:Ps} (h:exprRun l=.inr q) (k:Nat):∃ e,q.ex=[e]∧(∃ q1,exprRun (wrapT (k+1) l)=.inr q1∧q1.ex=[e])∧∃ q2,exprRun (wrapT (k+1) l ++ wrapT (k+1) l)=.inr q2∧q2.ex=[⟨5,[],0,[],[e,e]⟩]:=by
 obtain ⟨e,h1,rfl⟩:=expr_inv h
 have hend:∀ (L:List Tk) (ex:List Tr),run L ⟨L.length,[r0 0],ex,[],[],[],[]⟩=.inr ⟨L.length,[],ex,[],[],[],[]⟩:=fun L ex=>by
  refine (run_go (r:=r0 0) (q:=[]) rfl (p2:=⟨L.length,[],ex,[],[],[],[]⟩) ?_).trans (run_nil rfl)
  show endR L _=_
  unfold endR
  rw [if_neg (by show ¬ L.length<L.length;omega)]
 have hl0:∀ r:List Tk,tkAt (wrapT (k+1) l ++ r) 0=sgn sLeft:=fun r=>rfl
 refine ⟨e,rfl,⟨⟨(wrapT (k+1) l).length,[],[e],[],[],[],[]⟩,?_,rfl⟩,⟨⟨(wrapT (k+1) l ++ wrapT (k+1) l).length,[],[⟨5,[],0,[],[e,e]⟩],[],[],[],[]⟩,?_,rfl⟩⟩
 ·have h2:=wrap_atom h1 k [] [] [] [r0 20,r0 18,r0 16,r0 14,r0 0]
  simp only [List.nil_append,List.append_nil,List.length_nil,Nat.zero_add] at h2
  show run _ ⟨0,[r0 10,r0 0],[],[],[],[],[]⟩=_
  rw [run_down rfl,h2,run_pops (stop_end (Nat.le_refl _))]
  exact hend _ _
 ·have h2:=wrap_atom h1 k [] (wrapT (k+1) l) [] [r0 20,r0 18,r0 16,r0 14,r0 0]
  simp only [List.nil_append,List.length_nil,Nat.zero_add] at h2
  have h3:=wrap_atom h1 k (wrapT (k+1) l) [] [e] [rMake (kindT 5) 0,r0 20,r0 18,r0 16,r0 14,r0 0]
  simp only [List.append_nil] at h3
  show run _ ⟨0,[r0 10,r0 0],[],[],[],[],[]⟩=_
  have hm:tkAt (wrapT (k+1) l ++ wrapT (k+1) l) (wrapT (k+1) l).length=sgn sLeft:=tkAt_mid (wrapT (k+1) l) (sgn sLeft) (wrapT k l ++ [sgn sRight])
  rw [run_down rfl,h2]
  refine (run_go (r:=r0 20) (q:=[r0 18,r0 16,r0 14,r0 0]) rfl (p2:=⟨(wrapT (k+1) l).length,r0 21 :: [rMake (kindT 5) 0,r0 20,r0 18,r0 16,r0 14,r0 0],[e],[],[],[],[]⟩) ?_).trans ?_
  ·show appliedR _ _=_
   unfold appliedR
   have ha:isAtm (wrapT (k+1) l ++ wrapT (k+1) l) (wrapT (k+1) l).length=true:=by
    simp only [isAtm,isD,isK]
    rw [hm]
    rfl
   rw [show isAtm (wrapT (k+1) l ++ wrapT (k+1) l) (⟨(wrapT (k+1) l).length,[r0 18,r0 16,r0 14,r0 0],[e],[],[],[],[]⟩:Ps).tk=true from ha]
   rfl
  rw [h3]
  refine (run_go (r:=rMake (kindT 5) 0) (q:=[r0 20,r0 18,r0 16,r0 14,r0 0]) rfl (p2:=⟨(wrapT (k+1) l).length+(wrapT (k+1) l).length,[r0 20,r0 18,r0 16,r0 14,r0 0],[⟨5,[],0,[],[e,e]⟩],[],[],[],[]⟩) rfl).trans ?_
  rw [run_pops (stop_end (by rw [List.length_append];exact Nat.le_refl _)),← List.length_append]
  exact hend _ _
open Go.RowKit Go.Shelf
variable {α:Type}
def OwnB (B:Nat) (J:List α→World→Prop):Prop:=∀ s W W' row,J s W→W.grownBy W' row→(∀ r,row=some r→B≤r)→J s W'
theorem OwnB.obj {B:Nat} {J:List α→World→Prop} (h:OwnB B J) {s:List α} {W:World} {l:Nat} (o:Obj) (hs:J s W) (hl:B≤l):J s (W.putObj l o):=h s W _ (some l) hs (grownBy_putObj' W l o) (fun r e=>by cases e;exact hl)
theorem OwnB.new {B:Nat} {J:List α→World→Prop} (h:OwnB B J) {s:List α} {W:World} (o:Obj) (hs:J s W):J s (W.alloc o):=h s W _ none hs (World.grownBy_alloc W o none) (fun r e=>by cases e)
def ItC (n gf:Nat) (lb:Array Value) (encs:α→Array Value) (Kp:World→World→Prop) (S Sp:List α→Prop) (N:Nat) (w:World):Prop:=
 ∀ (l:Nat) (J Jx:List α→World→Prop) (W:World),Below w.heap.size w W→OwnB W.heap.size J→OwnB W.heap.size Jx →
  (∀ pre x W1,J pre W1→pre.length<N→YieldAt Fence.wide (n - 1) Tryz.prog l (encs x) W1 fun e W'=>(e=.returned (.bool true)∧J (pre ++ [x]) W'∧Kp W1 W')∨(e=.returned (.bool false)∧Jx (pre ++ [x]) W')) →
  J [] W→CallsIn Fence.wide n Tryz.prog gf (#[.func (.yield l) #[] #[]] ++ lb) W fun e W'=>(∃ v,e=.returned v)∧((∃ xs,S xs∧J xs W')∨(∃ pre,Sp pre∧Jx pre W'))
def leaves (B:Nat) (Kp:World→World→Prop) (I Ix:List α→World→Prop) (xs:List α) (W:World):Exit→Act→World→Prop
 | .normal,_,W'=>KeepsFrom B W W'∧Kp W W'∧I xs W'
 | .ret,_,W'=>KeepsFrom B W W'∧Ix xs W'
 | _,_,_=>False
theorem range_cells {n gf N:Nat} {lb:Array Value} {encs:α→Array Value} {Kp:World→World→Prop} {S Sp:List α→Prop} {g:Operand} {ps:Array Tmp} {assign body:Code} {Q:Exit→Act→World→Prop} {a:Act} {w:World} (h1:1≤n)
 (hg:a.eval g=.func (.func gf) #[] lb) (eg:∀ args w,(callFunc gf args).run Tryz.prog w=.ok (.enter gf args) w) (hit:ItC (n - 1) gf lb encs Kp S Sp N w)
 (hKt:∀ {A B C:World},Kp A B→Kp B C→Kp A C) (hKb:∀ (W:World) (l:Nat) (o o':Obj),w.heap.size≤l→W.heap[l]?=some o→o.isCells=false→o.isWalk=false→Kp W (W.putObj l o')) (hps:∀ x,(encs x).size=ps.size)
 (I Ix:List α→World→Prop) (hI:OwnB w.heap.size I) (hIx:OwnB w.heap.size Ix) (h0:I [] w) (a₁:α→World→Act) (w₁:α→World→World) (hw₁:∀ x W,w.heap.size+2≤W.heap.size→W.grownBy (w₁ x W) none∧Kp W (w₁ x W))
 (hassign:∀ (l:Nat) (x:α) (W:World) (K:Act→World→Prop),K (a₁ x W) (w₁ x W)→assign.wpIn (Fence.wide.inRound l) (n - 1 - 1) Tryz.prog (Exit.then K (fun _ _ _=>False)) { tmps:=(ps.zip (encs x)).foldl (fun t (p,v)=>t.setIfInBounds p v) a.tmps,defers:=[] } W)
 (hbody:∀ (l:Nat) (pre:List α) (x:α) (W X:World),w.heap.size+2≤W.heap.size→X.heap.size=(w₁ x W).heap.size→(∀ k,k≠w.heap.size+1→X.heap[k]?=(w₁ x W).heap[k]?)→I pre X→pre.length<N→body.wpIn (Fence.wide.inRound l) (n - 1 - 1) Tryz.prog (leaves w.heap.size Kp I Ix (pre ++ [x]) X) (a₁ x W) X)
 (hdone:∀ (xs:List α) (W:World),S xs→I xs W→W.heap[w.heap.size]?=some (.deferred (some []))→Q .normal { a with defers:={ target:=.collected w.heap.size,args:=#[] } :: a.defers } W)
 (hstop:∀ (pre:List α) (W:World),Sp pre→Ix pre W→W.heap[w.heap.size]?=some (.deferred (some []))→Code.ret.wpIn Fence.wide n Tryz.prog Q { a with defers:={ target:=.collected w.heap.size,args:=#[] } :: a.defers } W) :
 (Code.rangeFunc g ps assign body).wpIn Fence.wide n Tryz.prog Q a w:=by
 refine wpIn_rangeFunc fun fn hfn=>?_
 obtain ⟨R,hR⟩:∃ R:LoopState→Option Code→Loop,R=fun st pe=>{ state:=st,pending:=pe,fn,tmps:=a.tmps,params:=ps,assign,body,defers:=w.heap.size }:=⟨_,rfl⟩
 obtain ⟨V,hV⟩:∃ V,V=(w.alloc (.deferred (some []))).alloc (.loop (R .ready none)):=⟨_,rfl⟩
 have vs:V.heap.size=w.heap.size+2:=by rw [hV];simp
 have vl:V.heap[w.heap.size+1]?=some (.loop (R .ready none)):=by
  rw [hV];have:=World.alloc_heap_new (w.alloc (.deferred (some []))) (.loop (R .ready none));rwa [World.size_alloc] at this
 have vd:V.heap[w.heap.size]?=some (.deferred (some [])):=by
  rw [hV];exact (Below.heap_alloc _ _ _ (by simp)).trans (World.alloc_heap_new w _)
 have vi:I [] V:=by rw [hV];exact hI.new _ (hI.new _ h0)
 have vb:Below w.heap.size w V:=by rw [hV];exact ((Below.refl _ w).alloc (Nat.le_refl _) _).alloc (by simp) _
 have stay:∀ {A B:World} {row:Option Nat} {k:Nat} {o:Obj},A.grownBy B row→(∀ r,row=some r→V.heap.size≤r)→k<w.heap.size+2→A.heap[k]?=some o→B.heap[k]?=some o:=by
  intro A B row k o hgr hr hk ho
  exact (hgr.block k (Array.getElem?_eq_some_iff.1 ho).1 (fun e=>by have:=hr k e.symm;omega)).trans ho
 refine ⟨w.heap.size+1,[{ target:=.collected w.heap.size,args:=#[] }],V,{ target:=.fn (.func gf) lb,args:=#[.func (.yield (w.heap.size+1)) #[] #[]] },V,gf,#[.func (.yield (w.heap.size+1)) #[] #[]] ++ lb,V,?_,?_,?_,?_,fun _=>h1,?_⟩
 ·rw [hV,hR];exact run_enterLoop_outer _ _ _ _ _
 ·simp only [resolve,hg]
  simp [go_sem]
 ·exact fun _ _=>trivial
 ·simp [invoke,go_sem,eg]
 ·refine (hit (w.heap.size+1) (fun pre W=>I pre W∧W.heap[w.heap.size+1]?=some (.loop (R .ready none))∧W.heap[w.heap.size]?=some (.deferred (some [])))
   (fun pre W=>Ix pre W∧W.heap[w.heap.size+1]?=some (.loop (R .done (some .ret)))∧W.heap[w.heap.size]?=some (.deferred (some []))) V vb
   (fun s A B row hs hgr hr=>⟨hI s A B row hs.1 hgr (fun r e=>by have:=hr r e;omega),stay hgr hr (by omega) hs.2.1,stay hgr hr (by omega) hs.2.2⟩)
   (fun s A B row hs hgr hr=>⟨hIx s A B row hs.1 hgr (fun r e=>by have:=hr r e;omega),stay hgr hr (by omega) hs.2.1,stay hgr hr (by omega) hs.2.2⟩) ?_ ⟨vi,vl,vd⟩).mono ?_
  ·rintro pre x W0 ⟨hi0,hl0,hk0⟩ hlen
   have hlt0:w.heap.size+1<W0.heap.size:=(Array.getElem?_eq_some_iff.1 hl0).1
   have hgr:=(hw₁ x W0 (by omega)).1
   obtain ⟨W,hWe⟩:∃ W,W=w₁ x W0:=⟨_,rfl⟩
   have hi:I pre W:=by rw [hWe];exact hI _ _ _ none hi0 hgr (fun r e=>by cases e)
   have hl:W.heap[w.heap.size+1]?=some (.loop (R .ready none)):=by rw [hWe];exact (hgr.block _ hlt0 (by simp)).trans hl0
   have hk:W.heap[w.heap.size]?=some (.deferred (some [])):=by rw [hWe];exact (hgr.block _ (by omega) (by simp)).trans hk0
   have hkp0:Kp W0 W:=by rw [hWe];exact (hw₁ x W0 (by omega)).2
   have hlt:w.heap.size+1<W.heap.size:=(Array.getElem?_eq_some_iff.1 hl).1
   have hy:=run_yield (P:=Tryz.prog) (args:=encs x) hl0 (by rw [hR];exact hps x)
   rw [hR] at hy
   refine ⟨fn,_,assign,body,hy,roundIn_of_wpIn hfn (hassign _ x W0 _ ⟨_,by rw [← hWe];exact run_beginRound hl (by rw [hR]),?_⟩)⟩
   obtain ⟨X,hX⟩:∃ X,X=W.putObj (w.heap.size+1) (.loop { R .ready none with state:=.busy }):=⟨_,rfl⟩
   have xl:X.heap[w.heap.size+1]?=some (.loop { R .ready none with state:=.busy }):=by rw [hX];exact World.putObj_heap_same hlt
   have xk:X.heap[w.heap.size]?=some (.deferred (some [])):=by rw [hX];exact (World.putObj_heap_other (by omega)).trans hk
   have xp:Kp W X:=by rw [hX];exact hKb _ _ _ _ (by omega) hl rfl rfl
   have xi:I pre X:=by rw [hX];exact hI.obj _ hi (by omega)
   rw [← hX]
   refine wpIn_mono (hbody _ pre x W0 X (by omega) (by rw [hX,← hWe];simp [World.putObj]) (fun k hk'=>by rw [hX,← hWe];exact World.putObj_heap_other hk') xi hlen) ?_
   intro e a3 Y hp
   have last:∀ (jump:Option Code),KeepsFrom w.heap.size X Y→(Instr.endRound (w.heap.size+1) jump).run Tryz.prog Y=.ok (.bool jump.isNone) (Y.putObj (w.heap.size+1) (.loop (R (if jump.isNone then .ready else .done) jump)))∧Y.heap[w.heap.size+1]?=some (.loop { R .ready none with state:=.busy }) ∧
    (Y.putObj (w.heap.size+1) (.loop (R (if jump.isNone then .ready else .done) jump))).heap[w.heap.size+1]?=some (.loop (R (if jump.isNone then .ready else .done) jump))∧(Y.putObj (w.heap.size+1) (.loop (R (if jump.isNone then .ready else .done) jump))).heap[w.heap.size]?=some (.deferred (some [])):=by
    intro jump hkf
    have yl:=hkf.same _ _ (by omega) xl rfl
    have ye:=run_endRound (P:=Tryz.prog) jump yl
    rw [hR] at ye ⊢
    exact ⟨ye,by rw [hR] at yl;exact yl,World.putObj_heap_same (Array.getElem?_eq_some_iff.1 yl).1,(World.putObj_heap_other (by omega)).trans (hkf.same _ _ (Nat.le_refl _) xk rfl)⟩
   cases e with
   | normal=>
    obtain ⟨hkf,hkp,hi3⟩:=hp
    obtain ⟨l1,l2,l3,l4⟩:=last none hkf
    exact ⟨_,_,l1,.inl ⟨rfl,⟨hI.obj _ hi3 (by omega),l3,l4⟩,hKt hkp0 (hKt (hKt xp hkp) (hKb _ _ _ _ (by omega) l2 rfl rfl))⟩⟩
   | ret=>
    obtain ⟨hkf,hi3⟩:=hp
    obtain ⟨l1,l2,l3,l4⟩:=last (some .ret) hkf
    exact ⟨_,_,l1,.inr ⟨rfl,hIx.obj _ hi3 (by omega),l3,l4⟩⟩
   | exit id=>exact hp.elim
   | goto t=>exact hp.elim
   | panic ch=>exact hp.elim
   | outgrown=>exact hp.elim
  ·rintro e Z ⟨⟨v,rfl⟩,⟨xs,hS,hi,hl,hk⟩ | ⟨pre,hSp,hi,hl,hk⟩⟩
   ·refine ⟨none,_,(by have:=run_endLoop (P:=Tryz.prog) hl (by rw [hR];simp);rw [hR] at this;exact this),hdone xs _ hS (hI.obj _ hi (by omega)) ((World.putObj_heap_other (by omega)).trans hk)⟩
   ·refine ⟨some .ret,_,(by have:=run_endLoop (P:=Tryz.prog) hl (by rw [hR];simp);rw [hR] at this;exact this),hstop pre _ hSp (hIx.obj _ hi (by omega)) ((World.putObj_heap_other (by omega)).trans hk)⟩
end Go.Proofs.YtcnnlecjdkfdjaaGreatDoor
