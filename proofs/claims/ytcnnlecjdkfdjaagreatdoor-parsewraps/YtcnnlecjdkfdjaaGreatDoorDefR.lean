/- Parts of the proof. -/
import Derived.Test.YtcnnlecjdkfdjaaGreatDoorAtomR
set_option linter.unusedVariables false
set_option linter.unusedSimpArgs false
set_option maxRecDepth 100000
set_option maxHeartbeats 8000000
namespace Go.Proofs.YtcnnlecjdkfdjaaGreatDoor
open Go.RowKit
theorem form_rule {c:Nat→Nat} {B:Nat} {l:List Tk} {p:Ps} {w:World} (hP:PM c B l p w) (hn:p.ru.length≤1000000000) :
 Calls Tryz.prog 219 #[.pointer (some ⟨B,0,none⟩)] w (RQ c B l w (formR l p)):=by
 have hmf:=mkf
 have HP0:=zz ((PW.start hP).alloc (.cells #[pB B] 58))
 have HBX:=zz (Hold.new w #[pB B] 58)
 have ht:=((PW.start hP).token p.tk).1
 have h0:0<w.heap.size:=Nat.lt_of_le_of_lt (Nat.zero_le _) HP0.out.ltB
 obtain ⟨X,HX0⟩:∃ X,Hid (X=formR l p):=⟨_,rfl⟩
 rw [← HX0.out]
 clear hP
 go_enter Tryz.func219,Tryz.ntmps219
 go_wp2_with fail
 refine (conX HP0.out).mono ?_
 rintro r w1 (⟨rfl,hk,hp⟩ | ⟨rfl,hk,hp,hf⟩)
 ·have HR:Hid (RQ c B l w X (.panicked stuckV) w1):=by
   show RQ c B l w X (.panicked stuckV) w1
   rw [HX0.out.trans (take_st hk)]
   exact hp.stuck rfl
  clear hk hp
  unfold stuckV at *
  go_wp2_with fail
  exact ⟨rfl,HR.out⟩
 have HX1:=zz (HX0.out.trans (take_go hk))
 have hz1:=hp.size
 have hbx:=hf.hold (Nat.le_refl _) HBX.out
 have HP2:=zz (hp.alloc (.cells #[.string (S (tkAt l p.tk).tx),.slice none 0 0] 121))
 have HB2:=zz (hbx.alloc (.cells #[.string (S (tkAt l p.tk).tx),.slice none 0 0] 121))
 have HF2:=zz (Hold.new w1 #[.string (S (tkAt l p.tk).tx),.slice none 0 0] 121)
 have hl1:=hbx.lt
 have a1:=HB2.out.cell 0
 simp only [lGA,lGZ] at a1
 clear hk hp hf hbx
 go_wp2_with fail
 have hT:=thenX (m:=2) (cap:=2) HP2.out [r0 8,rForm (tkAt l p.tk).tx] (L:=[mth B 8,.func (.func 237) #[] #[bx w1.heap.size,bx w.heap.size]]) w1.heap.size (10+(p.ru.length+0)) hn rfl (by decide) (by simp) ⟨⟨by decide,by decide,rfl⟩,⟨w1.heap.size,w.heap.size,rfl,colN_new (Nat.le_refl _) (by omega),colN_own hz1,HB2.out,HF2.out,ht⟩,trivial⟩
 rw [World.size_alloc] at hT
 refine hT.mono ?_
 rintro r w3 ⟨rfl,hq⟩
 have HQ:=zz hq
 clear hq hT
 go_wp2_with fail
 go_end0
 rw [HX1.out]
 exact ⟨rfl,HQ.out⟩
end Go.Proofs.YtcnnlecjdkfdjaaGreatDoor
namespace Go.Proofs.YtcnnlecjdkfdjaaGreatDoor
open Go.RowKit Go.Shelf
theorem later_rule {c:Nat→Nat} {B:Nat} {l:List Tk} {p:Ps} {w:World} {b1 b2:Nat} {s:List UInt8} (hP:PM c B l p w) (c1:c b1=0) (c2:c b2=0) (h1:Hold b1 #[pB B] 58 w) (h2:Hold b2 #[.string (S s)] 9 w) :
 Calls Tryz.prog 140 #[.pointer (some ⟨b1,0,none⟩),.pointer (some ⟨b2,0,none⟩)] w (RQ c B l w (keyR l s p)):=by
 have h:=PW.start hP
 obtain ⟨tp,tc,vr,ve,vs,vf,vd,vp,hL⟩:=h.look
 unfold keyR
 cases hk:isK l p.tk s
 ·refine (later1_no hL (h1.cell 0) (h2.cell 0) hk).mono ?_
  rintro r w' ⟨rfl,hb⟩
  exact (h.below hb).stuck rfl
 ·refine (later1_yes hL (h1.cell 0) (h2.cell 0) hk).mono ?_
  rintro r w' ⟨rfl,hh,hkp⟩
  exact (h.taken hkp hL.hold hh (by have:=isK_lt hk;have:=hL.max;omega)).done
theorem end_rule {c:Nat→Nat} {B:Nat} {l:List Tk} {p:Ps} {w:World} (hP:PM c B l p w) :
 Calls Tryz.prog 56 #[.pointer (some ⟨B,0,none⟩)] w (RQ c B l w (endR l p)):=by
 have h:=PW.start hP
 obtain ⟨tp,tc,vr,ve,vs,vf,vd,vp,hL⟩:=h.look
 unfold endR
 by_cases hk:p.tk<l.length
 ·rw [if_pos hk]
  refine (end_no hL hk).mono ?_
  rintro r w' ⟨rfl,hb⟩
  exact (h.below hb).stuck rfl
 ·rw [if_neg hk]
  refine (end_yes hL hk).mono ?_
  rintro r w' ⟨rfl,hb⟩
  exact (h.below hb).done
structure Bd (p:Ps):Prop where
 ru:p.ru.length≤1000000000
 ex:p.ex.length≤1000000000
 sg:p.sg.length≤1000000000
 fm:p.fm.length≤1000000000
 ds:p.ds.length≤1000000000
 fs:p.fs.length≤1000000000
 r9:p.ru.length≤900000000
theorem rule_call {c:Nat→Nat} {B:Nat} {l:List Tk} {p:Ps} {w:World} {nd:Nat} {v:Value} {r:Ru} (hdecl:∀ (c:Nat→Nat) (p:Ps) (w:World),PM c B l p w→Bd p→Calls Tryz.prog 139 #[.pointer (some ⟨B,0,none⟩)] w (RQ c B l w (declR l p))) (hP:PM c B l p w) (hv:RuV B c w p.ru.length v r) (hg:Good nd (r :: p.ru) p.ex.length p.sg.length) (hb:Bd p) :
 ∃ K first cap,v=.func (.func K) first cap∧(∀ args w,(callFunc K args).run Tryz.prog w=.ok (.enter K args) w)∧Calls Tryz.prog K (first ++ cap) w (RQ c B l w (ruleR l r p)):=by
 obtain ⟨k,s,j,t,n,ns⟩:=r
 unfold Good at hg
 simp only at hg
 unfold ruleR
 simp only
 have hv':=hv
 unfold RuV at hv'
 simp only at hv'
 split at hg <;> simp only at hg hv' ⊢
 ·exact ⟨_,_,_,hv'.2.2,enters_of Tryz.func56 (by kernel_rfl) rfl,end_rule hP⟩
 ·exact ⟨_,_,_,hv'.2.2,enters_of Tryz.func34 (by kernel_rfl) rfl,prog_rule hP hb.ru⟩
 ·exact ⟨_,_,_,hv'.2.2,enters_of Tryz.func75 (by kernel_rfl) rfl,decls_rule hP hb.ru⟩
 ·exact ⟨_,_,_,hv'.2.2,enters_of Tryz.func139 (by kernel_rfl) rfl,hdecl c p w hP hb⟩
 ·exact ⟨_,_,_,hv'.2.2,enters_of Tryz.func219 (by kernel_rfl) rfl,form_rule hP hb.ru⟩
 ·exact ⟨_,_,_,hv'.2.2,enters_of Tryz.func245 (by kernel_rfl) rfl,sig_any hP hb.ru⟩
 ·exact ⟨_,_,_,hv'.2.2,enters_of Tryz.func251 (by kernel_rfl) rfl,arrow_rule hg.1 hb.sg hP hb.ru⟩
 ·exact ⟨_,_,_,hv'.2.2,enters_of Tryz.func250 (by kernel_rfl) rfl,sigApp_rule hb.sg (fun c' W h=>sigAtom_rule hb.sg h hb.ru) hP hb.ru⟩
 ·exact ⟨_,_,_,hv'.2.2,enters_of Tryz.func236 (by kernel_rfl) rfl,sigAtoms_rule hP hb.ru⟩
 ·exact ⟨_,_,_,hv'.2.2,enters_of Tryz.func242 (by kernel_rfl) rfl,sigAtom_rule hb.sg hP hb.ru⟩
 ·exact ⟨_,_,_,hv'.2.2,enters_of Tryz.func26 (by kernel_rfl) rfl,expr_rule hb.ex hP hb.ru⟩
 ·exact ⟨_,_,_,hv'.2.2,enters_of Tryz.func118 (by kernel_rfl) rfl,alt_rule hb.ex hP hb.ru⟩
 ·exact ⟨_,_,_,hv'.2.2,enters_of Tryz.func120 (by kernel_rfl) rfl,line_rule hb.ex hP hb.ru⟩
 ·exact ⟨_,_,_,hv'.2.2,enters_of Tryz.func122 (by kernel_rfl) rfl,compared_rule hg.1 hb.ex hP hb.ru⟩
 ·exact ⟨_,_,_,hv'.2.2,enters_of Tryz.func121 (by kernel_rfl) rfl,sum_any hP hb.ru⟩
 ·exact ⟨_,_,_,hv'.2.2,enters_of Tryz.func179 (by kernel_rfl) rfl,added_rule hg.1 hb.ex hP hb.ru⟩
 ·exact ⟨_,_,_,hv'.2.2,enters_of Tryz.func178 (by kernel_rfl) rfl,product_any hP hb.ru⟩
 ·exact ⟨_,_,_,hv'.2.2,enters_of Tryz.func215 (by kernel_rfl) rfl,multiplied_rule hg.1 hb.ex hP hb.ru⟩
 ·exact ⟨_,_,_,hv'.2.2,enters_of Tryz.func214 (by kernel_rfl) rfl,app_any hP hb.ru⟩
 ·exact ⟨_,_,_,hv'.2.2,enters_of Tryz.func233 (by kernel_rfl) rfl,applied_rule hg.1 hb.ex hP hb.ru⟩
 ·exact ⟨_,_,_,hv'.2.2,enters_of Tryz.func232 (by kernel_rfl) rfl,atom_rule hb.ex hP hb.ru⟩
 ·obtain ⟨b1,b2,rfl,c1,c2,h1,h2⟩:=hv'
  exact ⟨_,_,_,rfl,enters_of Tryz.func140 (by kernel_rfl) rfl,later_rule hP c1 c2 h1 h2⟩
 ·obtain ⟨b1,b2,b3,rfl,c1,c2,c3,h1,h2,h3⟩:=hv'
  refine ⟨_,_,_,rfl,enters_of Tryz.func176 (by kernel_rfl) rfl,more1_any hP hb.ru ?_ ⟨b1,b2,b3,rfl,c1,c2,c3,h1,h2,h3⟩⟩
  rcases hg with ⟨rfl,_⟩ | ⟨rfl,_⟩ | ⟨rfl | rfl,_⟩ <;> decide
 ·obtain ⟨e,bp,bf,pn,cn,rfl,h⟩:=hv'
  exact ⟨_,_,_,rfl,enters_of Tryz.func173 (by kernel_rfl) rfl,making1_any hP ⟨e,bp,bf,pn,cn,rfl,h⟩ hg.1 hb.ex⟩
 ·obtain ⟨b1,b2,b3,rfl,h⟩:=hv'
  exact ⟨_,_,_,rfl,enters_of Tryz.func260 (by kernel_rfl) rfl,makingSig1_any hP ⟨b1,b2,b3,rfl,h⟩ hg.1 hb.sg⟩
 ·obtain ⟨bp,bd,pn,cn,rfl,h⟩:=hv'
  exact ⟨_,_,_,rfl,enters_of Tryz.func220 (by kernel_rfl) rfl,data1_any hP ⟨bp,bd,pn,cn,rfl,h⟩ hb.ds hb.fm⟩
 ·obtain ⟨bf,bp,rfl,h⟩:=hv'
  exact ⟨_,_,_,rfl,enters_of Tryz.func237 (by kernel_rfl) rfl,form1_any hP ⟨bf,bp,rfl,h⟩ hb.fm hb.sg⟩
 ·obtain ⟨bp,bd,rfl,h⟩:=hv'
  exact ⟨_,_,_,rfl,enters_of Tryz.func221 (by kernel_rfl) rfl,def1_any hP ⟨bp,bd,rfl,h⟩ hb.fs hg.1 hb.ex⟩
end Go.Proofs.YtcnnlecjdkfdjaaGreatDoor
namespace Go.Proofs.YtcnnlecjdkfdjaaGreatDoor
open Go.RowKit
theorem catch_stuck (w:World) :
 CallsD Tryz.prog 54 #[] (.panicking stuckV) w fun e u' w'=>e=.returned (.tuple #[])∧u'=.panicking [{ v:=.iface 98 (.agg #[]),recovered:=true }]∧w'=w:=by
 refine callsD_of_wpS Tryz.func54 rfl fun c₀ cs hu=>?_
 unfold stuckV at hu
 apply wpS_seq
 apply wpS_region
 simp [wpOpsS,go_sem,recoverD,hu,Tryz.ntmps54,Exit.thenS]
 refine wpS_of_wp ?_
 have hta:∀ W:World,(Instr.typeAssert (.iface 98 (.agg #[])) 20 98 true).run Tryz.prog W=.ok (.tuple #[.agg #[],.bool true]) W:=fun W=>by kernel_rfl
 have he:∀ W:World,(binOp .eql 20 (.iface 98 (.agg #[])) .nilIface).run Tryz.prog W=.ok (.bool false) W:=fun W=>by kernel_rfl
 simp only [Array.replicate_succ,Array.replicate_zero,List.push_toArray,List.append_toArray,List.nil_append,List.cons_append,lSI,lSZ,lSS]
 go_wp2_with fail
 simp [bodyPostS,results,Tryz.results54]
theorem catch_idle (w:World) :
 CallsD Tryz.prog 54 #[] .returning w fun e u' w'=>e=.returned (.tuple #[])∧u'=.returning∧w'=w:=by
 refine callsD_of_wpS Tryz.func54 rfl fun c₀ cs hu=>?_
 apply wpS_seq
 apply wpS_region
 simp [wpOpsS,go_sem,recoverD,hu,Tryz.ntmps54,Exit.thenS]
 refine wpS_of_wp ?_
 have hta:∀ W:World,(Instr.typeAssert .nilIface 20 98 true).run Tryz.prog W=.ok (.tuple #[.agg #[],.bool false]) W:=fun W=>by kernel_rfl
 have he:∀ W:World,(binOp .eql 20 .nilIface .nilIface).run Tryz.prog W=.ok (.bool true) W:=fun W=>by kernel_rfl
 simp only [Array.replicate_succ,Array.replicate_zero,List.push_toArray,List.append_toArray,List.nil_append,List.cons_append,lSI,lSZ,lSS]
 go_wp2_with fail
 cases c₀
 simp_all [bodyPostS,results,Tryz.results54]
end Go.Proofs.YtcnnlecjdkfdjaaGreatDoor
namespace Go.Proofs.YtcnnlecjdkfdjaaGreatDoor
def runF (l:List Tk):Nat→Ps→Rs
 | 0,p=>.inr p
 | n+1,p=>match p.ru with
  | []=>.inr p
  | r :: q=>match ruleR l r { p with ru:=q } with
   | .inl k=>.inl k
   | .inr p'=>runF l n p'
theorem runF_cons {l:List Tk} {n:Nat} {p:Ps} {r:Ru} {q:List Ru} (h:p.ru=r :: q):runF l (n+1) p=(match ruleR l r { p with ru:=q } with | .inl k=>.inl k | .inr p2=>runF l n p2):=by
 rw [runF.eq_2]
 rw [h]
def Ended (x:Rs):Prop:=match x with
 | .inl _=>True
 | .inr q=>q.ru=[]
theorem runF_nil {l:List Tk} {n:Nat} {p:Ps} (h:p.ru=[]):runF l n p=.inr p:=by
 cases n with
 | zero=>rfl
 | succ n=>rw [runF.eq_2,h]
theorem runF_more {l:List Tk}:∀ {n m:Nat} {p:Ps},Ended (runF l n p)→n≤m→runF l m p=runF l n p:=by
 intro n
 induction n with
 | zero=>intro m p h _;exact runF_nil h
 | succ n ih=>
  intro m p h hm
  obtain ⟨m,rfl⟩:∃ k,m=k+1:=⟨m - 1,by omega⟩
  cases hru:p.ru with
  | nil=>rw [runF_nil hru,runF_nil hru]
  | cons r q=>
   rw [runF_cons hru] at h
   rw [runF_cons hru,runF_cons hru]
   cases hx:ruleR l r { p with ru:=q } with
   | inl k=>rfl
   | inr p2=>
    rw [hx] at h
    exact ih h (by omega)
theorem wtR_pos (r:Ru):1≤wtR r:=by unfold wtR;split <;> omega
theorem wt_pos {l:List Tk} {p:Ps} {r:Ru} {q:List Ru} (h:p.ru=r :: q):1≤wtP l p:=by
 have:=wtR_pos r
 unfold wtP
 rw [h]
 simp only [List.map_cons,List.sum_cons]
 omega
theorem runF_end {l:List Tk}:∀ {n:Nat} {p:Ps},wtP l p≤n→Ended (runF l n p):=by
 intro n
 induction n with
 | zero=>
  intro p h
  cases hru:p.ru with
  | nil=>exact hru
  | cons r q=>have:=wt_pos (l:=l) hru;omega
 | succ n ih=>
  intro p h
  cases hru:p.ru with
  | nil=>rw [runF_nil hru];exact hru
  | cons r q=>
   rw [runF_cons hru]
   cases hx:ruleR l r { p with ru:=q } with
   | inl k=>exact trivial
   | inr p2=>
    have:=step_less (l:=l) (p:=p) (q:=p2) (by rw [hru];simp) (by unfold stepP;rw [hru];exact hx)
    exact ih (by omega)
def run (l:List Tk) (p:Ps):Rs:=runF l (wtP l p) p
theorem run_ended (l:List Tk) (p:Ps):Ended (run l p):=runF_end (Nat.le_refl _)
theorem run_nil {l:List Tk} {p:Ps} (h:p.ru=[]):run l p=.inr p:=runF_nil h
theorem run_cons {l:List Tk} {p:Ps} {r:Ru} {q:List Ru} (h:p.ru=r :: q):run l p=(match ruleR l r { p with ru:=q } with | .inl k=>.inl k | .inr p2=>run l p2):=by
 have hw:=wt_pos (l:=l) h
 obtain ⟨n,hn⟩:∃ n,wtP l p=n+1:=⟨wtP l p - 1,by omega⟩
 unfold run
 rw [hn,runF_cons h]
 cases hx:ruleR l r { p with ru:=q } with
 | inl k=>rfl
 | inr p2=>
  have:=step_less (l:=l) (p:=p) (q:=p2) (by rw [h];simp) (by unfold stepP;rw [h];exact hx)
  exact runF_more (runF_end (Nat.le_refl _)) (by omega)
theorem run_go {l:List Tk} {p p2:Ps} {r:Ru} {q:List Ru} (h:p.ru=r :: q) (hx:ruleR l r { p with ru:=q }=.inr p2):run l p=run l p2:=by rw [run_cons h,hx]
theorem run_ind {l:List Tk} {M:Ps→Prop} (h:∀ p,(∀ r q p2,p.ru=r :: q→ruleR l r { p with ru:=q }=.inr p2→M p2)→M p) (p:Ps):M p:=by
 have H:∀ n p,wtP l p≤n→M p:=by
  intro n
  induction n with
  | zero=>
   intro p hp
   refine h p fun r q p2 hr _=>?_
   have:=wt_pos (l:=l) hr
   omega
  | succ n ih=>
   intro p hp
   refine h p fun r q p2 hr hx=>ih p2 ?_
   have:=step_less (l:=l) (p:=p) (q:=p2) (by rw [hr];simp) (by unfold stepP;rw [hr];exact hx)
   omega
 exact H _ p (Nat.le_refl _)
def pos (x:Rs):Nat:=match x with
 | .inl n=>n
 | .inr p=>p.tk
def shn (k:Nat) (r:Ru):Ru:=if r.k=24 then { r with n:=r.n+k } else r
theorem shn_not {k:Nat} {r:Ru} (h:r.k≠24):shn k r=r:=by unfold shn;rw [if_neg h]
theorem shn_r0 (k j:Nat) (h:j≠24):shn k (r0 j)=r0 j:=shn_not h
def sft (a:Nat) (E:List Tr) (bot:List Ru) (p:Ps):Ps:={ p with tk:=p.tk+a,ru:=p.ru.map (shn E.length) ++ bot,ex:=E ++ p.ex }
def sftR (a:Nat) (E:List Tr) (bot:List Ru) (x:Rs):Rs:=match x with
 | .inl n=>.inl (n+a)
 | .inr p=>.inr (sft a E bot p)
def Alike (l l2:List Tk) (a N:Nat) (br:Bool):Prop:=∀ i,i≤N→tkAt l2 (i+a)=tkAt l i∨(br=true∧i=l.length∧(tkAt l2 (i+a)).kd=4∧(tkAt l2 (i+a)).tx=sRight)
theorem tkAt_end {l:List Tk} {i:Nat} (h:l.length≤i):tkAt l i=tk0:=by unfold tkAt;simp [List.getD,List.getElem?_eq_none h]
theorem tkAt_lt {l:List Tk} {i:Nat} (h:i<l.length):tkAt l i=l[i]:=by unfold tkAt;simp [List.getD,List.getElem?_eq_getElem h]
section
variable {l l2:List Tk} {a N:Nat} {br:Bool} {E:List Tr} {bot:List Ru}
theorem Alike.key (h:Alike l l2 a N br) {i:Nat} (hi:i≤N) {s:List UInt8} (hs:s≠sRight∨br=false∨i<l.length):isK l2 (i+a) s=isK l i s:=by
 unfold isK
 rcases h i hi with e | ⟨e1,e2,e3,e4⟩
 ·rw [e]
 ·have hs':s≠sRight:=by
   rcases hs with h | h | h
   ·exact h
   ·rw [e1] at h;cases h
   ·omega
  rw [e3,e4,tkAt_end (l:=l) (by omega)]
  have:(sRight == s)=false:=by
   rw [beq_eq_false_iff_ne]
   exact fun e=>hs' e.symm
  rw [this]
  simp [tk0]
theorem Alike.kind (h:Alike l l2 a N br) {i:Nat} (hi:i≤N) {k:Int} (h0:k≠0) (h4:k≠4):isD l2 (i+a) k=isD l i k:=by
 unfold isD
 rcases h i hi with e | ⟨e1,e2,e3,e4⟩
 ·rw [e]
 ·rw [e3,tkAt_end (l:=l) (by omega)]
  simp [tk0,Ne.symm h0,Ne.symm h4]
theorem Alike.at (h:Alike l l2 a N br) {i:Nat} (hi:i≤N) (hl:i<l.length):tkAt l2 (i+a)=tkAt l i:=by
 rcases h i hi with e | ⟨e1,e2,e3,e4⟩
 ·exact e
 ·omega
theorem names_step (l:List Tk) (i:Nat):namesN (l.drop i)=if isD l i 2 then (tkAt l i).tx :: namesN (l.drop (i+1)) else []:=by
 by_cases h:i<l.length
 ·rw [List.drop_eq_getElem_cons h]
  unfold namesN isD
  rw [tkAt_lt h,List.takeWhile_cons]
  by_cases hk:l[i].kd=2
  ·simp [hk]
  ·simp [hk]
 ·have e:isD l i 2=false:=by unfold isD;rw [tkAt_end (by omega)];rfl
  rw [e,List.drop_eq_nil_of_le (by omega)]
  rfl
theorem Alike.names (h:Alike l l2 a N br):∀ (n i:Nat),(namesN (l.drop i)).length=n→i+n≤N→namesN (l2.drop (i+a))=namesN (l.drop i):=by
 intro n
 induction n with
 | zero=>
  intro i hn hi
  rw [names_step l2,names_step l i]
  rw [names_step l i] at hn
  rw [h.kind (by omega) (by decide) (by decide)]
  cases hd:isD l i 2
  ·rfl
  ·rw [hd] at hn;simp at hn
 | succ n ih=>
  intro i hn hi
  rw [names_step l2,names_step l i]
  rw [names_step l i] at hn
  rw [h.kind (by omega) (by decide) (by decide)]
  cases hd:isD l i 2
  ·rfl
  ·rw [hd] at hn
   simp only [if_true,List.length_cons] at hn
   rw [h.at (by omega) (isD_lt (by decide) hd)]
   have:=ih (i+1) (by omega) (by omega)
   rw [show i+1+a=i+a+1 by omega] at this
   rw [this]
def Cn (l:List Tk) (N n:Nat):Prop:=(n≤N∧isD l N 2=false)∨n+1≤N∨l.length≤N
theorem Cn.mono {l:List Tk} {N m n:Nat} (h:Cn l N n) (hm:m≤n):Cn l N m:=by
 rcases h with ⟨h1,h2⟩ | h | h
 ·exact .inl ⟨by omega,h2⟩
 ·exact .inr (.inl (by omega))
 ·exact .inr (.inr h)
theorem Cn.le {l:List Tk} {N n:Nat} (h:Cn l N n) (hn:n≤l.length):n≤N:=by
 rcases h with ⟨h1,h2⟩ | h | h <;> omega
theorem Cn.next {l:List Tk} {N n:Nat} (h:Cn l N n) (hd:isD l n 2=true):n+1≤N:=by
 have hl:=isD_lt (by decide) hd
 rcases h with ⟨h1,h2⟩ | h | h
 ·rcases Nat.lt_or_ge n N with h3 | h3
  ·exact h3
  ·obtain rfl:n=N:=by omega
   rw [h2] at hd
   cases hd
 ·exact h
 ·omega
def Lk (l:List Tk) (a N:Nat) (E:List Tr) (bot:List Ru) (Pre:Ps→Prop) (F F2:Ps→Rs):Prop:=∀ p,Pre p→p.tk≤l.length→p.tk≤pos (F p)∧pos (F p)≤l.length∧(Cn l N (pos (F p))→F2 (sft a E bot p)=sftR a E bot (F p))
theorem Lk.weak {Pre Pre':Ps→Prop} {F F2:Ps→Rs} (h:Lk l a N E bot Pre F F2) (hw:∀ p,Pre' p→Pre p):Lk l a N E bot Pre' F F2:=fun p hp=>h p (hw p hp)
abbrev Any:Ps→Prop:=fun _=>True
theorem Lk.any {Pre:Ps→Prop} {F F2:Ps→Rs} (h:Lk l a N E bot Any F F2):Lk l a N E bot Pre F F2:=h.weak fun _ _=>trivial
theorem lk_key (hA:Alike l l2 a N br) {s:List UInt8} (hs:s≠sRight∨br=false):Lk l a N E bot Any (keyR l s) (keyR l2 s):=by
 intro p _ hp
 unfold keyR
 cases hk:isK l p.tk s
 ·refine ⟨Nat.le_refl _,hp,fun hc=>?_⟩
  have hc':p.tk≤N:=Cn.le (n:=p.tk) hc hp
  have h2:isK l2 (p.tk+a) s=false:=by rw [hA.key hc' (hs.elim .inl fun h=>.inr (.inl h))];exact hk
  show (if isK l2 (p.tk+a) s=true then _ else _)=_
  rw [h2]
  rfl
 ·have hl:=isK_lt hk
  refine ⟨Nat.le_succ _,hl,fun hc=>?_⟩
  have hc':p.tk≤N:=(Cn.mono (n:=p.tk+1) (m:=p.tk) hc (Nat.le_succ _)).le hp
  have h2:isK l2 (p.tk+a) s=true:=by rw [hA.key hc' (.inr (.inr hl))];exact hk
  show (if isK l2 (p.tk+a) s=true then _ else _)=_
  rw [h2]
  show Sum.inr _=Sum.inr _
  unfold sft
  rw [show p.tk+1+a=p.tk+a+1 by omega]
theorem lk_then {Pre:Ps→Prop} {F F2:Ps→Rs} {G G2:Ps→Ps→Rs} (hF:Lk l a N E bot Pre F F2) (hG:∀ p,Pre p→Lk l a N E bot Any (G p) (G2 (sft a E bot p))):Lk l a N E bot Pre (fun p=>thenR (F p) (G p)) (fun p=>thenR (F2 p) (G2 p)):=by
 intro p h0 hp
 obtain ⟨h1,h2,h3⟩:=hF p h0 hp
 simp only
 cases hx:F p with
 | inl n=>
  rw [hx] at h1 h2 h3
  exact ⟨h1,h2,fun hc=>by rw [h3 hc];rfl⟩
 | inr q=>
  rw [hx] at h1 h2 h3
  obtain ⟨g1,g2,g3⟩:=hG p h0 q trivial h2
  refine ⟨Nat.le_trans h1 g1,g2,fun hc=>?_⟩
  rw [h3 (Cn.mono (n:=pos (G p q)) (m:=q.tk) hc g1)]
  exact g3 hc
theorem lk_takeP {Pre Post:Ps→Prop} (hpost:∀ p,Pre p→Post { p with tk:=p.tk+1 }) (hA:Alike l l2 a N br) {k:Int} (h0:k≠0) (h4:k≠4∨∀ p,Pre p→isD l p.tk k=true) {f f2:Ps→Tk→Ps→Rs} (hf:∀ p t,Pre p→Lk l a N E bot Post (f p t) (f2 (sft a E bot p) t)):Lk l a N E bot Pre (fun p=>takeR l k p (f p)) (fun p=>takeR l2 k p (f2 p)):=by
 intro p hpre hp
 unfold takeR
 simp only
 cases hk:isD l p.tk k
 ·refine ⟨Nat.le_refl _,hp,fun hc=>?_⟩
  have hc':p.tk≤N:=Cn.le (n:=p.tk) hc hp
  have h4':k≠4:=h4.elim id fun h=>by rw [h p hpre] at hk;cases hk
  have h2:isD l2 (p.tk+a) k=false:=by rw [hA.kind hc' h0 h4'];exact hk
  show (if isD l2 (p.tk+a) k=true then _ else _)=_
  rw [h2]
  rfl
 ·have hl:=isD_lt h0 hk
  obtain ⟨g1,g2,g3⟩:=hf p (tkAt l p.tk) hpre { p with tk:=p.tk+1 } (hpost p hpre) hl
  refine ⟨Nat.le_trans (Nat.le_succ _) g1,g2,fun hc=>?_⟩
  have hc':p.tk≤N:=(Cn.mono (n:=pos (f p (tkAt l p.tk) { p with tk:=p.tk+1 })) (m:=p.tk) hc (Nat.le_trans (Nat.le_succ _) g1)).le hp
  have hat:=hA.at hc' hl
  have h2:isD l2 (p.tk+a) k=true:=by unfold isD at hk ⊢;rw [hat];exact hk
  show (if isD l2 (p.tk+a) k=true then f2 (sft a E bot p) (tkAt l2 (p.tk+a)) { sft a E bot p with tk:=p.tk+a+1 } else _)=_
  rw [h2,hat,if_pos rfl]
  have e:({ sft a E bot p with tk:=p.tk+a+1 }:Ps)=sft a E bot { p with tk:=p.tk+1 }:=by
   unfold sft
   rw [show p.tk+1+a=p.tk+a+1 by omega]
  rw [e]
  exact g3 hc
theorem lk_take {Pre:Ps→Prop} (hA:Alike l l2 a N br) {k:Int} (h0:k≠0) (h4:k≠4∨∀ p,Pre p→isD l p.tk k=true) {f f2:Ps→Tk→Ps→Rs} (hf:∀ p t,Pre p→Lk l a N E bot Any (f p t) (f2 (sft a E bot p) t)):Lk l a N E bot Pre (fun p=>takeR l k p (f p)) (fun p=>takeR l2 k p (f2 p)):=lk_takeP (Post:=Any) (fun _ _=>trivial) hA h0 h4 hf
theorem lk_names {Pre:Ps→Prop} (hA:Alike l l2 a N br) {f f2:Ps→List (List UInt8)→Ps→Rs} (hf:∀ p ns,Pre p→Lk l a N E bot Any (f p ns) (f2 (sft a E bot p) ns)):Lk l a N E bot Pre (fun p=>namesR l p (f p)) (fun p=>namesR l2 p (f2 p)):=by
 intro p hpre hp
 have hn:=names_le l p.tk hp
 unfold namesR
 simp only
 obtain ⟨g1,g2,g3⟩:=hf p (namesN (l.drop p.tk)) hpre { p with tk:=p.tk+(namesN (l.drop p.tk)).length } trivial hn
 refine ⟨Nat.le_trans (Nat.le_add_right _ _) g1,g2,fun hc=>?_⟩
 have hc':p.tk+(namesN (l.drop p.tk)).length≤N:=(Cn.mono (n:=pos (f p (namesN (l.drop p.tk)) { p with tk:=p.tk+(namesN (l.drop p.tk)).length })) (m:=p.tk+(namesN (l.drop p.tk)).length) hc g1).le hn
 have e1:=hA.names _ p.tk rfl hc'
 show f2 (sft a E bot p) (namesN (l2.drop (p.tk+a))) { sft a E bot p with tk:=p.tk+a+(namesN (l2.drop (p.tk+a))).length }=_
 rw [e1]
 have e:({ sft a E bot p with tk:=p.tk+a+(namesN (l.drop p.tk)).length }:Ps)=sft a E bot { p with tk:=p.tk+(namesN (l.drop p.tk)).length }:=by
  unfold sft
  rw [show p.tk+(namesN (l.drop p.tk)).length+a=p.tk+a+(namesN (l.drop p.tk)).length by omega]
 rw [e]
 exact g3 hc
theorem lk_ret {Pre:Ps→Prop} {g g2:Ps→Ps} (ht:∀ p,(g p).tk=p.tk) (h:∀ p,Pre p→g2 (sft a E bot p)=sft a E bot (g p)):Lk l a N E bot Pre (fun p=>.inr (g p)) (fun p=>.inr (g2 p)):=by
 intro p hpre hp
 refine ⟨?_,?_,fun _=>?_⟩
 ·show p.tk≤(g p).tk
  rw [ht];exact Nat.le_refl _
 ·show (g p).tk≤_
  rw [ht];exact hp
 ·show Sum.inr _=Sum.inr _
  rw [h p hpre]
theorem lk_push {Pre:Ps→Prop} {rs rs2:Ps→List Ru} (h:∀ p,Pre p→rs2 (sft a E bot p)=(rs p).map (shn E.length)):Lk l a N E bot Pre (fun p=>pushR (rs p) p) (fun p=>pushR (rs2 p) p):=by
 refine lk_ret (g:=fun p=>{ p with ru:=rs p ++ p.ru }) (g2:=fun p=>{ p with ru:=rs2 p ++ p.ru }) (fun _=>rfl) fun p hpre=>?_
 show ({ sft a E bot p with ru:=rs2 (sft a E bot p) ++ (p.ru.map (shn E.length) ++ bot) }:Ps)=_
 rw [h p hpre]
 unfold sft
 simp [List.map_append,List.append_assoc]
theorem lk_push0 {Pre:Ps→Prop} {rs rs2:List Ru} (h:rs2=rs.map (shn E.length)):Lk l a N E bot Pre (pushR rs) (pushR rs2):=lk_push (rs:=fun _=>rs) (rs2:=fun _=>rs2) fun _ _=>h
theorem lk_if {Pre:Ps→Prop} {b b2:Ps→Bool} {F F2 G G2:Ps→Rs} (hb:∀ p,Pre p→p.tk≤l.length→p.tk≤N→(isD l p.tk 2=true→p.tk+1≤N)→b2 (sft a E bot p)=b p) (hF:Lk l a N E bot (fun p=>b p=true∧Pre p) F F2) (hG:Lk l a N E bot Pre G G2):Lk l a N E bot Pre (fun p=>if b p=true then F p else G p) (fun p=>if b2 p=true then F2 p else G2 p):=by
 intro p hpre hp
 simp only
 cases hk:b p
 ·obtain ⟨g1,g2,g3⟩:=hG p hpre hp
  refine ⟨g1,g2,fun hc=>?_⟩
  have hc1:Cn l N p.tk:=Cn.mono (n:=pos (G p)) hc g1
  rw [hb p hpre hp (hc1.le hp) hc1.next,hk]
  exact g3 hc
 ·obtain ⟨g1,g2,g3⟩:=hF p ⟨hk,hpre⟩ hp
  refine ⟨g1,g2,fun hc=>?_⟩
  have hc1:Cn l N p.tk:=Cn.mono (n:=pos (F p)) hc g1
  rw [hb p hpre hp (hc1.le hp) hc1.next,hk]
  exact g3 hc
theorem lk_ifK {Pre:Ps→Prop} (hA:Alike l l2 a N br) {s:List UInt8} (hs:s≠sRight∨br=false) {F F2 G G2:Ps→Rs} (hF:Lk l a N E bot (fun p=>isK l p.tk s=true∧Pre p) F F2) (hG:Lk l a N E bot Pre G G2):Lk l a N E bot Pre (fun p=>if isK l p.tk s=true then F p else G p) (fun p=>if isK l2 p.tk s=true then F2 p else G2 p):=
 lk_if (b:=fun p=>isK l p.tk s) (b2:=fun p=>isK l2 p.tk s) (fun p _ _ h _=>hA.key h (hs.elim .inl fun h=>.inr (.inl h))) hF hG
theorem lk_ifD {Pre:Ps→Prop} (hA:Alike l l2 a N br) {k:Int} (h0:k≠0) (h4:k≠4) {F F2 G G2:Ps→Rs} (hF:Lk l a N E bot (fun p=>isD l p.tk k=true∧Pre p) F F2) (hG:Lk l a N E bot Pre G G2):Lk l a N E bot Pre (fun p=>if isD l p.tk k=true then F p else G p) (fun p=>if isD l2 p.tk k=true then F2 p else G2 p):=
 lk_if (b:=fun p=>isD l p.tk k) (b2:=fun p=>isD l2 p.tk k) (fun p _ _ h _=>hA.kind h h0 h4) hF hG
theorem lk_at {Pre:Ps→Prop} {F F2:Ps→Rs} {g g2:Ps→Ps} (hF:Lk l a N E bot Any F F2) (ht:∀ p,(g p).tk=p.tk) (h:∀ p,Pre p→g2 (sft a E bot p)=sft a E bot (g p)):Lk l a N E bot Pre (fun p=>F (g p)) (fun p=>F2 (g2 p)):=by
 intro p hpre hp
 obtain ⟨g1,g3,g4⟩:=hF (g p) trivial (by rw [ht];exact hp)
 rw [ht] at g1
 refine ⟨g1,g3,fun hc=>?_⟩
 simp only
 rw [h p hpre]
 exact g4 hc
end
open Go.RowKit
theorem thenZ {c:Nat→Nat} {B:Nat} {l:List Tk} {w:World} {p:Ps} {W:World} (h:PW c B l w p W) (rs:List Ru) {L:List Value} (e k:Nat) (hn:p.ru.length≤1000000000) {m cap:Nat} (hm:rs.length=m) (hm':m≤1000) (he:e<W.heap.size) (hR:Rus B (colN c w e k) W p.ru.length rs L) :
 Calls Tryz.prog 55 #[.pointer (some ⟨B,0,none⟩),.slice (some ⟨W.heap.size,0,none⟩) m cap] (W.alloc (.cells L.toArray 1)) (ThenQ (colN c w e k) B l { p with ru:=rs ++ p.ru } (W.alloc (.cells L.toArray 1))):=by
 have hR':=hR.below ((Below.refl _ W).alloc (Nat.le_refl _) (.cells L.toArray 1))
 exact then_any ((h.alloc _).pm (colN c w e k) (colN_old _ _ _ _)) hn hm hm' (Hold.new W _ 1) (colN_new h.size (by omega)) (hR'.len.trans hm) (by subst hm;exact hR'.at)
def mkN (ns:List (List UInt8)) (i n:Nat):List Ru:=(ns.take i).reverse.map fun m=>rMake (bindT 4 m) n
theorem mkN_succ {ns:List (List UInt8)} {i:Nat} (n:Nat) (hi:i<ns.length):mkN ns (i+1) n=rMake (bindT 4 ns[i]) n :: mkN ns i n:=by
 unfold mkN
 rw [List.take_succ_eq_append_getElem hi,List.reverse_append,List.reverse_singleton,List.singleton_append,List.map_cons]
theorem mkN_all (ns:List (List UInt8)) (n:Nat):mkN ns ns.length n=ns.reverse.map fun m=>rMake (bindT 4 m) n:=by
 unfold mkN
 rw [List.take_of_length_le (Nat.le_refl _)]
theorem mkN_len {ns:List (List UInt8)} {i n:Nat} (hi:i≤ns.length):(mkN ns i n).length=i:=by
 unfold mkN
 simp
 omega
structure DefI (c:Nat→Nat) (B:Nat) (l:List Tk) (w:World) (b0:Nat) (ns:List (List UInt8)) (pn:Option Addr) (p:Ps) (ci:Nat→Nat) (W:World):Prop where
 pm:PM ci B l p W
 cbx:ci b0=0
 box:Hold b0 #[pB B] 58 W
 nms:SM (Imm ci W) W pn ns
 imm:∀ b,Imm c w b→Imm ci W b
 kp:KP (Imm c w) w W
theorem def_rule {c:Nat→Nat} {B:Nat} {l:List Tk} {p:Ps} {w:World} (hx:p.ex.length≤1000000000) (hP:PM c B l p w) (hn:p.ru.length≤900000000) :
 Calls Tryz.prog 190 #[.pointer (some ⟨B,0,none⟩)] w (RQ c B l w (defR l p)):=by
 have hmf:=mkf
 have HP0:=zz ((PW.start hP).alloc (.cells #[pB B] 58))
 have HBX:=zz (Hold.new w #[pB B] 58)
 have ht:=((PW.start hP).token p.tk).1
 have h0:0<w.heap.size:=Nat.lt_of_le_of_lt (Nat.zero_le _) HP0.out.ltB
 obtain ⟨X,HX0⟩:∃ X,Hid (X=defR l p):=⟨_,rfl⟩
 rw [← HX0.out]
 clear hP
 go_enter Tryz.func190,Tryz.ntmps190
 go_wp2_with fail
 refine (nameX HP0.out).mono ?_
 rintro r w1 (⟨rfl,hk,hp⟩ | ⟨rfl,hk,hp,hf⟩)
 ·have HR:Hid (RQ c B l w X (.panicked stuckV) w1):=by
   show RQ c B l w X (.panicked stuckV) w1
   rw [HX0.out.trans (take_st hk)]
   exact hp.stuck rfl
  clear hk hp
  unfold stuckV at *
  go_wp2_with fail
  exact ⟨rfl,HR.out⟩
 have HX1:=zz (HX0.out.trans (take_go hk))
 have hz1:=hp.size
 have hbx:=hf.hold (Nat.le_refl _) HBX.out
 generalize (tkAt l p.tk).tx=nm at *
 have HP2:=zz (hp.alloc (.cells #[.string (S nm),.int .i64 0,.string ⟨#[]⟩,.int .i64 0,.slice none 0 0,.slice none 0 0] 79))
 have HB2:=zz (hbx.alloc (.cells #[.string (S nm),.int .i64 0,.string ⟨#[]⟩,.int .i64 0,.slice none 0 0,.slice none 0 0] 79))
 have HF2:=zz (Hold.new w1 #[.string (S nm),.int .i64 0,.string ⟨#[]⟩,.int .i64 0,.slice none 0 0,.slice none 0 0] 79)
 have hl1:=hbx.lt
 have a1:=HB2.out.cell 0
 simp only [lGA,lGZ] at a1
 clear hk hp hf hbx
 go_wp2_with fail
 obtain ⟨w2,hw2⟩:∃ w2,w2=w1.alloc (.cells #[.string (S nm),.int .i64 0,.string ⟨#[]⟩,.int .i64 0,.slice none 0 0,.slice none 0 0] 79):=⟨_,rfl⟩
 have hs2:w2.heap.size=w1.heap.size+1:=by rw [hw2];simp
 rw [← hs2,← hw2]
 rw [← hw2] at HP2 HB2 HF2 a1
 have HS2:=zz hs2
 clear hw2 hs2
 have hT:=thenZ (m:=1) (cap:=1) HP2.out [rDef nm] (L:=[.func (.func 221) #[] #[bx w.heap.size,bx w1.heap.size]]) w1.heap.size (10+(p.ru.length+0)) (by show p.ru.length≤_;omega) rfl (by decide) HF2.out.lt ⟨⟨w.heap.size,w1.heap.size,rfl,colN_new (Nat.le_refl _) (by omega),colN_own hz1,HB2.out,HF2.out,ht⟩,trivial⟩
 refine hT.mono ?_
 rintro r w3 ⟨rfl,c3,hc3,hp3,hk3⟩
 have hz3:w2.heap.size+1≤w3.heap.size:=by have:=hk3.size;simpa using this
 have hB2l:=HB2.out.lt
 have hI3:∀ b,Imm c w b→Imm (colN c w w1.heap.size (10+(p.ru.length+0))) (w2.alloc (.cells [.func (.func 221) #[] #[bx w.heap.size,bx w1.heap.size]].toArray 1)) b:=fun b hb=>⟨by have:=hb.1;have:=HP2.out.size;simp;omega,(colN_old _ _ _ _ b hb.1).trans hb.2⟩
 have HC3:Hid (c3 w.heap.size=0):=(hc3 _ (by simp;omega)).trans (colN_new (Nat.le_refl _) (by omega))
 have HX3:Hid (Hold w.heap.size #[pB B] 58 w3):=(hk3.block _ ⟨by simp;omega,colN_new (Nat.le_refl _) (by omega)⟩).trans (HB2.out.alloc _)
 have HI3:Hid (∀ b,Imm c w b→Imm c3 w3 b):=fun b hb=>⟨Nat.lt_of_lt_of_le (hI3 b hb).1 hk3.size,(hc3 b (hI3 b hb).1).trans (hI3 b hb).2⟩
 have HK3:Hid (KP (Imm c w) w w3):=(HP2.out.alloc _).imm.trans (hk3.mono hI3)
 have HP3:=zz hp3
 have d1:=HX3.out.cell 0
 simp only [lGA,lGZ] at d1
 clear hc3 hp3 hk3 hI3 hT HP2 HB2 HF2 a1
 go_wp2_with fail
 refine (namesX (PW.start HP3.out)).mono ?_
 rintro r w4 ⟨pn,cn,rfl,hso,hsm,hp4,hf4⟩
 have hXe:X=thenR (keyR l sEq { p with tk:=p.tk+1+(namesN (l.drop (p.tk+1))).length,ru:=(namesN (l.drop (p.tk+1))).reverse.map (fun n=>rMake (bindT 4 n) p.ex.length) ++ (rDef nm :: p.ru) }) (pushR [r0 10]):=HX1.out
 have hnl:(namesN (l.drop (p.tk+1))).length≤1000000:=by
  obtain ⟨tp,tc,vr,ve,vs,vf,vd,vp,hL⟩:=(PW.start HP3.out).look
  have:=hL.max
  unfold namesN
  have h1:((l.drop (p.tk+1)).takeWhile fun t=>decide (t.kd=2)).length≤(l.drop (p.tk+1)).length:=(List.takeWhile_sublist _).length_le
  simp at h1 ⊢
  omega
 have hDI:DefI c B l w w.heap.size (namesN (l.drop (p.tk+1))) pn { p with tk:=p.tk+1+(namesN (l.drop (p.tk+1))).length,ru:=rDef nm :: p.ru } (fun b=>if b<w3.heap.size then c3 b else 0) w4:=by
  have hl3:=HX3.out.lt
  have hcB:c3 B=1:=(PW.start HP3.out).colB
  have e3:∀ b,b<w3.heap.size→(fun b=>if b<w3.heap.size then c3 b else 0) b=c3 b:=fun b hb=>by simp [hb]
  refine ⟨hp4.pm _ e3,(e3 _ hl3).trans HC3.out,(hp4.kept.block _ ⟨hl3,fun e=>by have:=HC3.out;rw [e,hcB] at this;cases this⟩).trans HX3.out,hsm.mono fun b hb=>⟨hb.2,?_⟩,fun b hb=>⟨Nat.lt_of_lt_of_le (HI3.out b hb).1 hp4.size,(e3 _ (HI3.out b hb).1).trans (HI3.out b hb).2⟩,HK3.out.trans (hp4.imm.mono HI3.out)⟩
  have h1:=hb.1
  simp [show ¬ b<w3.heap.size by omega]
 simp only at hso
 generalize namesN (l.drop (p.tk+1))=ns at *
 have HXE:=zz hXe
 have HDI:=zz hDI
 have HSO:=zz hso
 obtain ⟨n,hnn⟩:∃ n,n=ns.length:=⟨_,rfl⟩
 have HNN:=zz hnn
 rw [← hnn] at hnl ⊢
 clear hXe hDI hso hsm hp4 hf4 hnn HX1 HC3 HX3 HI3 HK3 HP3 d1
 go_wp2_with fail
 go_loopg [15] n (fun k v15 wr=>∃ (i:Nat) (ci:Nat→Nat),i≤n∧k=n - i∧v15=.int .i64 i∧DefI c B l w w.heap.size ns pn { p with tk:=p.tk+1+ns.length,ru:=mkN ns i p.ex.length ++ (rDef nm :: p.ru) } ci wr)
 case atStart=>exact ⟨0,_,Nat.zero_le _,by omega,rfl,HDI.out⟩
 case round=>
  obtain ⟨i,ci,hi1,rfl,rfl,hd⟩:=hrel
  have HD:=zz hd
  have cb:=hd.box.cell 0
  simp only [lGA,lGZ] at cb
  by_cases hlt:i<n
  ·have hil:i<ns.length:=by rw [← HNN.out];exact hlt
   have hms:=mkN_succ p.ex.length hil
   have hml:=mkN_len (n:=p.ex.length) (Nat.le_of_lt hil)
   rcases hd.nms with he | ⟨b,o,hpn,hPb,hma⟩
   ·rw [he] at hil;simp at hil
   obtain ⟨hsl,hcs⟩:=hma i ns[i] (by simp)
   subst hpn
   generalize ns[i]=s at *
   have HMS:=zz hms
   have HML:=zz hml
   have hii:(i:Int)<n:=by omega
   clear hd hms hml hma
   go_wp2_with fail
   have HPW:=zz (PW.start HD.out.pm)
   have HCB:=zz cb
   have HBX:=zz HD.out.box
   refine region_J 7 (N:=7) (S:=(fun W':World=>W'.cell? ⟨w.heap.size,0,none⟩=some (.pointer (some ⟨B,0,none⟩)))) (by kernel_rfl) (by kernel_rfl) ?_
   have hS:(fun W':World=>W'.cell? ⟨w.heap.size,0,none⟩=some (.pointer (some ⟨B,0,none⟩))) wr.drew:=cb
   have hBne:w.heap.size≠B:=fun e=>by have h1:=HPW.out.colB;have h2:=HD.out.cbx;rw [e,h1] at h2;cases h2
   refine take_F 0 19 (.pointer (some ⟨B,0,none⟩)) hS ?_
   refine take_F 1 20 (.pointer (some ⟨B,0,none⟩)) hS ?_
   refine take_F 2 21 (.string (S s)) hS ?_
   simp only [Act.put,lSI,lSZ,lSS]
   refine ready_1 3 (op_E fun K hK=>?_)
   go_simp
   refine (bindsX HPW.out.drew 4 s hsl).mono ?_
   rintro r w5 ⟨pn5,rfl,hso5,hsm5,hp5,hf5⟩
   have HP5:=zz hp5
   have HSO5:=zz hso5
   have HSM5:=zz hsm5
   have hb5:Hold w.heap.size #[pB B] 58 w5:=(hp5.kept.block _ ⟨HBX.out.lt,hBne⟩).trans HBX.out
   have c5:=hb5.cell 0
   simp only [lGA,lGZ] at c5
   clear hp5 hf5 hso5 hsm5 hb5
   refine hK _ _ ⟨fun _=>c5,?_⟩
   clear hK K
   refine ready_1 4 (op_E fun K hK=>?_)
   go_simp
   refine (makingX HP5.out (pn:=pn5) (cn:=1) (bindT 4 s) 0 (Nat.zero_le _) hx (by simp [bindT]) (by simp [bindT]) HSO5.out HSM5.out).mono ?_
   rintro r w6 ⟨e,bp6,bf6,rfl,hc6,hlt6,hle6,hp6,hf6⟩
   have HP6:=zz hp6
   have HC6:=zz hc6
   have hb6:Hold w.heap.size #[pB B] 58 w6:=(hp6.kept.block _ ⟨HBX.out.lt,hBne⟩).trans HBX.out
   have c6:=hb6.cell 0
   have HB6:=zz hb6
   simp only [lGA,lGZ] at c6
   clear hp6 hf6 hc6 hb6
   refine hK _ _ ⟨fun _=>c6,?_⟩
   clear hK K
   refine ready_1 5 (op_E fun K hK=>?_)
   go_simp
   have c7:=(HB6.out.alloc (.cells #[.func (.func 173) #[] #[bx e,bx bp6,bx bf6]] 1)).cell 0
   simp only [lGA,lGZ] at c7
   refine hK _ _ ⟨fun _=>c7,?_⟩
   clear hK K
   refine ready_1 6 (op_E fun K hK=>?_)
   go_simp
   have hT:=thenZ (m:=1) (cap:=1) HP6.out [rMake (bindT 4 s) p.ex.length] (L:=[.func (.func 173) #[] #[bx e,bx bp6,bx bf6]]) e (10+((mkN ns i p.ex.length ++ (rDef nm :: p.ru)).length+0)) (by rw [List.length_append,HML.out,List.length_cons];omega) rfl (by decide) hlt6 ⟨HC6.out.ruv rfl,trivial⟩
   refine hT.mono ?_
   rintro r w7 ⟨rfl,c7',hc7,hp7,hk7⟩
   have HDN:Hid (DefI c B l w w.heap.size ns (some ⟨b,o,none⟩) { p with tk:=p.tk+1+ns.length,ru:=mkN ns (i+1) p.ex.length ++ (rDef nm :: p.ru) } c7' w7):=by
    have hz6:=HP6.out.size
    have hz6':wr.heap.size≤w6.heap.size:=hz6
    have hold:∀ x,x<wr.heap.size→c7' x=ci x:=fun x hx=>(hc7 x (by simp;omega)).trans (colN_old _ _ _ _ x hx)
    have himm:∀ x,Imm ci wr x→Imm (colN ci wr.drew e (10+((mkN ns i p.ex.length ++ (rDef nm :: p.ru)).length+0))) (w6.alloc (.cells [.func (.func 173) #[] #[bx e,bx bp6,bx bf6]].toArray 1)) x:=fun x hx=>⟨by have:=hx.1;simp;omega,(colN_old ci wr.drew _ _ x hx.1).trans hx.2⟩
    have hkp:KP (Imm ci wr) wr w7:=(show KP (Imm ci wr) wr (w6.alloc (.cells [.func (.func 173) #[] #[bx e,bx bp6,bx bf6]].toArray 1)) from (HP6.out.alloc _).imm).trans (hk7.mono himm)
    have hl:w.heap.size<wr.heap.size:=HBX.out.lt
    have himm7:∀ x,Imm ci wr x→Imm c7' w7 x:=fun x hx=>⟨Nat.lt_of_lt_of_le hx.1 hkp.size,(hold x hx.1).trans hx.2⟩
    refine ⟨?_,(hold _ hl).trans HD.out.cbx,(hkp.block _ ⟨hl,HD.out.cbx⟩).trans HBX.out,(HD.out.nms.keep hkp).mono himm7,fun x hx=>himm7 x (HD.out.imm x hx),HD.out.kp.trans (hkp.mono HD.out.imm)⟩
    rw [HMS.out]
    exact hp7
   clear hc7 hp7 hk7 hT
   refine hK _ _ ⟨fun _=>by have h:=HDN.out.box.cell 0;simpa using h,?_⟩
   clear hK K
   refine done_J (by kernel_rfl) ?_ _
   go_wp2_with fail
   go_roundg (n - (i+1))
   case measure=>omega
   case rel=>exact ⟨i+1,c7',by omega,rfl,by go_num,HDN.out⟩
  ·have hii:¬ (i:Int)<n:=by omega
   obtain rfl:i=ns.length:=by rw [← HNN.out];omega
   have HPW:=zz (PW.start HD.out.pm)
   have hz0:0<wr.heap.size:=Nat.lt_of_le_of_lt (Nat.zero_le _) HPW.out.ltB
   have HIM:=zz HD.out.imm
   have HKP:=zz HD.out.kp
   have hrl:(mkN ns ns.length p.ex.length ++ (rDef nm :: p.ru)).length≤1000000000:=by rw [List.length_append,mkN_len (Nat.le_refl _),List.length_cons,← HNN.out];omega
   have hXm:=HXE.out
   rw [← mkN_all] at hXm
   have HXM:=zz hXm
   have HBX:=zz HD.out.box
   have hBne:w.heap.size≠B:=fun e=>by have h1:=HPW.out.colB;have h2:=HD.out.cbx;rw [e,h1] at h2;cases h2
   clear hd hXm
   go_wp2_with fail
   refine (keyX HPW.out sEq).mono ?_
   rintro r w5 (⟨rfl,hk,hp⟩ | ⟨rfl,hk,hp,hf⟩)
   ·have HR:Hid (RQ c B l w X (.panicked stuckV) w5):=by
     show RQ c B l w X (.panicked stuckV) w5
     rw [HXM.out.trans (key_st hk)]
     exact (hp.stuck rfl).trans HIM.out HKP.out
    clear hk hp
    unfold stuckV at *
    go_wp2_with fail
    exact ⟨rfl,HR.out⟩
   have HX5:=zz (HXM.out.trans (key_go hk))
   have HP5:=zz hp
   have hz5:wr.heap.size≤w5.heap.size:=HP5.out.size
   have hb5:Hold w.heap.size #[pB B] 58 w5:=(hp.kept.block _ ⟨HBX.out.lt,hBne⟩).trans HBX.out
   have c5:=hb5.cell 0
   simp only [lGA,lGZ] at c5
   clear hk hp hf hb5
   go_wp2_with fail
   refine (thenX (m:=1) (cap:=1) HP5.out [r0 10] (L:=[mth B 10]) 0 0 hrl rfl (by decide) (by omega) ⟨⟨by decide,by decide,rfl⟩,trivial⟩).mono ?_
   rintro r w6 ⟨rfl,hq⟩
   have HQ:=zz hq
   clear hq
   go_wp2_with fail
   go_end0
   rw [HX5.out]
   exact RQ.trans HIM.out HKP.out ⟨rfl,HQ.out⟩
end Go.Proofs.YtcnnlecjdkfdjaaGreatDoor
