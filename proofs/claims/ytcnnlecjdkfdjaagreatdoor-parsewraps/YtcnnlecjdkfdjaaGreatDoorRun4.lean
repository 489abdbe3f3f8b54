/- Parts of the proof. -/
import Derived.Test.YtcnnlecjdkfdjaaGreatDoorDefR
import Derived.Test.YtcnnlecjdkfdjaaGreatDoorParts
set_option linter.unusedVariables false
set_option linter.unusedSimpArgs false
set_option maxRecDepth 100000
set_option maxHeartbeats 8000000
namespace Go.Proofs.YtcnnlecjdkfdjaaGreatDoor
def mass (t:Tr):Nat:=t.fold fun t l=>1+t.ns.length+(l.map fun k=>k.2).sum
theorem mass_eq (t:Tr):mass t=1+t.ns.length+(t.ks.map mass).sum:=by
 unfold mass
 rw [Tr.fold_eq]
 simp only [List.map_map]
 rfl
theorem sum_memM {α:Type} (f:α→Nat):∀ {l:List α} {x:α},x ∈ l→f x≤(l.map f).sum
 | a :: r,x,h=>by
  rcases List.mem_cons.1 h with rfl | h
  ·simp
  ·have:=sum_memM f h
   simp only [List.map_cons,List.sum_cons]
   omega
theorem sum_len {α:Type} (f:α→Nat) (hf:∀ x,1≤f x):∀ l:List α,l.length≤(l.map f).sum
 | []=>by simp
 | a :: r=>by
  have:=sum_len f hf r
  have:=hf a
  simp only [List.map_cons,List.sum_cons,List.length_cons]
  omega
theorem mass_pos (t:Tr):1≤mass t:=by rw [mass_eq];omega
theorem mass_po (e:Tr):∀ n x,x ∈ po e n→x.1+mass x.2≤n+mass e:=by
 induction e using Tr.ind with
 | _ e ih=>
  intro n x hx
  rw [po_eq] at hx
  rcases List.mem_cons.1 hx with rfl | hx
  ·exact Nat.le_refl _
  ·obtain ⟨k,hk,hx⟩:=List.mem_flatMap.1 hx
   have h1:=ih k hk (n+1) x hx
   have h2:=sum_memM mass hk
   have h3:=mass_eq e
   omega
theorem mass_D {e:Tr} (h:mass e≤900000):∀ x ∈ po e 1,x.1≤1000000∧x.2.ks.length≤1000000:=fun x hx=>by
 have h1:=mass_po e 1 x hx
 have h2:=mass_eq x.2
 have h3:=sum_len mass mass_pos x.2.ks
 omega
theorem mass_N {e:Tr} (h:mass e≤900000):∀ x ∈ po e 1,x.2.ns.length≤1000000:=fun x hx=>by
 have h1:=mass_po e 1 x hx
 have h2:=mass_eq x.2
 omega
def nsr (r:Ru):Nat:=if r.k=24 then 1+r.t.ns.length else if r.k=26 then r.ns.length else 0
def massP (p:Ps):Nat:=(p.ex.map mass).sum+(p.fs.map fun d=>mass d.bd).sum+(p.ru.map nsr).sum+(p.ds.map fun d=>d.ps.length).sum
def t21 (l:List Ru):Nat:=match l with
 | r :: _=>if r.k=21 then 1 else 0
 | []=>0
def Mi (p:Ps):Prop:=massP p≤3 * p.tk+t21 p.ru
theorem nsr_r0 (k:Nat) (h:k≠24∧k≠26):nsr (r0 k)=0:=by unfold nsr r0;simp [h.1,h.2]
theorem nsr_later (s:List UInt8):nsr (rLater s)=0:=rfl
theorem nsr_more (s:List UInt8) (j:Nat):nsr (rMore s j)=0:=rfl
theorem nsr_sig (s:List UInt8) (n:Nat):nsr (rSig s n)=0:=rfl
theorem nsr_form (s:List UInt8):nsr (rForm s)=0:=rfl
theorem nsr_def (s:List UInt8):nsr (rDef s)=0:=rfl
theorem nsr_data (s:List UInt8) (ns:List (List UInt8)):nsr (rData s ns)=ns.length:=rfl
theorem nsr_make (t:Tr) (n:Nat):nsr (rMake t n)=1+t.ns.length:=rfl
theorem mi_push {p q:Ps} {rs:List Ru} (h:pushR rs p=.inr q) (hM:massP p+(rs.map nsr).sum≤3 * p.tk+t21 rs):Mi q:=by
 cases h
 unfold Mi massP at *
 simp only [List.map_append,List.sum_append]
 have:t21 rs≤t21 (rs ++ p.ru):=by
  cases rs with
  | nil=>exact Nat.zero_le _
  | cons a r=>exact Nat.le_refl _
 omega
theorem massP_tk (p:Ps) (n:Nat):massP { p with tk:=n }=massP p:=rfl
theorem expr_mass {l:List Tk} {p q:Ps} (hM:massP p≤3 * p.tk) (h:exprR l p=.inr q):Mi q:=by
 unfold exprR at h
 split at h
 ·unfold lamR at h
  obtain ⟨p1,h1,h2⟩:=then_inv h
  obtain ⟨hl,rfl⟩:=key_inv h1
  obtain ⟨hl2,h3⟩:=take_inv (by decide) h2
  obtain ⟨p2,h4,h5⟩:=then_inv h3
  obtain ⟨hl3,rfl⟩:=key_inv h4
  refine mi_push h5 ?_
  simp only [massP_tk,List.map_cons,List.map_nil,List.sum_cons,List.sum_nil,nsr_r0 10 (by decide),nsr_make,bindT,List.length_singleton]
  omega
 split at h
 ·unfold letR at h
  obtain ⟨p1,h1,h2⟩:=then_inv h
  obtain ⟨hl,rfl⟩:=key_inv h1
  obtain ⟨hl2,h3⟩:=take_inv (by decide) h2
  obtain ⟨p2,h4,h5⟩:=then_inv h3
  obtain ⟨hl3,rfl⟩:=key_inv h4
  refine mi_push h5 ?_
  simp only [massP_tk,List.map_cons,List.map_nil,List.sum_cons,List.sum_nil,nsr_r0 10 (by decide),nsr_make,nsr_later,bindT,List.length_singleton]
  omega
 split at h
 ·unfold waysR at h
  obtain ⟨p1,h1,h2⟩:=then_inv h
  obtain ⟨hl,rfl⟩:=key_inv h1
  refine mi_push h2 ?_
  simp only [massP_tk,List.map_cons,List.map_nil,List.sum_cons,List.sum_nil,nsr_r0 10 (by decide),nsr_r0 11 (by decide),nsr_make,nsr_later,nsr_more,kindT,List.length_nil]
  omega
 split at h
 ·unfold choiceR at h
  obtain ⟨p1,h1,h2⟩:=then_inv h
  obtain ⟨hl,rfl⟩:=key_inv h1
  refine mi_push h2 ?_
  simp only [massP_tk,List.map_cons,List.map_nil,List.sum_cons,List.sum_nil,nsr_r0 10 (by decide),nsr_make,nsr_later,nsr_more,kindT,List.length_nil]
  omega
 have hblock:∀ {s:List UInt8} {k:Int},blockR l s k p=.inr q→Mi q:=fun h=>by
  unfold blockR at h
  obtain ⟨p1,h1,h2⟩:=then_inv h
  obtain ⟨hl,rfl⟩:=key_inv h1
  refine mi_push h2 ?_
  simp only [massP_tk,List.map_cons,List.map_nil,List.sum_cons,List.sum_nil,nsr_r0 12 (by decide),nsr_make,nsr_later,nsr_more,kindT,List.length_nil]
  omega
 split at h
 ·exact hblock h
 split at h
 ·exact hblock h
 ·refine mi_push h ?_
  simp only [List.map_cons,List.map_nil,List.sum_cons,List.sum_nil,nsr_r0 14 (by decide),nsr_r0 15 (by decide)]
  omega
theorem mi_same {p q:Ps} (hM:massP p≤3 * p.tk) (h:(.inr p:Rs)=.inr q):Mi q:=by
 cases h
 exact Nat.le_trans hM (Nat.le_add_right _ _)
theorem sigAtom_mass {l:List Tk} {p q:Ps} (hM:massP p≤3 * p.tk) (h:sigAtomR l p=.inr q):Mi q:=by
 unfold sigAtomR at h
 have hsg:∀ (x:List Sg),Mi { p with tk:=p.tk+1,sg:=x }:=fun x=>by
  show massP p≤3 * (p.tk+1)+_
  omega
 split at h
 ·obtain ⟨hl,h2⟩:=take_inv (by decide) h
  cases h2
  exact hsg _
 split at h
 ·obtain ⟨hl,h2⟩:=take_inv (by decide) h
  cases h2
  exact hsg _
 ·obtain ⟨p1,h1,h2⟩:=then_inv h
  obtain ⟨hl,rfl⟩:=key_inv h1
  refine mi_push h2 ?_
  simp only [massP_tk,List.map_cons,List.map_nil,List.sum_cons,List.sum_nil,nsr_r0 5 (by decide),nsr_later]
  omega
theorem rule_mass {l:List Tk} {r:Ru} {p q:Ps} (hM:massP p+nsr r≤3 * p.tk+(if r.k=21 then 1 else 0)) (h28:r.k=28→1≤p.ex.length) (h:ruleR l r p=.inr q):Mi q:=by
 obtain ⟨k,s,j,t,n,ns⟩:=r
 by_cases hk:28<k
 ·unfold ruleR at h
  simp only at h
  split at h <;> first | omega | cases h
 by_cases h13:k=13
 ·subst h13
  cases h
 have hcases:k=0∨k=1∨k=2∨k=3∨k=4∨k=5∨k=6∨k=7∨k=8∨k=9∨k=10∨k=11∨k=12∨k=14∨k=15∨k=16∨k=17∨k=18∨k=19∨k=20∨k=21∨k=22∨k=23∨k=24∨k=25∨k=26∨k=27∨k=28:=by omega
 have hM0:k≠21→massP p≤3 * p.tk:=fun h=>by simp [h] at hM;omega
 have hp2:∀ {a b:Nat},(a≠24∧a≠26)→(b≠24∧b≠26)→massP p≤3 * p.tk→pushR [r0 a,r0 b] p=.inr q→Mi q:=fun ha hb hM h=>by
  refine mi_push h ?_
  simp only [List.map_cons,List.map_nil,List.sum_cons,List.sum_nil,nsr_r0 _ ha,nsr_r0 _ hb]
  omega
 rcases hcases with rfl | rfl | rfl | rfl | rfl | rfl | rfl | rfl | rfl | rfl | rfl | rfl | rfl | rfl | rfl | rfl | rfl | rfl | rfl | rfl | rfl | rfl | rfl | rfl | rfl | rfl | rfl | rfl
 ·have h:endR l p=.inr q:=h
  unfold endR at h
  split at h
  ·cases h
  ·exact mi_same (hM0 (by decide)) h
 ·have h:progR l p=.inr q:=h
  obtain ⟨p1,h1,h2⟩:=then_inv h
  obtain ⟨hl,rfl⟩:=key_inv h1
  refine mi_push h2 ?_
  have:=hM0 (by decide)
  simp only [massP_tk,List.map_cons,List.map_nil,List.sum_cons,List.sum_nil,nsr_r0 2 (by decide),nsr_later]
  omega
 ·have h:declsR l p=.inr q:=h
  unfold declsR at h
  split at h
  ·exact mi_same (hM0 (by decide)) h
  ·refine mi_push h ?_
   have:=hM0 (by decide)
   simp only [List.map_cons,List.map_nil,List.sum_cons,List.sum_nil,nsr_r0 3 (by decide),nsr_more]
   omega
 ·have h:declR l p=.inr q:=h
  have hM1:=hM0 (by decide)
  unfold declR at h
  split at h
  ·obtain ⟨p1,h1,h2⟩:=then_inv h
   obtain ⟨hl,rfl⟩:=key_inv h1
   obtain ⟨hl2,h3⟩:=take_inv (by decide) h2
   unfold namesR at h3
   simp only at h3 hl2
   generalize namesN (l.drop (p.tk+1+1))=ns2 at *
   obtain ⟨p2,h4,h5⟩:=then_inv h3
   obtain ⟨hl3,rfl⟩:=key_inv h4
   refine mi_push h5 ?_
   simp only [massP_tk,List.map_cons,List.map_nil,List.sum_cons,List.sum_nil,nsr_r0 4 (by decide),nsr_more,nsr_data]
   omega
  ·obtain ⟨hl,h2⟩:=take_inv (by decide) h
   unfold namesR at h2
   simp only at h2
   generalize namesN (l.drop (p.tk+1))=ns at *
   obtain ⟨p2,h4,h5⟩:=then_inv h2
   obtain ⟨hl3,rfl⟩:=key_inv h4
   refine mi_push h5 ?_
   have hs:∀ xs:List (List UInt8),((xs.map fun n=>rMake (bindT 4 n) p.ex.length).map nsr).sum=2 * xs.length:=fun xs=>by
    induction xs with
    | nil=>rfl
    | cons a r ih=>
     have e:nsr (rMake (bindT 4 a) p.ex.length)=2:=rfl
     simp only [List.map_cons,List.sum_cons,ih,e,List.length_cons]
     omega
   have e:massP ({ p with tk:=p.tk+1+ns.length+1,ru:=(ns.reverse.map fun n=>rMake (bindT 4 n) p.ex.length) ++ (rDef (tkAt l p.tk).tx :: p.ru) }:Ps)=massP p+2 * ns.length:=by
    have h1:=hs ns.reverse
    rw [List.length_reverse] at h1
    unfold massP
    simp only [List.map_append,List.sum_append,h1,List.map_cons,List.sum_cons,nsr_def]
    omega
   show massP ({ p with tk:=p.tk+1+ns.length+1,ru:=(ns.reverse.map fun n=>rMake (bindT 4 n) p.ex.length) ++ (rDef (tkAt l p.tk).tx :: p.ru) }:Ps)+_≤3 * (p.tk+1+ns.length+1)+_
   rw [e]
   simp only [List.map_cons,List.map_nil,List.sum_cons,List.sum_nil,nsr_r0 10 (by decide)]
   omega
 ·have h:formR l p=.inr q:=h
  obtain ⟨hl,h2⟩:=take_inv (by decide) h
  refine mi_push h2 ?_
  have:=hM0 (by decide)
  simp only [massP_tk,List.map_cons,List.map_nil,List.sum_cons,List.sum_nil,nsr_r0 8 (by decide),nsr_form]
  omega
 ·exact hp2 (by decide) (by decide) (hM0 (by decide)) h
 ·have h:arrowR l p=.inr q:=h
  unfold arrowR at h
  split at h
  ·obtain ⟨p1,h1,h2⟩:=then_inv h
   obtain ⟨hl,rfl⟩:=key_inv h1
   refine mi_push h2 ?_
   have:=hM0 (by decide)
   simp only [massP_tk,List.map_cons,List.map_nil,List.sum_cons,List.sum_nil,nsr_r0 5 (by decide),nsr_sig]
   omega
  ·exact mi_same (hM0 (by decide)) h
 ·have h:sigAppR l p=.inr q:=h
  unfold sigAppR at h
  split at h
  ·obtain ⟨hl,h2⟩:=take_inv (by decide) h
   refine mi_push h2 ?_
   have:=hM0 (by decide)
   simp only [massP_tk,List.map_cons,List.map_nil,List.sum_cons,List.sum_nil,nsr_r0 8 (by decide),nsr_sig]
   omega
  ·exact sigAtom_mass (hM0 (by decide)) h
 ·have h:sigAtomsR l p=.inr q:=h
  unfold sigAtomsR at h
  split at h
  ·exact hp2 (by decide) (by decide) (hM0 (by decide)) h
  ·exact mi_same (hM0 (by decide)) h
 ·exact sigAtom_mass (hM0 (by decide)) h
 ·exact expr_mass (hM0 (by decide)) h
 ·have h:altR l p=.inr q:=h
  obtain ⟨hl,h2⟩:=take_inv (by decide) h
  unfold namesR at h2
  simp only at h2
  obtain ⟨p2,h4,h5⟩:=then_inv h2
  obtain ⟨hl3,rfl⟩:=key_inv h4
  refine mi_push h5 ?_
  have:=hM0 (by decide)
  simp only [massP_tk,List.map_cons,List.map_nil,List.sum_cons,List.sum_nil,nsr_r0 10 (by decide),nsr_make]
  omega
 ·have h:lineR l p=.inr q:=h
  unfold lineR at h
  split at h
  ·obtain ⟨hl,h2⟩:=take_inv (by decide) h
   refine mi_push h2 ?_
   have:=hM0 (by decide)
   simp only [massP_tk,List.map_cons,List.map_nil,List.sum_cons,List.sum_nil,nsr_r0 10 (by decide),nsr_make,nsr_later,bindT,List.length_singleton]
   omega
  ·exact expr_mass (hM0 (by decide)) h
 ·have h:comparedR l p=.inr q:=h
  unfold comparedR at h
  split at h
  ·obtain ⟨hl,h2⟩:=take_inv (by decide) h
   refine mi_push h2 ?_
   have:=hM0 (by decide)
   simp only [massP_tk,List.map_cons,List.map_nil,List.sum_cons,List.sum_nil,nsr_r0 15 (by decide),nsr_make,opT,List.length_nil]
   omega
  ·exact mi_same (hM0 (by decide)) h
 ·exact hp2 (by decide) (by decide) (hM0 (by decide)) h
 ·have h:addedR l p=.inr q:=h
  unfold addedR at h
  split at h
  ·obtain ⟨hl,h2⟩:=take_inv (by decide) h
   refine mi_push h2 ?_
   have:=hM0 (by decide)
   simp only [massP_tk,List.map_cons,List.map_nil,List.sum_cons,List.sum_nil,nsr_r0 17 (by decide),nsr_r0 16 (by decide),nsr_make,opT,List.length_nil]
   omega
  ·exact mi_same (hM0 (by decide)) h
 ·exact hp2 (by decide) (by decide) (hM0 (by decide)) h
 ·have h:multipliedR l p=.inr q:=h
  unfold multipliedR at h
  split at h
  ·obtain ⟨hl,h2⟩:=take_inv (by decide) h
   refine mi_push h2 ?_
   have:=hM0 (by decide)
   simp only [massP_tk,List.map_cons,List.map_nil,List.sum_cons,List.sum_nil,nsr_r0 19 (by decide),nsr_r0 18 (by decide),nsr_make,opT,List.length_nil]
   omega
  ·exact mi_same (hM0 (by decide)) h
 ·exact hp2 (by decide) (by decide) (hM0 (by decide)) h
 ·have h:appliedR l p=.inr q:=h
  unfold appliedR at h
  split at h
  ·refine mi_push h ?_
   have:=hM0 (by decide)
   simp only [List.map_cons,List.map_nil,List.sum_cons,List.sum_nil,nsr_r0 21 (by decide),nsr_r0 20 (by decide),nsr_make,kindT,List.length_nil]
   show _≤_+1
   omega
  ·exact mi_same (hM0 (by decide)) h
 ·have h:atomR l p=.inr q:=h
  have hM1:massP p≤3 * p.tk+1:=by
   have e:nsr (⟨21,s,j,t,n,ns⟩:Ru)=0:=rfl
   rw [e] at hM
   simpa using hM
  have hex:∀ (t:Tr),t.ns=[]→t.ks=[]→Mi { p with tk:=p.tk+1,ex:=p.ex ++ [t] }:=fun t h1 h2=>by
   have e:mass t=1:=by rw [mass_eq,h1,h2];rfl
   show massP _≤3 * (p.tk+1)+_
   unfold massP at hM1 ⊢
   simp only [List.map_append,List.sum_append,List.map_cons,List.map_nil,List.sum_cons,List.sum_nil,e]
   omega
  unfold atomR at h
  split at h
  ·obtain ⟨hl,h2⟩:=take_inv (by decide) h
   cases h2
   exact hex _ rfl rfl
  split at h
  ·obtain ⟨hl,h2⟩:=take_inv (by decide) h
   cases h2
   exact hex _ rfl rfl
  split at h
  ·obtain ⟨hl,h2⟩:=take_inv (by decide) h
   cases h2
   exact hex _ rfl rfl
  ·obtain ⟨p1,h1,h2⟩:=then_inv h
   obtain ⟨hl,rfl⟩:=key_inv h1
   refine mi_push h2 ?_
   simp only [massP_tk,List.map_cons,List.map_nil,List.sum_cons,List.sum_nil,nsr_r0 10 (by decide),nsr_later]
   omega
 ·have h:keyR l s p=.inr q:=h
  obtain ⟨hl,rfl⟩:=key_inv h
  have:=hM0 (by decide)
  show massP p≤3 * (p.tk+1)+_
  omega
 ·have h:moreR l s j p=.inr q:=h
  unfold moreR at h
  split at h
  ·obtain ⟨p1,h1,h2⟩:=then_inv h
   obtain ⟨hl,rfl⟩:=key_inv h1
   refine mi_push h2 ?_
   have:=hM0 (by decide)
   have e:nsr (r0 j)≤1:=by unfold nsr r0;simp only;split <;> simp [t0] <;> split <;> simp
   simp only [massP_tk,List.map_cons,List.map_nil,List.sum_cons,List.sum_nil,nsr_more]
   omega
  ·exact mi_same (hM0 (by decide)) h
 ·have h:makeR t n p=.inr q:=h
  cases h
  have hM1:massP p+(1+t.ns.length)≤3 * p.tk:=by
   have e:nsr (⟨24,s,j,t,n,ns⟩:Ru)=1+t.ns.length:=rfl
   rw [e] at hM
   simpa using hM
  have e:mass ({ t with ks:=p.ex.drop n }:Tr)=1+t.ns.length+((p.ex.drop n).map mass).sum:=mass_eq _
  have e2:(p.ex.map mass).sum=((p.ex.take n).map mass).sum+((p.ex.drop n).map mass).sum:=by rw [← List.sum_append,← List.map_append,List.take_append_drop]
  show massP _≤3 * p.tk+_
  unfold massP at hM1 ⊢
  simp only [List.map_append,List.sum_append,List.map_cons,List.map_nil,List.sum_cons,List.sum_nil,e]
  omega
 ·have h:makeSigR s n p=.inr q:=h
  cases h
  exact Nat.le_trans (hM0 (by decide)) (Nat.le_add_right _ _)
 ·have h:(.inr { p with ds:=p.ds ++ [⟨s,ns,p.fm⟩],fm:=[] }:Rs)=.inr q:=h
  cases h
  have hM1:massP p+ns.length≤3 * p.tk:=by
   have e:nsr (⟨26,s,j,t,n,ns⟩:Ru)=ns.length:=rfl
   rw [e] at hM
   simpa using hM
  show massP _≤3 * p.tk+_
  unfold massP at hM1 ⊢
  simp only [List.map_append,List.sum_append,List.map_cons,List.map_nil,List.sum_cons,List.sum_nil]
  omega
 ·have h:(.inr { p with fm:=p.fm ++ [⟨s,p.sg⟩],sg:=[] }:Rs)=.inr q:=h
  cases h
  exact Nat.le_trans (hM0 (by decide)) (Nat.le_add_right _ _)
 ·have h:(.inr { p with fs:=p.fs ++ [⟨s,p.ex.headD t0⟩],ex:=[] }:Rs)=.inr q:=h
  cases h
  have hM1:=hM0 (by decide)
  show massP _≤3 * p.tk+_
  unfold massP at hM1 ⊢
  have h1:=h28 rfl
  have:mass (p.ex.headD t0)≤(p.ex.map mass).sum:=by
   cases he:p.ex with
   | nil=>rw [he] at h1;simp at h1
   | cons a r=>simp
  simp only [List.map_append,List.sum_append,List.map_cons,List.map_nil,List.sum_cons,List.sum_nil]
  omega
theorem good_def {nd:Nat} {r:Ru} {q:List Ru} {m s:Nat} (hg:Good nd (r :: q) m s) (h:r.k=28):1≤m:=by
 obtain ⟨k,sx,j,t,n,ns⟩:=r
 simp only at h
 subst h
 exact hg.1
theorem run_mass {l:List Tk} {nd:Nat} (p:Ps):GoodP nd p→Mi p→∀ q,run l p=.inr q→massP q≤3 * q.tk:=by
 refine run_ind (l:=l) (M:=fun p=>GoodP nd p→Mi p→∀ q,run l p=.inr q→massP q≤3 * q.tk) (fun p ih hg hm q hq=>?_) p
 cases hru:p.ru with
 | nil=>
  rw [run_nil hru] at hq
  cases hq
  unfold Mi at hm
  rw [hru] at hm
  exact hm
 | cons r rest=>
  have hgd:Good nd (r :: rest) p.ex.length p.sg.length:=by unfold GoodP at hg;rw [hru] at hg;exact hg
  rw [run_cons hru] at hq
  cases hx:ruleR l r { p with ru:=rest } with
  | inl n=>rw [hx] at hq;cases hq
  | inr p2=>
   rw [hx] at hq
   have hm2:massP { p with ru:=rest }+nsr r≤3 * p.tk+(if r.k=21 then 1 else 0):=by
    unfold Mi massP at hm
    rw [hru] at hm
    unfold massP
    simp only [List.map_cons,List.sum_cons] at hm ⊢
    have e:t21 (r :: rest)=if r.k=21 then 1 else 0:=rfl
    rw [e] at hm
    omega
   exact ih r rest p2 hru hx (rule_good (p:={ p with ru:=rest }) hgd hx).1 (rule_mass (p:={ p with ru:=rest }) hm2 (good_def hgd) hx) q hq
section
variable {l l2:List Tk} {a N:Nat} {br:Bool} {E:List Tr} {bot:List Ru}
theorem ne_sR {s:List UInt8} (h:(s == sRight)=false):s≠sRight∨br=false:=.inl (by simpa using h)
theorem sft_ex (p:Ps):(sft a E bot p).ex.length=E.length+p.ex.length:=by unfold sft;simp
theorem sft_ex1 (p:Ps) (h:1≤p.ex.length∨E=[]):(sft a E bot p).ex.length - 1=p.ex.length - 1+E.length:=by
 rw [sft_ex]
 rcases h with h | h
 ·omega
 ·rw [h];simp
theorem prog_lk (hA:Alike l l2 a N br):Lk l a N E bot Any (progR l) (progR l2):=by
 show Lk l a N E bot Any (fun p=>progR l p) (fun p=>progR l2 p)
 unfold progR
 exact lk_then (lk_key hA (ne_sR (by decide))) fun p _=>lk_push0 rfl
theorem decls_lk (hA:Alike l l2 a N br):Lk l a N E bot Any (declsR l) (declsR l2):=by
 show Lk l a N E bot Any (fun p=>declsR l p) (fun p=>declsR l2 p)
 unfold declsR
 exact lk_ifK hA (ne_sR (by decide)) (lk_ret (g:=fun p=>p) (g2:=fun p=>p) (fun _=>rfl) fun _ _=>rfl) (lk_push0 rfl)
theorem data_lk (hA:Alike l l2 a N br):Lk l a N E bot Any (dataR l) (dataR l2):=by
 show Lk l a N E bot Any (fun p=>dataR l p) (fun p=>dataR l2 p)
 unfold dataR
 exact lk_then (lk_key hA (ne_sR (by decide))) fun p _=>lk_take hA (by decide) (.inl (by decide)) fun p t _=>lk_names hA fun p ns _=>lk_then (lk_key hA (ne_sR (by decide))) fun p _=>lk_push0 rfl
theorem def_lk (hA:Alike l l2 a N br):Lk l a N E bot Any (defR l) (defR l2):=by
 show Lk l a N E bot Any (fun p=>defR l p) (fun p=>defR l2 p)
 unfold defR
 refine lk_take hA (by decide) (.inl (by decide)) fun p t _=>lk_names hA fun p ns _=>lk_then (F:=fun p=>keyR l sEq { p with ru:=(ns.reverse.map fun n=>rMake (bindT 4 n) p.ex.length) ++ (rDef t.tx :: p.ru) }) (F2:=fun p=>keyR l2 sEq { p with ru:=(ns.reverse.map fun n=>rMake (bindT 4 n) p.ex.length) ++ (rDef t.tx :: p.ru) }) ?_ fun p _=>lk_push0 rfl
 refine lk_at (g:=fun p=>{ p with ru:=(ns.reverse.map fun n=>rMake (bindT 4 n) p.ex.length) ++ (rDef t.tx :: p.ru) }) (g2:=fun p=>{ p with ru:=(ns.reverse.map fun n=>rMake (bindT 4 n) p.ex.length) ++ (rDef t.tx :: p.ru) }) (lk_key hA (ne_sR (by decide))) (fun _=>rfl) fun p _=>?_
 unfold sft
 simp only [List.map_append,List.map_map,List.map_cons,List.append_assoc,List.cons_append,List.length_append]
 congr 2
 refine List.map_congr_left fun n _=>?_
 show rMake (bindT 4 n) (E.length+p.ex.length)=rMake (bindT 4 n) (p.ex.length+E.length)
 rw [Nat.add_comm]
theorem decl_lk (hA:Alike l l2 a N br):Lk l a N E bot Any (declR l) (declR l2):=by
 show Lk l a N E bot Any (fun p=>declR l p) (fun p=>declR l2 p)
 unfold declR
 exact lk_ifK hA (ne_sR (by decide)) (data_lk hA).any (def_lk hA)
theorem form_lk (hA:Alike l l2 a N br):Lk l a N E bot Any (formR l) (formR l2):=by
 show Lk l a N E bot Any (fun p=>formR l p) (fun p=>formR l2 p)
 unfold formR
 exact lk_take hA (by decide) (.inl (by decide)) fun p t _=>lk_push0 rfl
theorem arrow_lk (hA:Alike l l2 a N br):Lk l a N E bot Any (arrowR l) (arrowR l2):=by
 show Lk l a N E bot Any (fun p=>arrowR l p) (fun p=>arrowR l2 p)
 unfold arrowR
 refine lk_ifK hA (ne_sR (by decide)) (lk_then (lk_key hA (ne_sR (by decide))).any fun p _=>?_) (lk_ret (g:=fun p=>p) (g2:=fun p=>p) (fun _=>rfl) fun _ _=>rfl)
 exact lk_push (rs:=fun p=>[r0 5,rSig sArrow (p.sg.length - 1)]) (rs2:=fun p=>[r0 5,rSig sArrow (p.sg.length - 1)]) fun p _=>rfl
theorem sigAtom_lk (hA:Alike l l2 a N br):Lk l a N E bot Any (sigAtomR l) (sigAtomR l2):=by
 show Lk l a N E bot Any (fun p=>sigAtomR l p) (fun p=>sigAtomR l2 p)
 unfold sigAtomR
 refine lk_ifD hA (by decide) (by decide) ?_ (lk_ifD hA (by decide) (by decide) ?_ (lk_then (lk_key hA (ne_sR (by decide))) fun p _=>lk_push0 rfl))
 all_goals
  exact lk_take hA (by decide) (.inl (by decide)) fun p t _=>lk_ret (g:=fun p=>{ p with sg:=p.sg ++ [⟨t.tx,[]⟩] }) (g2:=fun p=>{ p with sg:=p.sg ++ [⟨t.tx,[]⟩] }) (fun _=>rfl) fun _ _=>rfl
theorem sigApp_lk (hA:Alike l l2 a N br):Lk l a N E bot Any (sigAppR l) (sigAppR l2):=by
 show Lk l a N E bot Any (fun p=>sigAppR l p) (fun p=>sigAppR l2 p)
 unfold sigAppR
 refine lk_ifD hA (by decide) (by decide) (lk_take hA (by decide) (.inl (by decide)) fun p t _=>?_) (sigAtom_lk hA)
 exact lk_push (rs:=fun p=>[r0 8,rSig t.tx p.sg.length]) (rs2:=fun p=>[r0 8,rSig t.tx p.sg.length]) fun p _=>rfl
theorem sigAtoms_lk (hA:Alike l l2 a N br):Lk l a N E bot Any (sigAtomsR l) (sigAtomsR l2):=by
 show Lk l a N E bot Any (fun p=>sigAtomsR l p) (fun p=>sigAtomsR l2 p)
 unfold sigAtomsR
 refine lk_if (b:=fun p=>isD l p.tk 3 || isD l p.tk 2 || isK l p.tk sLeft) (b2:=fun p=>isD l2 p.tk 3 || isD l2 p.tk 2 || isK l2 p.tk sLeft) (fun p _ _ h _=>?_) (lk_push0 rfl) (lk_ret (g:=fun p=>p) (g2:=fun p=>p) (fun _=>rfl) fun _ _=>rfl)
 show (isD l2 (p.tk+a) 3 || isD l2 (p.tk+a) 2 || isK l2 (p.tk+a) sLeft)=_
 rw [hA.kind h (by decide) (by decide),hA.kind h (by decide) (by decide),hA.key h (.inl (by decide))]
theorem lam_lk (hA:Alike l l2 a N br):Lk l a N E bot Any (lamR l) (lamR l2):=by
 show Lk l a N E bot Any (fun p=>lamR l p) (fun p=>lamR l2 p)
 unfold lamR
 refine lk_then (lk_key hA (ne_sR (by decide))) fun p _=>lk_take hA (by decide) (.inl (by decide)) fun p t _=>lk_then (lk_key hA (ne_sR (by decide))) fun p _=>lk_push0 ?_
 show [r0 10,rMake _ _]=[r0 10,rMake _ _]
 rw [sft_ex,Nat.add_comm]
 rfl
theorem let_lk (hA:Alike l l2 a N br):Lk l a N E bot Any (letR l) (letR l2):=by
 show Lk l a N E bot Any (fun p=>letR l p) (fun p=>letR l2 p)
 unfold letR
 refine lk_then (lk_key hA (ne_sR (by decide))) fun p _=>lk_take hA (by decide) (.inl (by decide)) fun p t _=>lk_then (lk_key hA (ne_sR (by decide))) fun p _=>lk_push0 ?_
 show [r0 10,rLater sIn,r0 10,rMake _ _]=[r0 10,rLater sIn,r0 10,rMake _ _]
 rw [sft_ex,Nat.add_comm]
 rfl
theorem ways_lk (hA:Alike l l2 a N br):Lk l a N E bot Any (waysR l) (waysR l2):=by
 show Lk l a N E bot Any (fun p=>waysR l p) (fun p=>waysR l2 p)
 unfold waysR
 refine lk_then (lk_key hA (ne_sR (by decide))) fun p _=>lk_push (rs:=fun p=>[r0 10,rLater sOf,rLater sCurl,r0 11,rMore sSemi 11,rLater sUncurl,rMake (kindT 7) p.ex.length]) (rs2:=fun p=>[r0 10,rLater sOf,rLater sCurl,r0 11,rMore sSemi 11,rLater sUncurl,rMake (kindT 7) p.ex.length]) fun p _=>?_
 rw [sft_ex,Nat.add_comm]
 rfl
theorem alt_lk (hA:Alike l l2 a N br):Lk l a N E bot Any (altR l) (altR l2):=by
 show Lk l a N E bot Any (fun p=>altR l p) (fun p=>altR l2 p)
 unfold altR
 refine lk_take hA (by decide) (.inl (by decide)) fun p t _=>lk_names hA fun p ns _=>lk_then (lk_key hA (ne_sR (by decide))) fun p _=>lk_push0 ?_
 show [r0 10,rMake _ _]=[r0 10,rMake _ _]
 rw [sft_ex,Nat.add_comm]
 rfl
theorem choice_lk (hA:Alike l l2 a N br):Lk l a N E bot Any (choiceR l) (choiceR l2):=by
 show Lk l a N E bot Any (fun p=>choiceR l p) (fun p=>choiceR l2 p)
 unfold choiceR
 refine lk_then (lk_key hA (ne_sR (by decide))) fun p _=>lk_push (rs:=fun p=>[r0 10,rLater sThen,r0 10,rLater sElse,r0 10,rMake (kindT 10) p.ex.length]) (rs2:=fun p=>[r0 10,rLater sThen,r0 10,rLater sElse,r0 10,rMake (kindT 10) p.ex.length]) fun p _=>?_
 rw [sft_ex,Nat.add_comm]
 rfl
theorem block_lk (hA:Alike l l2 a N br) {s:List UInt8} (hs:(s == sRight)=false) (k:Int):Lk l a N E bot Any (blockR l s k) (blockR l2 s k):=by
 show Lk l a N E bot Any (fun p=>blockR l s k p) (fun p=>blockR l2 s k p)
 unfold blockR
 refine lk_then (lk_key hA (ne_sR hs)) fun p _=>lk_push (rs:=fun p=>[rLater sCurl,r0 12,rMore sSemi 12,rLater sUncurl,rMake (kindT k) p.ex.length]) (rs2:=fun p=>[rLater sCurl,r0 12,rMore sSemi 12,rLater sUncurl,rMake (kindT k) p.ex.length]) fun p _=>?_
 rw [sft_ex,Nat.add_comm]
 rfl
theorem expr_lk (hA:Alike l l2 a N br):Lk l a N E bot Any (exprR l) (exprR l2):=by
 show Lk l a N E bot Any (fun p=>exprR l p) (fun p=>exprR l2 p)
 unfold exprR
 exact lk_ifK hA (ne_sR (by decide)) (lam_lk hA).any (lk_ifK hA (ne_sR (by decide)) (let_lk hA).any (lk_ifK hA (ne_sR (by decide)) (ways_lk hA).any (lk_ifK hA (ne_sR (by decide)) (choice_lk hA).any (lk_ifK hA (ne_sR (by decide)) (block_lk hA (by decide) 11).any (lk_ifK hA (ne_sR (by decide)) (block_lk hA (by decide) 12).any (lk_push0 rfl))))))
theorem line_lk (hA:Alike l l2 a N br):Lk l a N E bot Any (lineR l) (lineR l2):=by
 show Lk l a N E bot Any (fun p=>lineR l p) (fun p=>lineR l2 p)
 unfold lineR
 refine lk_if (b:=fun p=>isD l p.tk 2 && isK l (p.tk+1) sBack) (b2:=fun p=>isD l2 p.tk 2 && isK l2 (p.tk+1) sBack) (fun p _ _ h h2=>?_) (lk_take hA (by decide) (.inl (by decide)) fun p t _=>?_) (expr_lk hA)
 ·show (isD l2 (p.tk+a) 2 && isK l2 (p.tk+a+1) sBack)=_
  rw [hA.kind h (by decide) (by decide)]
  cases hd:isD l p.tk 2
  ·rfl
  ·have:=h2 hd
   rw [show p.tk+a+1=p.tk+1+a by omega,hA.key this (.inl (by decide))]
 ·refine lk_push (rs:=fun p=>[rLater sBack,r0 10,rMake (bindT 13 t.tx) p.ex.length]) (rs2:=fun p=>[rLater sBack,r0 10,rMake (bindT 13 t.tx) p.ex.length]) fun p _=>?_
  rw [sft_ex,Nat.add_comm]
  rfl
def Has (E:List Tr):Ps→Prop:=fun p=>1≤p.ex.length∨E=[]
theorem key_kind {l:List Tk} {i:Nat} {s:List UInt8} (h:isK l i s=true):isD l i 4=true:=by
 unfold isK at h
 unfold isD
 simp only [Bool.and_eq_true] at h
 exact h.1
theorem compared_lk (hA:Alike l l2 a N br):Lk l a N E bot (Has E) (comparedR l) (comparedR l2):=by
 show Lk l a N E bot (Has E) (fun p=>comparedR l p) (fun p=>comparedR l2 p)
 unfold comparedR operR
 refine lk_if (b:=fun p=>isK l p.tk [61,61] || isK l p.tk [60]) (b2:=fun p=>isK l2 p.tk [61,61] || isK l2 p.tk [60]) (fun p _ _ h _=>?_) (lk_takeP (Post:=Has E) (fun p hp=>hp.2) hA (by decide) (.inr fun p hp=>?_) fun p t hp=>?_) (lk_ret (g:=fun p=>p) (g2:=fun p=>p) (fun _=>rfl) fun _ _=>rfl)
 ·show (isK l2 (p.tk+a) [61,61] || isK l2 (p.tk+a) [60])=_
  rw [hA.key h (.inl (by decide)),hA.key h (.inl (by decide))]
 ·rcases Bool.or_eq_true _ _ ▸ hp.1 with h | h <;> exact key_kind h
 ·refine lk_push (rs:=fun p=>[r0 15,rMake (opT t.tx) (p.ex.length - 1)]) (rs2:=fun p=>[r0 15,rMake (opT t.tx) (p.ex.length - 1)]) fun p hp=>?_
  rw [sft_ex1 p hp]
  rfl
theorem added_lk (hA:Alike l l2 a N br):Lk l a N E bot (Has E) (addedR l) (addedR l2):=by
 show Lk l a N E bot (Has E) (fun p=>addedR l p) (fun p=>addedR l2 p)
 unfold addedR operR
 refine lk_if (b:=fun p=>isK l p.tk [43] || isK l p.tk [45]) (b2:=fun p=>isK l2 p.tk [43] || isK l2 p.tk [45]) (fun p _ _ h _=>?_) (lk_takeP (Post:=Has E) (fun p hp=>hp.2) hA (by decide) (.inr fun p hp=>?_) fun p t hp=>?_) (lk_ret (g:=fun p=>p) (g2:=fun p=>p) (fun _=>rfl) fun _ _=>rfl)
 ·show (isK l2 (p.tk+a) [43] || isK l2 (p.tk+a) [45])=_
  rw [hA.key h (.inl (by decide)),hA.key h (.inl (by decide))]
 ·rcases Bool.or_eq_true _ _ ▸ hp.1 with h | h <;> exact key_kind h
 ·refine lk_push (rs:=fun p=>[r0 17,rMake (opT t.tx) (p.ex.length - 1),r0 16]) (rs2:=fun p=>[r0 17,rMake (opT t.tx) (p.ex.length - 1),r0 16]) fun p hp=>?_
  rw [sft_ex1 p hp]
  rfl
theorem multiplied_lk (hA:Alike l l2 a N br):Lk l a N E bot (Has E) (multipliedR l) (multipliedR l2):=by
 show Lk l a N E bot (Has E) (fun p=>multipliedR l p) (fun p=>multipliedR l2 p)
 unfold multipliedR operR
 refine lk_if (b:=fun p=>isK l p.tk [42] || isK l p.tk [47]) (b2:=fun p=>isK l2 p.tk [42] || isK l2 p.tk [47]) (fun p _ _ h _=>?_) (lk_takeP (Post:=Has E) (fun p hp=>hp.2) hA (by decide) (.inr fun p hp=>?_) fun p t hp=>?_) (lk_ret (g:=fun p=>p) (g2:=fun p=>p) (fun _=>rfl) fun _ _=>rfl)
 ·show (isK l2 (p.tk+a) [42] || isK l2 (p.tk+a) [47])=_
  rw [hA.key h (.inl (by decide)),hA.key h (.inl (by decide))]
 ·rcases Bool.or_eq_true _ _ ▸ hp.1 with h | h <;> exact key_kind h
 ·refine lk_push (rs:=fun p=>[r0 19,rMake (opT t.tx) (p.ex.length - 1),r0 18]) (rs2:=fun p=>[r0 19,rMake (opT t.tx) (p.ex.length - 1),r0 18]) fun p hp=>?_
  rw [sft_ex1 p hp]
  rfl
theorem isAtm_lk (hA:Alike l l2 a N br) {i:Nat} (h:i≤N):isAtm l2 (i+a)=isAtm l i:=by
 unfold isAtm
 rw [hA.kind h (by decide) (by decide),hA.kind h (by decide) (by decide),hA.kind h (by decide) (by decide),hA.key h (.inl (by decide))]
theorem applied_lk (hA:Alike l l2 a N br):Lk l a N E bot (Has E) (appliedR l) (appliedR l2):=by
 show Lk l a N E bot (Has E) (fun p=>appliedR l p) (fun p=>appliedR l2 p)
 unfold appliedR
 refine lk_if (b:=fun p=>isAtm l p.tk) (b2:=fun p=>isAtm l2 p.tk) (fun p _ _ h _=>isAtm_lk hA h) (lk_push (rs:=fun p=>[r0 21,rMake (kindT 5) (p.ex.length - 1),r0 20]) (rs2:=fun p=>[r0 21,rMake (kindT 5) (p.ex.length - 1),r0 20]) fun p hp=>?_) (lk_ret (g:=fun p=>p) (g2:=fun p=>p) (fun _=>rfl) fun _ _=>rfl)
 rw [sft_ex1 p hp.2]
 rfl
theorem atom_lk (hA:Alike l l2 a N br):Lk l a N E bot Any (atomR l) (atomR l2):=by
 show Lk l a N E bot Any (fun p=>atomR l p) (fun p=>atomR l2 p)
 unfold atomR
 refine lk_ifD hA (by decide) (by decide) ?_ (lk_ifD hA (by decide) (by decide) ?_ (lk_ifD hA (by decide) (by decide) ?_ (lk_then (lk_key hA (ne_sR (by decide))) fun p _=>lk_push0 rfl)))
 ·exact lk_take hA (by decide) (.inl (by decide)) fun p t _=>lk_ret (g:=fun p=>{ p with ex:=p.ex ++ [⟨1,[],t.nu,[],[]⟩] }) (g2:=fun p=>{ p with ex:=p.ex ++ [⟨1,[],t.nu,[],[]⟩] }) (fun _=>rfl) fun _ _=>by simp [sft]
 ·exact lk_take hA (by decide) (.inl (by decide)) fun p t _=>lk_ret (g:=fun p=>{ p with ex:=p.ex ++ [⟨2,t.tx,0,[],[]⟩] }) (g2:=fun p=>{ p with ex:=p.ex ++ [⟨2,t.tx,0,[],[]⟩] }) (fun _=>rfl) fun _ _=>by simp [sft]
 ·exact lk_take hA (by decide) (.inl (by decide)) fun p t _=>lk_ret (g:=fun p=>{ p with ex:=p.ex ++ [⟨3,t.tx,0,[],[]⟩] }) (g2:=fun p=>{ p with ex:=p.ex ++ [⟨3,t.tx,0,[],[]⟩] }) (fun _=>rfl) fun _ _=>by simp [sft]
theorem more_lk (hA:Alike l l2 a N br) {s:List UInt8} (hs:s≠sRight∨br=false) (j:Nat) (hj:j≠24):Lk l a N E bot Any (moreR l s j) (moreR l2 s j):=by
 show Lk l a N E bot Any (fun p=>moreR l s j p) (fun p=>moreR l2 s j p)
 unfold moreR
 refine lk_ifK hA hs (lk_then (lk_key hA hs).any fun p _=>lk_push0 ?_) (lk_ret (g:=fun p=>p) (g2:=fun p=>p) (fun _=>rfl) fun _ _=>rfl)
 show [r0 j,rMore s j]=[shn E.length (r0 j),rMore s j]
 rw [shn_r0 _ _ hj]
theorem make_lk (t:Tr) (n:Nat):Lk l a N E bot Any (makeR t n) (makeR t (n+E.length)):=by
 show Lk l a N E bot Any (fun p=>makeR t n p) (fun p=>makeR t (n+E.length) p)
 unfold makeR
 refine lk_ret (g:=fun p=>{ p with ex:=p.ex.take n ++ [{ t with ks:=p.ex.drop n }] }) (g2:=fun p=>{ p with ex:=p.ex.take (n+E.length) ++ [{ t with ks:=p.ex.drop (n+E.length) }] }) (fun _=>rfl) fun p _=>?_
 unfold sft
 simp only [List.take_append,List.drop_append,Nat.add_sub_cancel,List.append_assoc]
 rw [List.take_of_length_le (Nat.le_add_left _ _),List.drop_eq_nil_of_le (Nat.le_add_left _ _),List.nil_append]
theorem makeSig_lk (s:List UInt8) (n:Nat):Lk l a N E bot Any (makeSigR s n) (makeSigR s n):=by
 show Lk l a N E bot Any (fun p=>makeSigR s n p) (fun p=>makeSigR s n p)
 unfold makeSigR
 exact lk_ret (g:=fun p=>{ p with sg:=p.sg.take n ++ [⟨s,p.sg.drop n⟩] }) (g2:=fun p=>{ p with sg:=p.sg.take n ++ [⟨s,p.sg.drop n⟩] }) (fun _=>rfl) fun p _=>rfl
theorem end_lk (h:∀ i,i≤N→(i+a<l2.length ↔ i<l.length)):Lk l a N E bot Any (endR l) (endR l2):=by
 intro p _ hp
 unfold endR
 by_cases hk:p.tk<l.length
 ·rw [if_pos hk]
  refine ⟨Nat.le_refl _,hp,fun hc=>?_⟩
  have hc1:p.tk≤N:=Cn.le (n:=p.tk) hc hp
  show (if p.tk+a<l2.length then _ else _)=_
  rw [if_pos ((h _ hc1).2 hk)]
  rfl
 ·rw [if_neg hk]
  refine ⟨Nat.le_refl _,hp,fun hc=>?_⟩
  have hc1:p.tk≤N:=Cn.le (n:=p.tk) hc hp
  show (if p.tk+a<l2.length then _ else _)=_
  rw [if_neg (fun hl=>hk ((h _ hc1).1 hl))]
  rfl
structure Ask (l l2:List Tk) (a N:Nat) (br:Bool) (E:List Tr) (r:Ru):Prop where
 end':r.k=0→∀ i,i≤N→(i+a<l2.length ↔ i<l.length)
 key:r.k=22∨r.k=23→r.s≠sRight∨br=false
 more:r.k=23→r.j≠24
 def':r.k=28→E=[]
theorem rule_lk (hA:Alike l l2 a N br) (r:Ru) (hr:Ask l l2 a N br E r):Lk l a N E bot (fun p=>r.k=14∨r.k=16∨r.k=18∨r.k=20→Has E p) (ruleR l r) (ruleR l2 (shn E.length r)):=by
 obtain ⟨k,s,j,t,n,ns⟩:=r
 obtain ⟨h0,h22,h23,h28⟩:=hr
 simp only at h0 h22 h23 h28
 intro p hpre hp
 simp only at hpre
 by_cases h24:k=24
 ·subst h24
  exact make_lk t n p trivial hp
 rw [shn_not h24]
 have W:∀ {F F2:Ps→Rs},ruleR l ⟨k,s,j,t,n,ns⟩ p=F p→ruleR l2 ⟨k,s,j,t,n,ns⟩ (sft a E bot p)=F2 (sft a E bot p)→∀ {Pre:Ps→Prop},Pre p→Lk l a N E bot Pre F F2→p.tk≤pos (ruleR l ⟨k,s,j,t,n,ns⟩ p)∧pos (ruleR l ⟨k,s,j,t,n,ns⟩ p)≤l.length∧(Cn l N (pos (ruleR l ⟨k,s,j,t,n,ns⟩ p))→ruleR l2 ⟨k,s,j,t,n,ns⟩ (sft a E bot p)=sftR a E bot (ruleR l ⟨k,s,j,t,n,ns⟩ p)):=by
  intro F F2 e1 e2 Pre hP h
  rw [e1,e2]
  exact h p hP hp
 by_cases hk:28<k
 ·have e:∀ (L:List Tk) (q:Ps),ruleR L ⟨k,s,j,t,n,ns⟩ q=.inl q.tk:=by
   intro L q
   unfold ruleR
   simp only
   split <;> first | omega | rfl
  rw [e,e]
  exact ⟨Nat.le_refl _,hp,fun _=>rfl⟩
 by_cases h13:k=13
 ·subst h13
  exact ⟨Nat.le_refl _,hp,fun _=>rfl⟩
 have hcases:k=0∨k=1∨k=2∨k=3∨k=4∨k=5∨k=6∨k=7∨k=8∨k=9∨k=10∨k=11∨k=12∨k=14∨k=15∨k=16∨k=17∨k=18∨k=19∨k=20∨k=21∨k=22∨k=23∨k=25∨k=26∨k=27∨k=28:=by omega
 rcases hcases with rfl | rfl | rfl | rfl | rfl | rfl | rfl | rfl | rfl | rfl | rfl | rfl | rfl | rfl | rfl | rfl | rfl | rfl | rfl | rfl | rfl | rfl | rfl | rfl | rfl | rfl | rfl
 ·exact W (F:=endR l) (F2:=endR l2) rfl rfl (Pre:=Any) trivial (end_lk (h0 rfl))
 ·exact W (F:=progR l) (F2:=progR l2) rfl rfl (Pre:=Any) trivial (prog_lk hA)
 ·exact W (F:=declsR l) (F2:=declsR l2) rfl rfl (Pre:=Any) trivial (decls_lk hA)
 ·exact W (F:=declR l) (F2:=declR l2) rfl rfl (Pre:=Any) trivial (decl_lk hA)
 ·exact W (F:=formR l) (F2:=formR l2) rfl rfl (Pre:=Any) trivial (form_lk hA)
 ·exact W (F:=sigR) (F2:=sigR) rfl rfl (Pre:=Any) trivial (lk_push0 rfl)
 ·exact W (F:=arrowR l) (F2:=arrowR l2) rfl rfl (Pre:=Any) trivial (arrow_lk hA)
 ·exact W (F:=sigAppR l) (F2:=sigAppR l2) rfl rfl (Pre:=Any) trivial (sigApp_lk hA)
 ·exact W (F:=sigAtomsR l) (F2:=sigAtomsR l2) rfl rfl (Pre:=Any) trivial (sigAtoms_lk hA)
 ·exact W (F:=sigAtomR l) (F2:=sigAtomR l2) rfl rfl (Pre:=Any) trivial (sigAtom_lk hA)
 ·exact W (F:=exprR l) (F2:=exprR l2) rfl rfl (Pre:=Any) trivial (expr_lk hA)
 ·exact W (F:=altR l) (F2:=altR l2) rfl rfl (Pre:=Any) trivial (alt_lk hA)
 ·exact W (F:=lineR l) (F2:=lineR l2) rfl rfl (Pre:=Any) trivial (line_lk hA)
 ·exact W (F:=comparedR l) (F2:=comparedR l2) rfl rfl (Pre:=Has E) (hpre (.inl rfl)) (compared_lk hA)
 ·exact W (F:=pushR [r0 17,r0 16]) (F2:=pushR [r0 17,r0 16]) rfl rfl (Pre:=Any) trivial (lk_push0 rfl)
 ·exact W (F:=addedR l) (F2:=addedR l2) rfl rfl (Pre:=Has E) (hpre (.inr (.inl rfl))) (added_lk hA)
 ·exact W (F:=pushR [r0 19,r0 18]) (F2:=pushR [r0 19,r0 18]) rfl rfl (Pre:=Any) trivial (lk_push0 rfl)
 ·exact W (F:=multipliedR l) (F2:=multipliedR l2) rfl rfl (Pre:=Has E) (hpre (.inr (.inr (.inl rfl)))) (multiplied_lk hA)
 ·exact W (F:=pushR [r0 21,r0 20]) (F2:=pushR [r0 21,r0 20]) rfl rfl (Pre:=Any) trivial (lk_push0 rfl)
 ·exact W (F:=appliedR l) (F2:=appliedR l2) rfl rfl (Pre:=Has E) (hpre (.inr (.inr (.inr rfl)))) (applied_lk hA)
 ·exact W (F:=atomR l) (F2:=atomR l2) rfl rfl (Pre:=Any) trivial (atom_lk hA)
 ·exact W (F:=keyR l s) (F2:=keyR l2 s) rfl rfl (Pre:=Any) trivial (lk_key hA (h22 (.inl rfl)))
 ·exact W (F:=moreR l s j) (F2:=moreR l2 s j) rfl rfl (Pre:=Any) trivial (more_lk hA (h22 (.inr rfl)) j (h23 rfl))
 ·exact W (F:=makeSigR s n) (F2:=makeSigR s n) rfl rfl (Pre:=Any) trivial (makeSig_lk s n)
 ·exact W (F:=fun p=>.inr { p with ds:=p.ds ++ [⟨s,ns,p.fm⟩],fm:=[] }) (F2:=fun p=>.inr { p with ds:=p.ds ++ [⟨s,ns,p.fm⟩],fm:=[] }) rfl rfl (Pre:=Any) trivial (lk_ret (g:=fun p=>{ p with ds:=p.ds ++ [⟨s,ns,p.fm⟩],fm:=[] }) (g2:=fun p=>{ p with ds:=p.ds ++ [⟨s,ns,p.fm⟩],fm:=[] }) (fun _=>rfl) fun _ _=>rfl)
 ·exact W (F:=fun p=>.inr { p with fm:=p.fm ++ [⟨s,p.sg⟩],sg:=[] }) (F2:=fun p=>.inr { p with fm:=p.fm ++ [⟨s,p.sg⟩],sg:=[] }) rfl rfl (Pre:=Any) trivial (lk_ret (g:=fun p=>{ p with fm:=p.fm ++ [⟨s,p.sg⟩],sg:=[] }) (g2:=fun p=>{ p with fm:=p.fm ++ [⟨s,p.sg⟩],sg:=[] }) (fun _=>rfl) fun _ _=>rfl)
 ·have e:=h28 rfl
  exact W (F:=fun p=>.inr { p with fs:=p.fs ++ [⟨s,p.ex.headD t0⟩],ex:=[] }) (F2:=fun p=>.inr { p with fs:=p.fs ++ [⟨s,p.ex.headD t0⟩],ex:=[] }) rfl rfl (Pre:=Any) trivial (lk_ret (g:=fun p=>{ p with fs:=p.fs ++ [⟨s,p.ex.headD t0⟩],ex:=[] }) (g2:=fun p=>{ p with fs:=p.fs ++ [⟨s,p.ex.headD t0⟩],ex:=[] }) (fun _=>rfl) fun _ _=>by subst e;rfl)
end
theorem Alike.refl (l:List Tk) (N:Nat) (br:Bool):Alike l l 0 N br:=fun i _=>.inl rfl
theorem good_ask {l l2:List Tk} {a N nd:Nat} {r:Ru} {q:List Ru} {m s:Nat} (hg:Good nd (r :: q) m s) (hlen:∀ i,i≤N→(i+a<l2.length ↔ i<l.length)):Ask l l2 a N false [] r:=by
 refine ⟨fun _=>hlen,fun _=>.inr rfl,fun h=>?_,fun _=>rfl⟩
 obtain ⟨k,sx,j,t,n,ns⟩:=r
 simp only at h
 subst h
 have:(j=3∧Good nd q 0 0)∨(j=4∧Good nd q m 0)∨((j=11∨j=12)∧Good nd q m s):=hg
 show j≠24
 omega
theorem good_has {nd:Nat} {r:Ru} {q:List Ru} {m s:Nat} (hg:Good nd (r :: q) m s) (h:r.k=14∨r.k=16∨r.k=18∨r.k=20):1≤m:=by
 obtain ⟨k,sx,j,t,n,ns⟩:=r
 simp only at h
 rcases h with rfl | rfl | rfl | rfl
 all_goals exact hg.1
theorem run_pos {l:List Tk} {nd:Nat} (p:Ps):GoodP nd p→p.tk≤l.length→p.tk≤pos (run l p)∧pos (run l p)≤l.length:=by
 refine run_ind (l:=l) (M:=fun p=>GoodP nd p→p.tk≤l.length→p.tk≤pos (run l p)∧pos (run l p)≤l.length) (fun p ih hg hp=>?_) p
 cases hru:p.ru with
 | nil=>rw [run_nil hru];exact ⟨Nat.le_refl _,hp⟩
 | cons r q=>
  have hgd:Good nd (r :: q) p.ex.length p.sg.length:=by unfold GoodP at hg;rw [hru] at hg;exact hg
  obtain ⟨h1,h2,-⟩:=rule_lk (E:=[]) (bot:=[]) (Alike.refl l 0 false) r (good_ask hgd fun _ _=>Iff.rfl) { p with ru:=q } (fun _=>.inr rfl) hp
  rw [run_cons hru]
  cases hx:ruleR l r { p with ru:=q } with
  | inl n=>rw [hx] at h1 h2;exact ⟨h1,h2⟩
  | inr p2=>
   rw [hx] at h1 h2
   obtain ⟨h3,h4⟩:=ih r q p2 hru hx (rule_good (p:={ p with ru:=q }) hgd hx).1 h2
   exact ⟨Nat.le_trans h1 h3,h4⟩
theorem run_bot {l:List Tk} {nd:Nat} (bot:List Ru) (p:Ps):GoodP nd p→p.tk≤l.length→run l (sft 0 [] bot p)=(match run l p with | .inl n=>.inl n | .inr q=>run l (sft 0 [] bot q)):=by
 refine run_ind (l:=l) (M:=fun p=>GoodP nd p→p.tk≤l.length→run l (sft 0 [] bot p)=(match run l p with | .inl n=>.inl n | .inr q=>run l (sft 0 [] bot q))) (fun p ih hg hp=>?_) p
 cases hru:p.ru with
 | nil=>rw [run_nil hru]
 | cons r q=>
  have hgd:Good nd (r :: q) p.ex.length p.sg.length:=by unfold GoodP at hg;rw [hru] at hg;exact hg
  obtain ⟨h1,h2,h3⟩:=rule_lk (E:=[]) (bot:=bot) (Alike.refl l l.length false) r (good_ask hgd fun _ _=>Iff.rfl) { p with ru:=q } (fun _=>.inr rfl) hp
  have hs:(sft 0 [] bot p).ru=shn 0 r :: (q.map (shn 0) ++ bot):=by unfold sft;rw [hru];rfl
  rw [run_cons hru,run_cons hs]
  have e:({ sft 0 [] bot p with ru:=q.map (shn 0) ++ bot }:Ps)=sft 0 [] bot { p with ru:=q }:=rfl
  rw [e]
  rw [show ruleR l (shn 0 r) (sft 0 [] bot { p with ru:=q })=_ from h3 (.inr (.inr (Nat.le_refl _)))]
  cases hx:ruleR l r { p with ru:=q } with
  | inl n=>rfl
  | inr p2=>
   rw [hx] at h2
   exact ih r q p2 hru hx (rule_good (p:={ p with ru:=q }) hgd hx).1 h2
def ps0 (rs:List Ru):Ps:=⟨0,rs,[],[],[],[],[]⟩
def progRun (l:List Tk):Rs:=run l (ps0 [r0 1,r0 0])
def exprRun (l:List Tk):Rs:=run l (ps0 [r0 10,r0 0])
theorem good_prog:GoodP 0 (ps0 [r0 1,r0 0]):=Nat.le_refl _
theorem good_expr:GoodP 1 (ps0 [r0 10,r0 0]):=Nat.le_refl _
def sgn (s:List UInt8):Tk:=⟨4,s,0,0,0⟩
end Go.Proofs.YtcnnlecjdkfdjaaGreatDoor
