/- Mass: the texts of these names, of which the claim is made. -/
import Derived.Test.YtcnnlecjdkfdjaaGreatDoorParts
set_option linter.unusedVariables false
set_option linter.unusedSimpArgs false
set_option maxRecDepth 100000
set_option maxHeartbeats 8000000
namespace Go.Proofs.YtcnnlecjdkfdjaaGreatDoor
def mass (t:Tr):Nat:=t.fold fun t l=>1+t.ns.length+(l.map fun k=>k.2).sum
theorem mass_eq (t:Tr):mass t=1+t.ns.length+(t.ks.map mass).sum:=by
 unfold mass
 rw [Tr.fold_eq]
 simp only [List.map_map]
 rfl
theorem sum_memM {α:Type} (f:α→Nat):∀ {l:List α} {x:α},x ∈ l→f x≤(l.map f).sum
 | a :: r,x,h=>by
  rcases List.mem_cons.1 h with rfl | h
  ·simp
  ·have:=sum_memM f h
   simp only [List.map_cons,List.sum_cons]
   omega
theorem sum_len {α:Type} (f:α→Nat) (hf:∀ x,1≤f x):∀ l:List α,l.length≤(l.map f).sum
 | []=>by simp
 | a :: r=>by
  have:=sum_len f hf r
  have:=hf a
  simp only [List.map_cons,List.sum_cons,List.length_cons]
  omega
theorem mass_pos (t:Tr):1≤mass t:=by rw [mass_eq];omega
theorem mass_po (e:Tr):∀ n x,x ∈ po e n→x.1+mass x.2≤n+mass e:=by
 induction e using Tr.ind with
 | _ e ih=>
  intro n x hx
  rw [po_eq] at hx
  rcases List.mem_cons.1 hx with rfl | hx
  ·exact Nat.le_refl _
  ·obtain ⟨k,hk,hx⟩:=List.mem_flatMap.1 hx
   have h1:=ih k hk (n+1) x hx
   have h2:=sum_memM mass hk
   have h3:=mass_eq e
   omega
theorem mass_D {e:Tr} (h:mass e≤900000):∀ x ∈ po e 1,x.1≤1000000∧x.2.ks.length≤1000000:=fun x hx=>by
 have h1:=mass_po e 1 x hx
 have h2:=mass_eq x.2
 have h3:=sum_len mass mass_pos x.2.ks
 omega
def nsr (r:Ru):Nat:=if r.k=24 then 1+r.t.ns.length else if r.k=26 then r.ns.length else 0
def massP (p:Ps):Nat:=(p.ex.map mass).sum+(p.fs.map fun d=>mass d.bd).sum+(p.ru.map nsr).sum+(p.ds.map fun d=>d.ps.length).sum
def t21 (l:List Ru):Nat:=match l with
 | r :: _=>if r.k=21 then 1 else 0
 | []=>0
def Mi (p:Ps):Prop:=massP p≤3 * p.tk+t21 p.ru
theorem nsr_r0 (k:Nat) (h:k≠24∧k≠26):nsr (r0 k)=0:=by unfold nsr r0;simp [h.1,h.2]
theorem nsr_later (s:List UInt8):nsr (rLater s)=0:=rfl
theorem nsr_more (s:List UInt8) (j:Nat):nsr (rMore s j)=0:=rfl
theorem nsr_sig (s:List UInt8) (n:Nat):nsr (rSig s n)=0:=rfl
theorem nsr_form (s:List UInt8):nsr (rForm s)=0:=rfl
theorem nsr_def (s:List UInt8):nsr (rDef s)=0:=rfl
theorem nsr_data (s:List UInt8) (ns:List (List UInt8)):nsr (rData s ns)=ns.length:=rfl
theorem nsr_make (t:Tr) (n:Nat):nsr (rMake t n)=1+t.ns.length:=rfl
theorem mi_push {p q:Ps} {rs:List Ru} (h:pushR rs p=.inr q) (hM:massP p+(rs.map nsr).sum≤3 * p.tk+t21 rs):Mi q:=by
 cases h
 unfold Mi massP at *
 simp only [List.map_append,List.sum_append]
 have:t21 rs≤t21 (rs ++ p.ru):=by
  cases rs with
  | nil=>exact Nat.zero_le _
  | cons a r=>exact Nat.le_refl _
 omega
theorem massP_tk (p:Ps) (n:Nat):massP { p with tk:=n }=massP p:=rfl
theorem expr_mass {l:List Tk} {p q:Ps} (hM:massP p≤3 * p.tk) (h:exprR l p=.inr q):Mi q:=by
 unfold exprR at h
 split at h
 ·unfold lamR at h
  obtain ⟨p1,h1,h2⟩:=then_inv h
  obtain ⟨hl,rfl⟩:=key_inv h1
  obtain ⟨hl2,h3⟩:=take_inv (by decide) h2
  obtain ⟨p2,h4,h5⟩:=then_inv h3
  obtain ⟨hl3,rfl⟩:=key_inv h4
  refine mi_push h5 ?_
  simp only [massP_tk,List.map_cons,List.map_nil,List.sum_cons,List.sum_nil,nsr_r0 10 (by decide),nsr_make,bindT,List.length_singleton]
  omega
 split at h
 ·unfold letR at h
  obtain ⟨p1,h1,h2⟩:=then_inv h
  obtain ⟨hl,rfl⟩:=key_inv h1
  obtain ⟨hl2,h3⟩:=take_inv (by decide) h2
  obtain ⟨p2,h4,h5⟩:=then_inv h3
  obtain ⟨hl3,rfl⟩:=key_inv h4
  refine mi_push h5 ?_
  simp only [massP_tk,List.map_cons,List.map_nil,List.sum_cons,List.sum_nil,nsr_r0 10 (by decide),nsr_make,nsr_later,bindT,List.length_singleton]
  omega
 split at h
 ·unfold waysR at h
  obtain ⟨p1,h1,h2⟩:=then_inv h
  obtain ⟨hl,rfl⟩:=key_inv h1
  refine mi_push h2 ?_
  simp only [massP_tk,List.map_cons,List.map_nil,List.sum_cons,List.sum_nil,nsr_r0 10 (by decide),nsr_r0 11 (by decide),nsr_make,nsr_later,nsr_more,kindT,List.length_nil]
  omega
 split at h
 ·unfold choiceR at h
  obtain ⟨p1,h1,h2⟩:=then_inv h
  obtain ⟨hl,rfl⟩:=key_inv h1
  refine mi_push h2 ?_
  simp only [massP_tk,List.map_cons,List.map_nil,List.sum_cons,List.sum_nil,nsr_r0 10 (by decide),nsr_make,nsr_later,nsr_more,kindT,List.length_nil]
  omega
 have hblock:∀ {s:List UInt8} {k:Int},blockR l s k p=.inr q→Mi q:=fun h=>by
  unfold blockR at h
  obtain ⟨p1,h1,h2⟩:=then_inv h
  obtain ⟨hl,rfl⟩:=key_inv h1
  refine mi_push h2 ?_
  simp only [massP_tk,List.map_cons,List.map_nil,List.sum_cons,List.sum_nil,nsr_r0 12 (by decide),nsr_make,nsr_later,nsr_more,kindT,List.length_nil]
  omega
 split at h
 ·exact hblock h
 split at h
 ·exact hblock h
 ·refine mi_push h ?_
  simp only [List.map_cons,List.map_nil,List.sum_cons,List.sum_nil,nsr_r0 14 (by decide),nsr_r0 15 (by decide)]
  omega
theorem mi_same {p q:Ps} (hM:massP p≤3 * p.tk) (h:(.inr p:Rs)=.inr q):Mi q:=by
 cases h
 exact Nat.le_trans hM (Nat.le_add_right _ _)
theorem sigAtom_mass {l:List Tk} {p q:Ps} (hM:massP p≤3 * p.tk) (h:sigAtomR l p=.inr q):Mi q:=by
 unfold sigAtomR at h
 have hsg:∀ (x:List Sg),Mi { p with tk:=p.tk+1,sg:=x }:=fun x=>by
  show massP p≤3 * (p.tk+1)+_
  omega
 split at h
 ·obtain ⟨hl,h2⟩:=take_inv (by decide) h
  cases h2
  exact hsg _
 split at h
 ·obtain ⟨hl,h2⟩:=take_inv (by decide) h
  cases h2
  exact hsg _
 ·obtain ⟨p1,h1,h2⟩:=then_inv h
  obtain ⟨hl,rfl⟩:=key_inv h1
  refine mi_push h2 ?_
  simp only [massP_tk,List.map_cons,List.map_nil,List.sum_cons,List.sum_nil,nsr_r0 5 (by decide),nsr_later]
  omega
theorem rule_mass {l:List Tk} {r:Ru} {p q:Ps} (hM:massP p+nsr r≤3 * p.tk+(if r.k=21 then 1 else 0)) (h28:r.k=28→1≤p.ex.length) (h:ruleR l r p=.inr q):Mi q:=by
 obtain ⟨k,s,j,t,n,ns⟩:=r
 by_cases hk:28<k
 ·unfold ruleR at h
  simp only at h
  split at h <;> first | omega | cases h
 by_cases h13:k=13
 ·subst h13
  cases h
 have hcases:k=0∨k=1∨k=2∨k=3∨k=4∨k=5∨k=6∨k=7∨k=8∨k=9∨k=10∨k=11∨k=12∨k=14∨k=15∨k=16∨k=17∨k=18∨k=19∨k=20∨k=21∨k=22∨k=23∨k=24∨k=25∨k=26∨k=27∨k=28:=by omega
 have hM0:k≠21→massP p≤3 * p.tk:=fun h=>by simp [h] at hM;omega
 have hp2:∀ {a b:Nat},(a≠24∧a≠26)→(b≠24∧b≠26)→massP p≤3 * p.tk→pushR [r0 a,r0 b] p=.inr q→Mi q:=fun ha hb hM h=>by
  refine mi_push h ?_
  simp only [List.map_cons,List.map_nil,List.sum_cons,List.sum_nil,nsr_r0 _ ha,nsr_r0 _ hb]
  omega
 rcases hcases with rfl | rfl | rfl | rfl | rfl | rfl | rfl | rfl | rfl | rfl | rfl | rfl | rfl | rfl | rfl | rfl | rfl | rfl | rfl | rfl | rfl | rfl | rfl | rfl | rfl | rfl | rfl | rfl
 ·have h:endR l p=.inr q:=h
  unfold endR at h
  split at h
  ·cases h
  ·exact mi_same (hM0 (by decide)) h
 ·have h:progR l p=.inr q:=h
  obtain ⟨p1,h1,h2⟩:=then_inv h
  obtain ⟨hl,rfl⟩:=key_inv h1
  refine mi_push h2 ?_
  have:=hM0 (by decide)
  simp only [massP_tk,List.map_cons,List.map_nil,List.sum_cons,List.sum_nil,nsr_r0 2 (by decide),nsr_later]
  omega
 ·have h:declsR l p=.inr q:=h
  unfold declsR at h
  split at h
  ·exact mi_same (hM0 (by decide)) h
  ·refine mi_push h ?_
   have:=hM0 (by decide)
   simp only [List.map_cons,List.map_nil,List.sum_cons,List.sum_nil,nsr_r0 3 (by decide),nsr_more]
   omega
 ·have h:declR l p=.inr q:=h
  have hM1:=hM0 (by decide)
  unfold declR at h
  split at h
  ·obtain ⟨p1,h1,h2⟩:=then_inv h
   obtain ⟨hl,rfl⟩:=key_inv h1
   obtain ⟨hl2,h3⟩:=take_inv (by decide) h2
   unfold namesR at h3
   simp only at h3 hl2
   generalize namesN (l.drop (p.tk+1+1))=ns2 at *
   obtain ⟨p2,h4,h5⟩:=then_inv h3
   obtain ⟨hl3,rfl⟩:=key_inv h4
   refine mi_push h5 ?_
   simp only [massP_tk,List.map_cons,List.map_nil,List.sum_cons,List.sum_nil,nsr_r0 4 (by decide),nsr_more,nsr_data]
   omega
  ·obtain ⟨hl,h2⟩:=take_inv (by decide) h
   unfold namesR at h2
   simp only at h2
   generalize namesN (l.drop (p.tk+1))=ns at *
   obtain ⟨p2,h4,h5⟩:=then_inv h2
   obtain ⟨hl3,rfl⟩:=key_inv h4
   refine mi_push h5 ?_
   have hs:∀ xs:List (List UInt8),((xs.map fun n=>rMake (bindT 4 n) p.ex.length).map nsr).sum=2 * xs.length:=fun xs=>by
    induction xs with
    | nil=>rfl
    | cons a r ih=>
     have e:nsr (rMake (bindT 4 a) p.ex.length)=2:=rfl
     simp only [List.map_cons,List.sum_cons,ih,e,List.length_cons]
     omega
   have e:massP ({ p with tk:=p.tk+1+ns.length+1,ru:=(ns.reverse.map fun n=>rMake (bindT 4 n) p.ex.length) ++ (rDef (tkAt l p.tk).tx :: p.ru) }:Ps)=massP p+2 * ns.length:=by
    have h1:=hs ns.reverse
    rw [List.length_reverse] at h1
    unfold massP
    simp only [List.map_append,List.sum_append,h1,List.map_cons,List.sum_cons,nsr_def]
    omega
   show massP ({ p with tk:=p.tk+1+ns.length+1,ru:=(ns.reverse.map fun n=>rMake (bindT 4 n) p.ex.length) ++ (rDef (tkAt l p.tk).tx :: p.ru) }:Ps)+_≤3 * (p.tk+1+ns.length+1)+_
   rw [e]
   simp only [List.map_cons,List.map_nil,List.sum_cons,List.sum_nil,nsr_r0 10 (by decide)]
   omega
 ·have h:formR l p=.inr q:=h
  obtain ⟨hl,h2⟩:=take_inv (by decide) h
  refine mi_push h2 ?_
  have:=hM0 (by decide)
  simp only [massP_tk,List.map_cons,List.map_nil,List.sum_cons,List.sum_nil,nsr_r0 8 (by decide),nsr_form]
  omega
 ·exact hp2 (by decide) (by decide) (hM0 (by decide)) h
 ·have h:arrowR l p=.inr q:=h
  unfold arrowR at h
  split at h
  ·obtain ⟨p1,h1,h2⟩:=then_inv h
   obtain ⟨hl,rfl⟩:=key_inv h1
   refine mi_push h2 ?_
   have:=hM0 (by decide)
   simp only [massP_tk,List.map_cons,List.map_nil,List.sum_cons,List.sum_nil,nsr_r0 5 (by decide),nsr_sig]
   omega
  ·exact mi_same (hM0 (by decide)) h
 ·have h:sigAppR l p=.inr q:=h
  unfold sigAppR at h
  split at h
  ·obtain ⟨hl,h2⟩:=take_inv (by decide) h
   refine mi_push h2 ?_
   have:=hM0 (by decide)
   simp only [massP_tk,List.map_cons,List.map_nil,List.sum_cons,List.sum_nil,nsr_r0 8 (by decide),nsr_sig]
   omega
  ·exact sigAtom_mass (hM0 (by decide)) h
 ·have h:sigAtomsR l p=.inr q:=h
  unfold sigAtomsR at h
  split at h
  ·exact hp2 (by decide) (by decide) (hM0 (by decide)) h
  ·exact mi_same (hM0 (by decide)) h
 ·exact sigAtom_mass (hM0 (by decide)) h
 ·exact expr_mass (hM0 (by decide)) h
 ·have h:altR l p=.inr q:=h
  obtain ⟨hl,h2⟩:=take_inv (by decide) h
  unfold namesR at h2
  simp only at h2
  obtain ⟨p2,h4,h5⟩:=then_inv h2
  obtain ⟨hl3,rfl⟩:=key_inv h4
  refine mi_push h5 ?_
  have:=hM0 (by decide)
  simp only [massP_tk,List.map_cons,List.map_nil,List.sum_cons,List.sum_nil,nsr_r0 10 (by decide),nsr_make]
  omega
 ·have h:lineR l p=.inr q:=h
  unfold lineR at h
  split at h
  ·obtain ⟨hl,h2⟩:=take_inv (by decide) h
   refine mi_push h2 ?_
   have:=hM0 (by decide)
   simp only [massP_tk,List.map_cons,List.map_nil,List.sum_cons,List.sum_nil,nsr_r0 10 (by decide),nsr_make,nsr_later,bindT,List.length_singleton]
   omega
  ·exact expr_mass (hM0 (by decide)) h
 ·have h:comparedR l p=.inr q:=h
  unfold comparedR at h
  split at h
  ·obtain ⟨hl,h2⟩:=take_inv (by decide) h
   refine mi_push h2 ?_
   have:=hM0 (by decide)
   simp only [massP_tk,List.map_cons,List.map_nil,List.sum_cons,List.sum_nil,nsr_r0 15 (by decide),nsr_make,opT,List.length_nil]
   omega
  ·exact mi_same (hM0 (by decide)) h
 ·exact hp2 (by decide) (by decide) (hM0 (by decide)) h
 ·have h:addedR l p=.inr q:=h
  unfold addedR at h
  split at h
  ·obtain ⟨hl,h2⟩:=take_inv (by decide) h
   refine mi_push h2 ?_
   have:=hM0 (by decide)
   simp only [massP_tk,List.map_cons,List.map_nil,List.sum_cons,List.sum_nil,nsr_r0 17 (by decide),nsr_r0 16 (by decide),nsr_make,opT,List.length_nil]
   omega
  ·exact mi_same (hM0 (by decide)) h
 ·exact hp2 (by decide) (by decide) (hM0 (by decide)) h
 ·have h:multipliedR l p=.inr q:=h
  unfold multipliedR at h
  split at h
  ·obtain ⟨hl,h2⟩:=take_inv (by decide) h
   refine mi_push h2 ?_
   have:=hM0 (by decide)
   simp only [massP_tk,List.map_cons,List.map_nil,List.sum_cons,List.sum_nil,nsr_r0 19 (by decide),nsr_r0 18 (by decide),nsr_make,opT,List.length_nil]
   omega
  ·exact mi_same (hM0 (by decide)) h
 ·exact hp2 (by decide) (by decide) (hM0 (by decide)) h
 ·have h:appliedR l p=.inr q:=h
  unfold appliedR at h
  split at h
  ·refine mi_push h ?_
   have:=hM0 (by decide)
   simp only [List.map_cons,List.map_nil,List.sum_cons,List.sum_nil,nsr_r0 21 (by decide),nsr_r0 20 (by decide),nsr_make,kindT,List.length_nil]
   show _≤_+1
   omega
  ·exact mi_same (hM0 (by decide)) h
 ·have h:atomR l p=.inr q:=h
  have hM1:massP p≤3 * p.tk+1:=by
   have e:nsr (⟨21,s,j,t,n,ns⟩:Ru)=0:=rfl
   rw [e] at hM
   simpa using hM
  have hex:∀ (t:Tr),t.ns=[]→t.ks=[]→Mi { p with tk:=p.tk+1,ex:=p.ex ++ [t] }:=fun t h1 h2=>by
   have e:mass t=1:=by rw [mass_eq,h1,h2];rfl
   show massP _≤3 * (p.tk+1)+_
   unfold massP at hM1 ⊢
   simp only [List.map_append,List.sum_append,List.map_cons,List.map_nil,List.sum_cons,List.sum_nil,e]
   omega
  unfold atomR at h
  split at h
  ·obtain ⟨hl,h2⟩:=take_inv (by decide) h
   cases h2
   exact hex _ rfl rfl
  split at h
  ·obtain ⟨hl,h2⟩:=take_inv (by decide) h
   cases h2
   exact hex _ rfl rfl
  split at h
  ·obtain ⟨hl,h2⟩:=take_inv (by decide) h
   cases h2
   exact hex _ rfl rfl
  ·obtain ⟨p1,h1,h2⟩:=then_inv h
   obtain ⟨hl,rfl⟩:=key_inv h1
   refine mi_push h2 ?_
   simp only [massP_tk,List.map_cons,List.map_nil,List.sum_cons,List.sum_nil,nsr_r0 10 (by decide),nsr_later]
   omega
 ·have h:keyR l s p=.inr q:=h
  obtain ⟨hl,rfl⟩:=key_inv h
  have:=hM0 (by decide)
  show massP p≤3 * (p.tk+1)+_
  omega
 ·have h:moreR l s j p=.inr q:=h
  unfold moreR at h
  split at h
  ·obtain ⟨p1,h1,h2⟩:=then_inv h
   obtain ⟨hl,rfl⟩:=key_inv h1
   refine mi_push h2 ?_
   have:=hM0 (by decide)
   have e:nsr (r0 j)≤1:=by unfold nsr r0;simp only;split <;> simp [t0] <;> split <;> simp
   simp only [massP_tk,List.map_cons,List.map_nil,List.sum_cons,List.sum_nil,nsr_more]
   omega
  ·exact mi_same (hM0 (by decide)) h
 ·have h:makeR t n p=.inr q:=h
  cases h
  have hM1:massP p+(1+t.ns.length)≤3 * p.tk:=by
   have e:nsr (⟨24,s,j,t,n,ns⟩:Ru)=1+t.ns.length:=rfl
   rw [e] at hM
   simpa using hM
  have e:mass ({ t with ks:=p.ex.drop n }:Tr)=1+t.ns.length+((p.ex.drop n).map mass).sum:=mass_eq _
  have e2:(p.ex.map mass).sum=((p.ex.take n).map mass).sum+((p.ex.drop n).map mass).sum:=by rw [← List.sum_append,← List.map_append,List.take_append_drop]
  show massP _≤3 * p.tk+_
  unfold massP at hM1 ⊢
  simp only [List.map_append,List.sum_append,List.map_cons,List.map_nil,List.sum_cons,List.sum_nil,e]
  omega
 ·have h:makeSigR s n p=.inr q:=h
  cases h
  exact Nat.le_trans (hM0 (by decide)) (Nat.le_add_right _ _)
 ·have h:(.inr { p with ds:=p.ds ++ [⟨s,ns,p.fm⟩],fm:=[] }:Rs)=.inr q:=h
  cases h
  have hM1:massP p+ns.length≤3 * p.tk:=by
   have e:nsr (⟨26,s,j,t,n,ns⟩:Ru)=ns.length:=rfl
   rw [e] at hM
   simpa using hM
  show massP _≤3 * p.tk+_
  unfold massP at hM1 ⊢
  simp only [List.map_append,List.sum_append,List.map_cons,List.map_nil,List.sum_cons,List.sum_nil]
  omega
 ·have h:(.inr { p with fm:=p.fm ++ [⟨s,p.sg⟩],sg:=[] }:Rs)=.inr q:=h
  cases h
  exact Nat.le_trans (hM0 (by decide)) (Nat.le_add_right _ _)
 ·have h:(.inr { p with fs:=p.fs ++ [⟨s,p.ex.headD t0⟩],ex:=[] }:Rs)=.inr q:=h
  cases h
  have hM1:=hM0 (by decide)
  show massP _≤3 * p.tk+_
  unfold massP at hM1 ⊢
  have h1:=h28 rfl
  have:mass (p.ex.headD t0)≤(p.ex.map mass).sum:=by
   cases he:p.ex with
   | nil=>rw [he] at h1;simp at h1
   | cons a r=>simp
  simp only [List.map_append,List.sum_append,List.map_cons,List.map_nil,List.sum_cons,List.sum_nil]
  omega
theorem good_def {nd:Nat} {r:Ru} {q:List Ru} {m s:Nat} (hg:Good nd (r :: q) m s) (h:r.k=28):1≤m:=by
 obtain ⟨k,sx,j,t,n,ns⟩:=r
 simp only at h
 subst h
 exact hg.1
theorem run_mass {l:List Tk} {nd:Nat} (p:Ps):GoodP nd p→Mi p→∀ q,run l p=.inr q→massP q≤3 * q.tk:=by
 refine run_ind (l:=l) (M:=fun p=>GoodP nd p→Mi p→∀ q,run l p=.inr q→massP q≤3 * q.tk) (fun p ih hg hm q hq=>?_) p
 cases hru:p.ru with
 | nil=>
  rw [run_nil hru] at hq
  cases hq
  unfold Mi at hm
  rw [hru] at hm
  exact hm
 | cons r rest=>
  have hgd:Good nd (r :: rest) p.ex.length p.sg.length:=by unfold GoodP at hg;rw [hru] at hg;exact hg
  rw [run_cons hru] at hq
  cases hx:ruleR l r { p with ru:=rest } with
  | inl n=>rw [hx] at hq;cases hq
  | inr p2=>
   rw [hx] at hq
   have hm2:massP { p with ru:=rest }+nsr r≤3 * p.tk+(if r.k=21 then 1 else 0):=by
    unfold Mi massP at hm
    rw [hru] at hm
    unfold massP
    simp only [List.map_cons,List.sum_cons] at hm ⊢
    have e:t21 (r :: rest)=if r.k=21 then 1 else 0:=rfl
    rw [e] at hm
    omega
   exact ih r rest p2 hru hx (rule_good (p:={ p with ru:=rest }) hgd hx).1 (rule_mass (p:={ p with ru:=rest }) hm2 (good_def hgd) hx) q hq
end Go.Proofs.YtcnnlecjdkfdjaaGreatDoor
