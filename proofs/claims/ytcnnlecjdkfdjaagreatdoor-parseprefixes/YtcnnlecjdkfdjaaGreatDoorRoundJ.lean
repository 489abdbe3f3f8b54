/- Good PMem RoundJ: the texts of these names, of which the claim is made. -/
import Derived.Test.YtcnnlecjdkfdjaaGreatDoorEndR
import Derived.RangeFuncNested
import Derived.OrdersIn
set_option linter.unusedVariables false
set_option linter.unusedSimpArgs false
set_option maxRecDepth 100000
set_option maxHeartbeats 8000000
namespace Go.Proofs.YtcnnlecjdkfdjaaGreatDoor
def Good (nd:Nat):List Ru→Nat→Nat→Prop
 | [],m,_=>nd≤m
 | r :: q,m,s=>match r.k with
  | 0=>Good nd q m s
  | 1=>Good nd q 0 0
  | 2=>Good nd q 0 0
  | 3=>Good nd q 0 0
  | 4=>Good nd q m 0
  | 5=>Good nd q m (s+1)
  | 6=>1≤s∧Good nd q m s
  | 7=>Good nd q m (s+1)
  | 8=>Good nd q m s
  | 9=>Good nd q m (s+1)
  | 10=>Good nd q (m+1) s
  | 11=>Good nd q (m+1) s
  | 12=>Good nd q (m+1) s
  | 14=>1≤m∧Good nd q m s
  | 15=>Good nd q (m+1) s
  | 16=>1≤m∧Good nd q m s
  | 17=>Good nd q (m+1) s
  | 18=>1≤m∧Good nd q m s
  | 19=>Good nd q (m+1) s
  | 20=>1≤m∧Good nd q m s
  | 21=>Good nd q (m+1) s
  | 22=>Good nd q m s
  | 23=>(r.j=3∧Good nd q 0 0)∨(r.j=4∧Good nd q m 0)∨((r.j=11∨r.j=12)∧Good nd q m s)
  | 24=>r.n<m∧Good nd q (r.n+1) s
  | 25=>r.n≤s∧Good nd q m (r.n+1)
  | 26=>Good nd q m s
  | 27=>Good nd q m 0
  | 28=>1≤m∧Good nd q 0 s
  | _=>False
theorem Good.mono {nd:Nat} {q:List Ru}:∀ {m s m' s':Nat},Good nd q m s→m≤m'→s≤s'→Good nd q m' s':=by
 induction q with
 | nil=>intro m s m' s' h hm hs;exact Nat.le_trans h hm
 | cons r q ih=>
  intro m s m' s' h hm hs
  obtain ⟨k,sx,j,t,n,ns⟩:=r
  unfold Good at h ⊢
  simp only at h ⊢
  split at h <;> (try simp only at h ⊢)
  case h_23=>
   rcases h with ⟨h1,h2⟩ | ⟨h1,h2⟩ | ⟨h1,h2⟩
   ·exact .inl ⟨h1,h2⟩
   ·exact .inr (.inl ⟨h1,ih h2 hm (Nat.le_refl _)⟩)
   ·exact .inr (.inr ⟨h1,ih h2 hm hs⟩)
  all_goals first
   | exact ih h (by omega) (by omega)
   | exact ⟨by omega,ih h.2 (by omega) (by omega)⟩
   | exact h
def tot (p:Ps):Nat:=p.ex.length+p.sg.length+p.fm.length+p.ds.length+p.fs.length
def GoodP (nd:Nat) (p:Ps):Prop:=Good nd p.ru p.ex.length p.sg.length
theorem good_makes {nd:Nat} {q:List Ru} {s n:Nat} (ns:List (List UInt8)) (h:Good nd q (n+1) s):Good nd ((ns.map fun m=>rMake (bindT 4 m) n) ++ q) (n+1) s:=by
 induction ns with
 | nil=>exact h
 | cons a r ih=>exact ⟨by show n<n+1;omega,ih⟩
theorem data_good {nd:Nat} {l:List Tk} {p q:Ps} (hg:Good nd p.ru 0 0) (h:dataR l p=.inr q):GoodP nd q∧tot q≤tot p+1:=by
 obtain ⟨p1,h1,h2⟩:=then_inv h
 obtain ⟨hl,rfl⟩:=key_inv h1
 obtain ⟨hl2,h3⟩:=take_inv (by decide) h2
 unfold namesR at h3
 simp only at h3 hl2
 obtain ⟨p2,h4,h5⟩:=then_inv h3
 obtain ⟨hl3,rfl⟩:=key_inv h4
 cases h5
 refine ⟨?_,by simp [tot]⟩
 exact .inr (.inl ⟨rfl,hg.mono (Nat.zero_le _) (Nat.zero_le _)⟩)
theorem def_good {nd:Nat} {l:List Tk} {p q:Ps} (hg:Good nd p.ru 0 0) (h:defR l p=.inr q):GoodP nd q∧tot q≤tot p+1:=by
 obtain ⟨hl,h2⟩:=take_inv (by decide) h
 unfold namesR at h2
 simp only at h2
 obtain ⟨p2,h4,h5⟩:=then_inv h2
 obtain ⟨hl3,rfl⟩:=key_inv h4
 cases h5
 refine ⟨?_,by simp [tot]⟩
 show Good nd (_ ++ _) (p.ex.length+1) p.sg.length
 exact good_makes _ ⟨by show 1≤p.ex.length+1;omega,hg.mono (Nat.zero_le _) (Nat.zero_le _)⟩
theorem sigAtom_good {nd:Nat} {l:List Tk} {p q:Ps} (hg:Good nd p.ru p.ex.length (p.sg.length+1)) (h:sigAtomR l p=.inr q):GoodP nd q∧tot q≤tot p+1:=by
 unfold sigAtomR at h
 split at h
 ·obtain ⟨hl,h2⟩:=take_inv (by decide) h
  cases h2
  exact ⟨by unfold GoodP;simpa using hg,by simp [tot];omega⟩
 ·split at h
  ·obtain ⟨hl,h2⟩:=take_inv (by decide) h
   cases h2
   exact ⟨by unfold GoodP;simpa using hg,by simp [tot];omega⟩
  ·obtain ⟨p1,h1,h2⟩:=then_inv h
   obtain ⟨hl,rfl⟩:=key_inv h1
   cases h2
   exact ⟨hg,by simp [tot]⟩
theorem atom_good {nd:Nat} {l:List Tk} {p q:Ps} (hg:Good nd p.ru (p.ex.length+1) p.sg.length) (h:atomR l p=.inr q):GoodP nd q∧tot q≤tot p+1:=by
 unfold atomR at h
 split at h
 ·obtain ⟨hl,h2⟩:=take_inv (by decide) h
  cases h2
  exact ⟨by unfold GoodP;simpa using hg,by simp [tot];omega⟩
 ·split at h
  ·obtain ⟨hl,h2⟩:=take_inv (by decide) h
   cases h2
   exact ⟨by unfold GoodP;simpa using hg,by simp [tot];omega⟩
  ·split at h
   ·obtain ⟨hl,h2⟩:=take_inv (by decide) h
    cases h2
    exact ⟨by unfold GoodP;simpa using hg,by simp [tot];omega⟩
   ·obtain ⟨p1,h1,h2⟩:=then_inv h
    obtain ⟨hl,rfl⟩:=key_inv h1
    cases h2
    exact ⟨hg,by simp [tot]⟩
theorem expr_good {nd:Nat} {l:List Tk} {p q:Ps} (hg:Good nd p.ru (p.ex.length+1) p.sg.length) (h:exprR l p=.inr q):GoodP nd q∧tot q≤tot p+1:=by
 unfold exprR at h
 repeat' split at h
 ·obtain ⟨p1,h1,h2⟩:=then_inv h
  obtain ⟨hl,rfl⟩:=key_inv h1
  obtain ⟨hl2,h3⟩:=take_inv (by decide) h2
  obtain ⟨p2,h4,h5⟩:=then_inv h3
  obtain ⟨hl3,rfl⟩:=key_inv h4
  cases h5
  exact ⟨⟨by show p.ex.length<p.ex.length+1;omega,hg⟩,by simp [tot]⟩
 ·obtain ⟨p1,h1,h2⟩:=then_inv h
  obtain ⟨hl,rfl⟩:=key_inv h1
  obtain ⟨hl2,h3⟩:=take_inv (by decide) h2
  obtain ⟨p2,h4,h5⟩:=then_inv h3
  obtain ⟨hl3,rfl⟩:=key_inv h4
  cases h5
  exact ⟨⟨by show p.ex.length<p.ex.length+1+1;omega,hg⟩,by simp [tot]⟩
 ·obtain ⟨p1,h1,h2⟩:=then_inv h
  obtain ⟨hl,rfl⟩:=key_inv h1
  cases h2
  exact ⟨.inr (.inr ⟨.inl rfl,⟨by show p.ex.length<p.ex.length+1+1;omega,hg⟩⟩),by simp [tot]⟩
 ·obtain ⟨p1,h1,h2⟩:=then_inv h
  obtain ⟨hl,rfl⟩:=key_inv h1
  cases h2
  exact ⟨⟨by show p.ex.length<p.ex.length+1+1+1;omega,hg⟩,by simp [tot]⟩
 ·obtain ⟨p1,h1,h2⟩:=then_inv h
  obtain ⟨hl,rfl⟩:=key_inv h1
  cases h2
  exact ⟨.inr (.inr ⟨.inr rfl,⟨by show p.ex.length<p.ex.length+1;omega,hg⟩⟩),by simp [tot]⟩
 ·obtain ⟨p1,h1,h2⟩:=then_inv h
  obtain ⟨hl,rfl⟩:=key_inv h1
  cases h2
  exact ⟨.inr (.inr ⟨.inr rfl,⟨by show p.ex.length<p.ex.length+1;omega,hg⟩⟩),by simp [tot]⟩
 ·cases h
  exact ⟨⟨by show 1≤p.ex.length+1;omega,hg⟩,by simp [tot]⟩
theorem oper_good {l:List Tk} {p q:Ps} {f:Ru→Ps→Rs} (h:operR l p f=.inr q):∃ t,f (rMake (opT t) (p.ex.length - 1)) { p with tk:=p.tk+1 }=.inr q:=by
 obtain ⟨hl,h2⟩:=take_inv (by decide) h
 exact ⟨_,h2⟩
theorem rule_good {nd:Nat} {l:List Tk} {r:Ru} {p q:Ps} (hg:Good nd (r :: p.ru) p.ex.length p.sg.length) (h:ruleR l r p=.inr q):GoodP nd q∧tot q≤tot p+1:=by
 obtain ⟨k,s,j,t,n,ns⟩:=r
 have same:∀ {q:Ps},Good nd p.ru p.ex.length p.sg.length→(.inr p:Rs)=.inr q→GoodP nd q∧tot q≤tot p+1:=fun hg h=>by cases h;exact ⟨hg,by omega⟩
 unfold ruleR at h
 unfold Good at hg
 simp only at h hg
 split at h <;> simp only at hg
 ·unfold endR at h
  split at h
  ·cases h
  ·exact same hg h
 ·obtain ⟨p1,h1,h2⟩:=then_inv h
  obtain ⟨hl,rfl⟩:=key_inv h1
  cases h2
  exact ⟨hg,by simp [tot]⟩
 ·unfold declsR at h
  split at h
  ·exact same (hg.mono (Nat.zero_le _) (Nat.zero_le _)) h
  ·cases h
   exact ⟨.inl ⟨rfl,hg⟩,by simp [tot]⟩
 ·unfold declR at h
  split at h
  ·exact data_good hg h
  ·exact def_good hg h
 ·obtain ⟨hl,h2⟩:=take_inv (by decide) h
  cases h2
  exact ⟨hg,by simp [tot]⟩
 ·cases h
  exact ⟨⟨by show 1≤p.sg.length+1;omega,hg⟩,by simp [tot]⟩
 ·unfold arrowR at h
  split at h
  ·obtain ⟨p1,h1,h2⟩:=then_inv h
   obtain ⟨hl,rfl⟩:=key_inv h1
   cases h2
   refine ⟨⟨by show p.sg.length - 1≤p.sg.length+1;omega,?_⟩,by simp [tot]⟩
   show Good nd p.ru p.ex.length (p.sg.length - 1+1)
   rw [Nat.sub_add_cancel hg.1]
   exact hg.2
  ·exact same hg.2 h
 ·unfold sigAppR at h
  split at h
  ·obtain ⟨hl,h2⟩:=take_inv (by decide) h
   cases h2
   exact ⟨⟨Nat.le_refl _,hg⟩,by simp [tot]⟩
  ·exact sigAtom_good hg h
 ·unfold sigAtomsR at h
  split at h
  ·cases h
   exact ⟨hg.mono (Nat.le_refl _) (Nat.le_succ _),by simp [tot]⟩
  ·exact same hg h
 ·exact sigAtom_good hg h
 ·exact expr_good hg h
 ·obtain ⟨hl,h2⟩:=take_inv (by decide) h
  unfold namesR at h2
  simp only at h2
  obtain ⟨p2,h4,h5⟩:=then_inv h2
  obtain ⟨hl3,rfl⟩:=key_inv h4
  cases h5
  exact ⟨⟨by show p.ex.length<p.ex.length+1;omega,hg⟩,by simp [tot]⟩
 ·unfold lineR at h
  split at h
  ·obtain ⟨hl,h2⟩:=take_inv (by decide) h
   cases h2
   exact ⟨⟨by show p.ex.length<p.ex.length+1;omega,hg⟩,by simp [tot]⟩
  ·exact expr_good hg h
 ·unfold comparedR at h
  split at h
  ·obtain ⟨t,h2⟩:=oper_good h
   cases h2
   refine ⟨⟨by show p.ex.length - 1<p.ex.length+1;omega,?_⟩,by simp [tot]⟩
   show Good nd p.ru (p.ex.length - 1+1) _
   rw [Nat.sub_add_cancel hg.1];exact hg.2
  ·exact same hg.2 h
 ·cases h
  exact ⟨⟨by show 1≤p.ex.length+1;omega,hg⟩,by simp [tot]⟩
 ·unfold addedR at h
  split at h
  ·obtain ⟨t,h2⟩:=oper_good h
   cases h2
   refine ⟨⟨by show p.ex.length - 1<p.ex.length+1;omega,?_⟩,by simp [tot]⟩
   show 1≤p.ex.length - 1+1∧Good nd p.ru (p.ex.length - 1+1) _
   rw [Nat.sub_add_cancel hg.1];exact hg
  ·exact same hg.2 h
 ·cases h
  exact ⟨⟨by show 1≤p.ex.length+1;omega,hg⟩,by simp [tot]⟩
 ·unfold multipliedR at h
  split at h
  ·obtain ⟨t,h2⟩:=oper_good h
   cases h2
   refine ⟨⟨by show p.ex.length - 1<p.ex.length+1;omega,?_⟩,by simp [tot]⟩
   show 1≤p.ex.length - 1+1∧Good nd p.ru (p.ex.length - 1+1) _
   rw [Nat.sub_add_cancel hg.1];exact hg
  ·exact same hg.2 h
 ·cases h
  exact ⟨⟨by show 1≤p.ex.length+1;omega,hg⟩,by simp [tot]⟩
 ·unfold appliedR at h
  split at h
  ·cases h
   refine ⟨⟨by show p.ex.length - 1<p.ex.length+1;omega,?_⟩,by simp [tot]⟩
   show 1≤p.ex.length - 1+1∧Good nd p.ru (p.ex.length - 1+1) _
   rw [Nat.sub_add_cancel hg.1];exact hg
  ·exact same hg.2 h
 ·exact atom_good hg h
 ·obtain ⟨hl,rfl⟩:=key_inv h
  exact ⟨hg,by simp [tot]⟩
 ·unfold moreR at h
  split at h
  ·obtain ⟨p1,h1,h2⟩:=then_inv h
   obtain ⟨hl,rfl⟩:=key_inv h1
   cases h2
   refine ⟨?_,by simp [tot]⟩
   rcases hg with ⟨rfl,hg⟩ | ⟨rfl,hg⟩ | ⟨rfl | rfl,hg⟩
   ·exact .inl ⟨rfl,hg⟩
   ·exact .inr (.inl ⟨rfl,hg⟩)
   ·exact .inr (.inr ⟨.inl rfl,hg.mono (Nat.le_succ _) (Nat.le_refl _)⟩)
   ·exact .inr (.inr ⟨.inr rfl,hg.mono (Nat.le_succ _) (Nat.le_refl _)⟩)
  ·refine same ?_ h
   rcases hg with ⟨_,hg⟩ | ⟨_,hg⟩ | ⟨_,hg⟩
   ·exact hg.mono (Nat.zero_le _) (Nat.zero_le _)
   ·exact hg.mono (Nat.le_refl _) (Nat.zero_le _)
   ·exact hg
 ·cases h
  refine ⟨?_,by simp [tot];omega⟩
  unfold GoodP
  simp only [List.length_append,List.length_take,List.length_singleton,Nat.min_eq_left (Nat.le_of_lt hg.1)]
  exact hg.2
 ·cases h
  refine ⟨?_,by simp [tot];omega⟩
  unfold GoodP
  simp only [List.length_append,List.length_take,List.length_singleton,Nat.min_eq_left hg.1]
  exact hg.2
 ·cases h
  exact ⟨hg,by simp [tot];omega⟩
 ·cases h
  exact ⟨hg,by simp [tot];omega⟩
 ·cases h
  exact ⟨hg.2,by simp [tot];omega⟩
open Go.RowKit
def Imm (c:Nat→Nat) (w:World) (b:Nat):Prop:=b<w.heap.size∧c b=0
def Un (w:World) (b:Nat):Prop:=∃ cs t,w.heap[b]?=some (.cells cs t (0,0))∧t≠29∧t≠38
theorem Un.keep {w w':World} {b:Nat} (h:Un w b) (e:w'.heap[b]?=w.heap[b]?):Un w' b:=by
 obtain ⟨cs,t,hb,ht⟩:=h
 exact ⟨cs,t,e.trans hb,ht⟩
def ImB (B:Nat) (c:Nat→Nat) (w:World) (b:Nat):Prop:=Imm c w b∧B<b
def Im0 (c:Nat→Nat) (w:World) (b:Nat):Prop:=Imm c w b∧Un w b
structure Step (c c':Nat→Nat) (D:Nat→Prop) (w w':World):Prop where
 kp:KP (fun b=>b<w.heap.size∧D (c b)) w w'
 col:∀ b,b<w.heap.size→D (c b)→c' b=c b
theorem Step.imm {c c':Nat→Nat} {D:Nat→Prop} {w w':World} (s:Step c c' D w w') (h0:D 0):∀ b,Imm c w b→Imm c' w' b:=fun b hb=>⟨Nat.lt_of_lt_of_le hb.1 s.kp.size,(s.col b hb.1 (by rw [hb.2];exact h0)).trans hb.2⟩
theorem Step.kimm {c c':Nat→Nat} {D:Nat→Prop} {w w':World} (s:Step c c' D w w') (h0:D 0):KP (Imm c w) w w':=s.kp.mono fun b hb=>⟨hb.1,by rw [hb.2];exact h0⟩
theorem Step.immB {B:Nat} {c c':Nat→Nat} {D:Nat→Prop} {w w':World} (s:Step c c' D w w') (h0:D 0):∀ b,ImB B c w b→ImB B c' w' b:=fun b hb=>⟨s.imm h0 b hb.1,hb.2⟩
theorem Step.kimmB {B:Nat} {c c':Nat→Nat} {D:Nat→Prop} {w w':World} (s:Step c c' D w w') (h0:D 0):KP (ImB B c w) w w':=(s.kimm h0).mono fun b hb=>hb.1
theorem Step.imm0 {c c':Nat→Nat} {D:Nat→Prop} {w w':World} (s:Step c c' D w w') (h0:D 0):∀ b,Im0 c w b→Im0 c' w' b:=fun b hb=>⟨s.imm h0 b hb.1,hb.2.keep (s.kp.block b ⟨hb.1.1,by rw [hb.1.2];exact h0⟩)⟩
theorem Step.kimm0 {c c':Nat→Nat} {D:Nat→Prop} {w w':World} (s:Step c c' D w w') (h0:D 0):KP (Im0 c w) w w':=(s.kimm h0).mono fun b hb=>hb.1
theorem Step.below {c c':Nat→Nat} {D:Nat→Prop} {w w':World} (h:Below w.heap.size w w') (hc:∀ b,b<w.heap.size→c' b=c b):Step c c' D w w':=⟨KP.of_below h fun b hb=>hb.1,fun b hb _=>hc b hb⟩
theorem Step.kept {c c':Nat→Nat} {D:Nat→Prop} {w w':World} {B:Nat} (h:KP (fun b=>b<w.heap.size∧b≠B) w w') (hc:∀ b,b<w.heap.size→c' b=c b) (hB:c B=1) (hD:∀ k,D k→k≠1):Step c c' D w w':=⟨h.mono fun b hb=>⟨hb.1,fun e=>hD _ hb.2 (by rw [e];exact hB)⟩,fun b hb _=>hc b hb⟩
def RowOf {α:Type} (c:Nat→Nat) (col:Nat) (w:World) (e:TypeId) (size:Nat) (R:Nat→α→List Value→Prop) (v:Value) (l:List α):Prop:=
 ∃ L:List (List Value),L.length=l.length∧(∀ ds ∈ L,ds.length=size)∧w.ownsRow 0 e size v l.length L.flatten∧(∀ g,v.ownBlock=some g→c g=col)∧∀ i t,l[i]?=some t→∃ ds,L[i]?=some ds∧R i t ds
theorem RowOf.nil {α:Type} (c:Nat→Nat) (col:Nat) (w:World) (e:TypeId) (size:Nat) (R:Nat→α→List Value→Prop):RowOf c col w e size R (.slice none 0 0) []:=
 ⟨[],rfl,by simp,World.ownsRow_nil _ _ _ _,by simp [Value.ownBlock],by simp⟩
theorem RowOf.keep {α:Type} {c c':Nat→Nat} {col:Nat} {w w':World} {e:TypeId} {size:Nat} {R R':Nat→α→List Value→Prop} {v:Value} {l:List α} (h:RowOf c col w e size R v l) (hb:∀ b,b<w.heap.size→c b=col→w'.heap[b]?=w.heap[b]?) (hc:∀ b,b<w.heap.size→c b=col→c' b=col) (hR:∀ i t ds,l[i]?=some t→R i t ds→R' i t ds):RowOf c' col w' e size R' v l:=by
 obtain ⟨L,h1,h2,h3,h4,h5⟩:=h
 refine ⟨L,h1,h2,row_keep h3 fun g hg hl=>hb g hl (h4 g hg),fun g hg=>?_,fun i t ht=>?_⟩
 ·rcases h3.2 with ⟨rfl,_⟩ | ⟨g',cap,cur,rfl,_,hgb,_⟩
  ·cases hg
  ·have e':g'=g:=by simpa [Value.ownBlock] using hg
   subst e'
   exact hc g' (Array.getElem?_eq_some_iff.1 hgb).1 (h4 g' hg)
 ·obtain ⟨ds,h6,h7⟩:=h5 i t ht
  exact ⟨ds,h6,hR i t ds ht h7⟩
theorem RowOf.step {α:Type} {c c':Nat→Nat} {D:Nat→Prop} {col:Nat} {w w':World} {e:TypeId} {size:Nat} {R R':Nat→α→List Value→Prop} {v:Value} {l:List α} (h:RowOf c col w e size R v l) (s:Step c c' D w w') (hD:D col) (hR:∀ i t ds,l[i]?=some t→R i t ds→R' i t ds):RowOf c' col w' e size R' v l:=
 h.keep (fun b hb hc=>s.kp.block b ⟨hb,by rw [hc];exact hD⟩) (fun b hb hc=>(s.col b hb (by rw [hc];exact hD)).trans hc) hR
theorem RowOf.slice {α:Type} {c:Nat→Nat} {col:Nat} {w:World} {e:TypeId} {size:Nat} {R:Nat→α→List Value→Prop} {v:Value} {l:List α} (h:RowOf c col w e size R v l):∃ p cap,v=.slice p l.length cap∧l.length≤cap∧cap≤maxLen∧(p=none→cap=0∧l=[])∧(∀ a,p=some a→∃ g,a=⟨g,0,none⟩∧g<w.heap.size∧c g=col):=by
 obtain ⟨L,h1,h2,h3,h4,h5⟩:=h
 rcases h3.2 with ⟨rfl,h0⟩ | ⟨g',cap,cur,rfl,_,hgb,r1,r2,_⟩
 ·exact ⟨none,0,by rw [h0],by omega,by unfold maxLen;omega,fun _=>⟨rfl,List.eq_nil_of_length_eq_zero h0⟩,fun a ha=>by cases ha⟩
 ·exact ⟨_,cap,rfl,r1,r2,fun h=>(by cases h),fun a ha=>by cases ha;exact ⟨g',rfl,(Array.getElem?_eq_some_iff.1 hgb).1,h4 g' rfl⟩⟩
theorem flatten_len {size:Nat}:∀ {L:List (List Value)},(∀ ds ∈ L,ds.length=size)→L.flatten.length=L.length * size
 | [],_=>by simp
 | a :: r,h=>by
  rw [List.flatten_cons,List.length_append,flatten_len (fun ds hd=>h ds (List.mem_cons_of_mem _ hd)),h a (List.mem_cons_self),List.length_cons,Nat.succ_mul,Nat.add_comm]
theorem flatten_take {size:Nat}:∀ {L:List (List Value)} (n:Nat),(∀ ds ∈ L,ds.length=size)→L.flatten.take (n * size)=(L.take n).flatten
 | [],n,_=>by simp
 | a :: r,0,_=>by simp
 | a :: r,n+1,h=>by
  have h1:=h a (List.mem_cons_self)
  rw [List.flatten_cons,List.take_append,h1,List.take_of_length_le (by rw [h1,Nat.succ_mul];omega),Nat.succ_mul,Nat.add_sub_cancel,flatten_take n (fun ds hd=>h ds (List.mem_cons_of_mem _ hd)),List.take_succ_cons,List.flatten_cons]
theorem flatten_drop {size:Nat}:∀ {L:List (List Value)} (n:Nat),(∀ ds ∈ L,ds.length=size)→L.flatten.drop (n * size)=(L.drop n).flatten
 | [],n,_=>by simp
 | a :: r,0,_=>by simp
 | a :: r,n+1,h=>by
  have h1:=h a (List.mem_cons_self)
  rw [List.flatten_cons,List.drop_append,h1,List.drop_eq_nil_of_le (by rw [h1,Nat.succ_mul];omega),Nat.succ_mul,Nat.add_sub_cancel,flatten_drop n (fun ds hd=>h ds (List.mem_cons_of_mem _ hd)),List.drop_succ_cons,List.nil_append]
theorem flatten_at {size:Nat}:∀ {L:List (List Value)} {i j:Nat} {ds:List Value},(∀ ds ∈ L,ds.length=size)→L[i]?=some ds→j<size→L.flatten[i * size+j]?=ds[j]?
 | [],i,j,ds,_,hi,_=>by simp at hi
 | a :: r,0,j,ds,h,hi,hj=>by
  have h1:=h a (List.mem_cons_self)
  simp at hi
  subst hi
  rw [List.flatten_cons,Nat.zero_mul,Nat.zero_add,List.getElem?_append_left (by omega)]
 | a :: r,i+1,j,ds,h,hi,hj=>by
  have h1:=h a (List.mem_cons_self)
  rw [lGS] at hi
  rw [List.flatten_cons,List.getElem?_append_right (by rw [h1,Nat.succ_mul];omega),h1,Nat.succ_mul,show i * size+size+j - size=i * size+j by omega]
  exact flatten_at (fun ds hd=>h ds (List.mem_cons_of_mem _ hd)) hi hj
theorem RowOf.cut {α:Type} {c:Nat→Nat} {col:Nat} {w:World} {e:TypeId} {size:Nat} {R:Nat→α→List Value→Prop} {p:Option Addr} {n cap:Nat} {l:List α} (h:RowOf c col w e size R (.slice p n cap) l) (j:Nat) (hj:j≤l.length):RowOf c col w e size R (.slice p j cap) (l.take j):=by
 obtain ⟨L,h1,h2,h3,h4,h5⟩:=h
 have hn:n=l.length:=by
  rcases h3.2 with ⟨h,h0⟩ | ⟨g',cap',cur,h,_⟩
  ·cases h;omega
  ·cases h;rfl
 subst hn
 refine ⟨L.take j,by simp [h1],fun ds hd=>h2 ds (List.mem_of_mem_take hd),?_,?_,fun i t ht=>?_⟩
 ·have:=row_cut h3 hj
  rw [flatten_take j h2] at this
  rw [List.length_take,Nat.min_eq_left hj]
  exact this
 ·cases p with
  | none=>simp [Value.ownBlock]
  | some a=>simpa [Value.ownBlock] using h4
 ·rw [List.getElem?_take] at ht ⊢
  split at ht
  ·rename_i hlt
   rw [if_pos hlt]
   exact h5 i t ht
  ·cases ht
theorem RowOf.push {α:Type} {c c':Nat→Nat} {col:Nat} {w w':World} {e:TypeId} {size:Nat} {R R':Nat→α→List Value→Prop} {v':Value} {l:List α} {L:List (List Value)} {ds:List Value} {t:α} (h1:L.length=l.length) (h2:∀ ds ∈ L,ds.length=size) (h5:∀ i t,l[i]?=some t→∃ ds,L[i]?=some ds∧R i t ds)
 (hd:ds.length=size) (hown:w'.ownsRow 0 e size v' (l.length+1) (L.flatten ++ ds)) (hc:∀ g,v'.ownBlock=some g→c' g=col) (hR:∀ i t ds,l[i]?=some t→R i t ds→R' i t ds) (hn:R' l.length t ds):RowOf c' col w' e size R' v' (l ++ [t]):=by
 refine ⟨L ++ [ds],by simp [h1],?_,?_,hc,?_⟩
 ·intro x hx
  rcases List.mem_append.1 hx with hx | hx
  ·exact h2 x hx
  ·simp at hx;rw [hx];exact hd
 ·rw [List.flatten_append,List.length_append,List.length_singleton]
  simpa using hown
 ·intro i x hx
  rcases Nat.lt_trichotomy i l.length with hi | hi | hi
  ·rw [List.getElem?_append_left hi] at hx
   obtain ⟨d,h6,h7⟩:=h5 i x hx
   exact ⟨d,by rw [List.getElem?_append_left (by omega)];exact h6,hR i x d hx h7⟩
  ·subst hi
   simp at hx
   subst hx
   exact ⟨ds,by rw [← h1];simp,hn⟩
  ·rw [List.getElem?_append_right (by omega)] at hx
   obtain ⟨k,hk⟩:∃ k,i - l.length=k+1:=⟨i - l.length - 1,by omega⟩
   rw [hk] at hx
   simp at hx
theorem RowOf.cell {α:Type} {c:Nat→Nat} {col:Nat} {w:World} {e:TypeId} {size:Nat} {R:Nat→α→List Value→Prop} {g n cap:Nat} {l:List α} (h:RowOf c col w e size R (.slice (some ⟨g,0,none⟩) n cap) l) {i:Nat} {t:α} (hi:l[i]?=some t):∃ ds:List Value,ds.length=size∧(∀ j d,ds[j]?=some d→w.cell? ⟨g,i * size+j,none⟩=some d)∧R i t ds:=by
 obtain ⟨L,h1,h2,h3,h4,h5⟩:=h
 obtain ⟨ds,h6,h7⟩:=h5 i t hi
 have hd:=h2 ds (List.mem_of_getElem? h6)
 have hn:n=l.length:=by
  rcases h3.2 with ⟨h,h0⟩ | ⟨g',cap',cur,h,_⟩
  ·cases h
  ·cases h;rfl
 subst hn
 refine ⟨ds,hd,fun j d hj=>row_cell h3 ?_,h7⟩
 have hlt:=(List.getElem?_eq_some_iff.1 hj).1
 rw [flatten_at h2 h6 (by omega)]
 exact hj
abbrev pB (B:Nat):Value:=.pointer (some ⟨B,0,none⟩)
abbrev bx (b:Nat):Value:=.pointer (some ⟨b,0,none⟩)
def fnR:Nat→Nat
 | 0=>56
 | 1=>34
 | 2=>75
 | 3=>139
 | 4=>219
 | 5=>245
 | 6=>251
 | 7=>250
 | 8=>236
 | 9=>242
 | 10=>26
 | 11=>118
 | 12=>120
 | 14=>122
 | 15=>121
 | 16=>179
 | 17=>178
 | 18=>215
 | 19=>214
 | 20=>233
 | 21=>232
 | _=>0
def mth (B k:Nat):Value:=.func (.func (fnR k)) #[pB B] #[]
def RuV (B:Nat) (c:Nat→Nat) (w:World) (i:Nat) (v:Value) (r:Ru):Prop:=match r.k with
 | 22=>∃ b1 b2,v=.func (.func 140) #[] #[bx b1,bx b2]∧c b1=0∧c b2=0∧Hold b1 #[pB B] 58 w∧Hold b2 #[.string (S r.s)] 9 w
 | 23=>∃ b1 b2 b3,v=.func (.func 176) #[] #[bx b1,bx b2,bx b3]∧c b1=0∧c b2=0∧c b3=0∧Hold b1 #[pB B] 58 w∧Hold b2 #[.string (S r.s)] 9 w∧Hold b3 #[mth B r.j] 1 w
 | 24=>∃ be bp bf pn cn,v=.func (.func 173) #[] #[bx be,bx bp,bx bf]∧c be=10+i∧c bp=0∧c bf=0∧Hold be #[.int .i64 r.t.kd,.string (S r.t.nm),.int .i64 r.t.nu,.slice pn r.t.ns.length cn,.slice none 0 0] 27 w∧Hold bp #[pB B] 58 w∧Hold bf #[.int .i64 r.n] 3 w∧r.t.nm.length≤281474976710656∧(-9223372036854775808≤r.t.nu∧r.t.nu≤9223372036854775807)∧SlOK pn r.t.ns.length cn∧SM (ImB B c w) w pn r.t.ns
 | 25=>∃ b1 b2 b3,v=.func (.func 260) #[] #[bx b1,bx b2,bx b3]∧c b1=0∧c b2=0∧c b3=0∧Hold b1 #[.string (S r.s)] 9 w∧Hold b2 #[pB B] 58 w∧Hold b3 #[.int .i64 r.n] 3 w∧r.s.length≤281474976710656
 | 26=>∃ bp bd pn cn,v=.func (.func 220) #[] #[bx bp,bx bd]∧c bp=0∧c bd=10+i∧Hold bp #[pB B] 58 w∧Hold bd #[.string (S r.s),.slice pn r.ns.length cn,.slice none 0 0] 77 w∧r.s.length≤281474976710656∧SlOK pn r.ns.length cn∧SM (Im0 c w) w pn r.ns
 | 27=>∃ bf bp,v=.func (.func 237) #[] #[bx bf,bx bp]∧c bp=0∧c bf=10+i∧Hold bp #[pB B] 58 w∧Hold bf #[.string (S r.s),.slice none 0 0] 121 w∧r.s.length≤281474976710656
 | 28=>∃ bp bd,v=.func (.func 221) #[] #[bx bp,bx bd]∧c bp=0∧c bd=10+i∧Hold bp #[pB B] 58 w∧Hold bd #[.string (S r.s),.int .i64 0,.string ⟨#[]⟩,.int .i64 0,.slice none 0 0,.slice none 0 0] 79 w∧r.s.length≤281474976710656
 | k=>k≤21∧k≠13∧v=mth B k
theorem RuV.step {B:Nat} {c c':Nat→Nat} {D:Nat→Prop} {w w':World} (s:Step c c' D w w') {i:Nat} (h0:D 0) (hi:D (10+i)) {v:Value} {r:Ru} (h:RuV B c w i v r):RuV B c' w' i v r:=by
 have z:∀ {b:Nat} {C:Array Value} {t:TypeId},c b=0→Hold b C t w→c' b=0∧Hold b C t w':=fun hc hh=>⟨(s.col _ hh.lt (by rw [hc];exact h0)).trans hc,(s.kp.block _ ⟨hh.lt,by rw [hc];exact h0⟩).trans hh⟩
 have y:∀ {b:Nat} {C:Array Value} {t:TypeId},c b=10+i→Hold b C t w→c' b=10+i∧Hold b C t w':=fun hc hh=>⟨(s.col _ hh.lt (by rw [hc];exact hi)).trans hc,(s.kp.block _ ⟨hh.lt,by rw [hc];exact hi⟩).trans hh⟩
 obtain ⟨k,sx,j,t,n,ns⟩:=r
 unfold RuV at h ⊢
 simp only at h ⊢
 split at h <;> (try simp only at h ⊢)
 ·obtain ⟨b1,b2,rfl,c1,c2,h1,h2⟩:=h
  exact ⟨b1,b2,rfl,(z c1 h1).1,(z c2 h2).1,(z c1 h1).2,(z c2 h2).2⟩
 ·obtain ⟨b1,b2,b3,rfl,c1,c2,c3,h1,h2,h3⟩:=h
  exact ⟨b1,b2,b3,rfl,(z c1 h1).1,(z c2 h2).1,(z c3 h3).1,(z c1 h1).2,(z c2 h2).2,(z c3 h3).2⟩
 ·obtain ⟨b1,b2,b3,pn,cn,rfl,c1,c2,c3,h1,h2,h3,h4,h5,h6,h7⟩:=h
  exact ⟨b1,b2,b3,pn,cn,rfl,(y c1 h1).1,(z c2 h2).1,(z c3 h3).1,(y c1 h1).2,(z c2 h2).2,(z c3 h3).2,h4,h5,h6,(h7.keep (s.kimmB h0)).mono (s.immB h0)⟩
 ·obtain ⟨b1,b2,b3,rfl,c1,c2,c3,h1,h2,h3,h4⟩:=h
  exact ⟨b1,b2,b3,rfl,(z c1 h1).1,(z c2 h2).1,(z c3 h3).1,(z c1 h1).2,(z c2 h2).2,(z c3 h3).2,h4⟩
 ·obtain ⟨b1,b2,pn,cn,rfl,c1,c2,h1,h2,h3,h4,h5⟩:=h
  exact ⟨b1,b2,pn,cn,rfl,(z c1 h1).1,(y c2 h2).1,(z c1 h1).2,(y c2 h2).2,h3,h4,(h5.keep (s.kimm0 h0)).mono (s.imm0 h0)⟩
 ·obtain ⟨b1,b2,rfl,c1,c2,h1,h2,h3⟩:=h
  exact ⟨b1,b2,rfl,(z c1 h1).1,(y c2 h2).1,(z c1 h1).2,(y c2 h2).2,h3⟩
 ·obtain ⟨b1,b2,rfl,c1,c2,h1,h2,h3⟩:=h
  exact ⟨b1,b2,rfl,(z c1 h1).1,(y c2 h2).1,(z c1 h1).2,(y c2 h2).2,h3⟩
 ·exact h
structure PSt (c:Nat→Nat) (B:Nat) (l:List Tk) (p:Ps) (tp:Option Addr) (tc:Nat) (vr ve vs vf vd vp:Value) (w:World):Prop where
 hold:Hold B (psC tp l.length tc p.tk vr ve vs vf vd vp) 63 w
 colB:c B=1
 toks:KM (Imm c w) w tp l
 len:l.length≤1000000
 at':p.tk≤1000000
 rul:RowOf c 2 w 1 1 (fun i r ds=>∃ v,ds=[v]∧RuV B c w i v r) vr p.ru.reverse
 exs:RowOf c 3 w 27 5 (fun _ t ds=>TrIn (ImB B c w) w t ds) ve p.ex
 sgs:RowOf c 4 w 175 2 (fun _ t ds=>SgIn (Im0 c w) w t ds) vs p.sg
 fms:RowOf c 5 w 121 2 (fun _ t ds=>FmIn (Im0 c w) w t ds) vf p.fm
 dts:RowOf c 6 w 77 3 (fun _ t ds=>DtIn (Im0 c w) w t ds) vd p.ds
 dfs:RowOf c 7 w 79 6 (fun _ t ds=>DfIn (ImB B c w) w t ds) vp p.fs
def PM (c:Nat→Nat) (B:Nat) (l:List Tk) (p:Ps) (w:World):Prop:=∃ tp tc vr ve vs vf vd vp,PSt c B l p tp tc vr ve vs vf vd vp w
section
variable {c c':Nat→Nat} {D:Nat→Prop} {B:Nat} {l:List Tk} {p:Ps} {tp:Option Addr} {tc:Nat} {vr ve vs vf vd vp:Value} {w w':World}
theorem PSt.ktoks (h:PSt c B l p tp tc vr ve vs vf vd vp w) (s:Step c c' D w w') (h0:D 0):KM (Imm c' w') w' tp l:=RM.keep (s.kimm h0) (s.imm h0) (fun _ _ h=>h) h.toks
theorem PSt.krul (h:PSt c B l p tp tc vr ve vs vf vd vp w) (s:Step c c' D w w') (h0:D 0) (h2:D 2) (hi:∀ i,i<p.ru.length→D (10+i)):RowOf c' 2 w' 1 1 (fun i r ds=>∃ v,ds=[v]∧RuV B c' w' i v r) vr p.ru.reverse:=
 h.rul.step s h2 fun i r ds hr ⟨v,h1,h2⟩=>⟨v,h1,h2.step s h0 (hi i (by have:=(List.getElem?_eq_some_iff.1 hr).1;simpa using this))⟩
theorem PSt.kexs (h:PSt c B l p tp tc vr ve vs vf vd vp w) (s:Step c c' D w w') (h0:D 0) (h3:D 3):RowOf c' 3 w' 27 5 (fun _ t ds=>TrIn (ImB B c' w') w' t ds) ve p.ex:=h.exs.step s h3 fun i t ds _ h=>TrIn.keep (s.kimmB h0) (s.immB h0) t ds h
theorem PSt.ksgs (h:PSt c B l p tp tc vr ve vs vf vd vp w) (s:Step c c' D w w') (h0:D 0) (h3:D 4):RowOf c' 4 w' 175 2 (fun _ t ds=>SgIn (Im0 c' w') w' t ds) vs p.sg:=h.sgs.step s h3 fun i t ds _ h=>SgIn.keep (s.kimm0 h0) (s.imm0 h0) t ds h
theorem PSt.kfms (h:PSt c B l p tp tc vr ve vs vf vd vp w) (s:Step c c' D w w') (h0:D 0) (h3:D 5):RowOf c' 5 w' 121 2 (fun _ t ds=>FmIn (Im0 c' w') w' t ds) vf p.fm:=h.fms.step s h3 fun i t ds _ h=>FmIn.keep (s.kimm0 h0) (s.imm0 h0) t ds h
theorem PSt.kdts (h:PSt c B l p tp tc vr ve vs vf vd vp w) (s:Step c c' D w w') (h0:D 0) (h3:D 6):RowOf c' 6 w' 77 3 (fun _ t ds=>DtIn (Im0 c' w') w' t ds) vd p.ds:=h.dts.step s h3 fun i t ds _ h=>DtIn.keep (s.kimm0 h0) (s.imm0 h0) t ds h
theorem PSt.kdfs (h:PSt c B l p tp tc vr ve vs vf vd vp w) (s:Step c c' D w w') (h0:D 0) (h3:D 7):RowOf c' 7 w' 79 6 (fun _ t ds=>DfIn (ImB B c' w') w' t ds) vp p.fs:=h.dfs.step s h3 fun i t ds _ h=>DfIn.keep (s.kimmB h0) (s.immB h0) t ds h
theorem PSt.kept (h:PSt c B l p tp tc vr ve vs vf vd vp w) {n:Nat} (hk:KP (fun b=>b<w.heap.size∧b≠B) w w') (hc:∀ b,b<w.heap.size→c' b=c b) (hh:Hold B (psC tp l.length tc n vr ve vs vf vd vp) 63 w') (hn:n≤1000000):PSt c' B l { p with tk:=n } tp tc vr ve vs vf vd vp w':=by
 have s:Step c c' (fun k=>k≠1) w w':=Step.kept hk hc h.colB (fun k h=>h)
 exact ⟨hh,(hc B h.hold.lt).trans h.colB,h.ktoks s (by decide),h.len,hn,h.krul s (by decide) (by decide) (fun i _=>by show 10+i≠1;omega),h.kexs s (by decide) (by decide),h.ksgs s (by decide) (by decide),h.kfms s (by decide) (by decide),h.kdts s (by decide) (by decide),h.kdfs s (by decide) (by decide)⟩
theorem PSt.below (h:PSt c B l p tp tc vr ve vs vf vd vp w) (hb:Below w.heap.size w w') (hc:∀ b,b<w.heap.size→c' b=c b):PSt c' B l p tp tc vr ve vs vf vd vp w':=by
 have:=h.kept (n:=p.tk) (KP.of_below hb fun b hb=>hb.1) hc (h.hold.below hb h.hold.lt) h.at'
 exact this
theorem PSt.look (h:PSt c B l p tp tc vr ve vs vf vd vp w):PLook (Imm c w) B l tp l.length tc p.tk vr ve vs vf vd vp w:=⟨h.hold,fun b hb=>hb.1,rfl,h.toks,h.len,h.at'⟩
theorem PSt.rslice (h:PSt c B l p tp tc vr ve vs vf vd vp w):∃ q cap,vr=.slice q p.ru.length cap:=by
 obtain ⟨q,cap,h1,_⟩:=h.rul.slice
 exact ⟨q,cap,by simpa using h1⟩
end
def RQ (c:Nat→Nat) (B:Nat) (l:List Tk) (w:World) (x:Rs) (e:Ending) (w':World):Prop:=match x with
 | .inl n=>e=.panicked stuckV∧(∃ tp tc vr ve vs vf vd vp,Hold B (psC tp l.length tc n vr ve vs vf vd vp) 63 w'∧KM (fun b=>b<w'.heap.size) w' tp l)∧KP (Imm c w) w w'
 | .inr q=>e=.returned (.tuple #[])∧∃ c',PM c' B l q w'∧(∀ b,Imm c w b→Imm c' w' b)∧KP (Imm c w) w w'
section
variable {P:Program} {ops:Array Oper} {Q:Exit→Act→World→Prop} {md:Region.Mode} {l m:Nat}
theorem upon_round {o:Oper} {a:Act} {K:Act→World→Prop}:∀ {r:Result Next},o.upon P a K Q r→o.uponIn (Fence.wide.inRound l) m P a K Q r
 | .ok (.value v) w',h=>h
 | .ok .skip w',h=>h
 | .ok (.defer d) w',h=>h
 | .ok (.enter f args) w',h=>⟨fun e=>by simp [Fence.inRound,Fence.wide] at e,CallsIn.inRound l (callsIn_wide.2 h)⟩
 | .ok (.row row args) w',h=>⟨fun e=>by simp [Fence.inRound,Fence.wide] at e,fun c cs _=>let ⟨v,w1,r,s⟩:=h c cs;⟨v,w1,r,stepsIn_wide.2 s⟩⟩
 | .halt (.panic v) w',h=>h
theorem op_round {o:Oper} {a:Act} {w:World} {K:Act→World→Prop} (hd:∀ c,o.op≠.defer c) (h:o.wp P a w K Q):o.wpIn (Fence.wide.inRound l) m P a w K Q:=by
 refine ⟨fun _ _=>trivial,?_⟩
 rw [Oper.semAt_eq _ _ _ hd]
 exact upon_round h
theorem any_round (hd:∀ (i:Nat) (o:Oper) (c:Call),ops[i]?=some o→o.op≠.defer c) (hQ:¬ LetsOut Q) (n:Nat):∀ (ls:Array Bool) (a:Act) (w:World),wpAny P md ops Q n ls a w→wpAnyIn (Fence.wide.inRound l) m P md ops Q n ls a w:=by
 induction n with
 | zero=>intro ls a w h;exact h
 | succ n ih=>
  intro ls a w h
  refine ⟨h.1,fun i hi=>?_⟩
  have h2:=h.2 i hi
  unfold wpOp at h2
  unfold wpOpIn
  cases ho:ops[i]? with
  | none=>simp only [ho] at h2 ⊢;exact ih _ _ _ h2
  | some o=>
   simp only [ho] at h2 ⊢
   split at h2
   ·rename_i hw
    rw [if_pos hw]
    rcases h2 with h2 | h2
    ·exact op_round (fun c=>hd i o c ho) (Oper.wp_mono (fun a w h=>ih _ a w h) h2)
    ·exact absurd h2.2 hQ
   ·rename_i hw
    rw [if_neg hw]
    exact ⟨fun _ _=>trivial,ih _ _ _ h2⟩
def noDefer (ops:Array Oper):Bool:=ops.toList.all fun o=>match o.op with | .defer _=>false | _=>true
theorem noDefer_spec (h:noDefer ops=true):∀ (i:Nat) (o:Oper) (c:Call),ops[i]?=some o→o.op≠.defer c:=by
 intro i o c hi he
 have h1:=List.all_eq_true.1 h o (by rw [List.mem_iff_getElem?];exact ⟨i,by simpa using hi⟩)
 rw [he] at h1
 cases h1
theorem round_any {id:Nat} {a:Act} {w:World} (hm:P.follows .mixedOrders=true) (hd:noDefer ops=true) (hQ:¬ LetsOut Q) {n:Nat} (hn:ops.size=n) (h:wpAny P .any ops Q n (Array.replicate n false) a w.drew):(Code.region id ops true).wpIn (Fence.wide.inRound l) m P Q a w:=by
 subst hn
 exact wpIn_region_any hm (any_round (noDefer_spec hd) hQ _ _ _ _ h)
def OnlyN (Q:Exit→Act→World→Prop):Exit→Act→World→Prop
 | .normal,a,w=>Q .normal a w
 | _,_,_=>False
theorem round_J (n:Nat) {id:Nat} {S:World→Prop} {N:Nat} {a:Act} {w:World} (hm:P.follows .mixedOrders=true) (hd:noDefer ops=true) (hn:ops.size=n) (h:wpAnyJ P .any ops (OnlyN Q) S N n (Array.replicate n false) a w.drew):(Code.region id ops true).wpIn (Fence.wide.inRound l) m P Q a w:=by
 refine Code.wpIn_mono (Q:=OnlyN Q) (fun e a w h=>?_) (round_any hm hd (fun ⟨_,_,h⟩=>h) hn (any_of_J _ _ _ _ h))
 cases e <;> first | exact h | exact h.elim
end
end Go.Proofs.YtcnnlecjdkfdjaaGreatDoor
