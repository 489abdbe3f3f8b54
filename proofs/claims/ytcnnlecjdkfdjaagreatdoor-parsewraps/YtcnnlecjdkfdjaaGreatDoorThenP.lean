/- Parts of the proof. -/
import Derived.Test.YtcnnlecjdkfdjaaGreatDoorGood
import Derived.RangeFuncNested
import Derived.RangeFuncBound
import Derived.OwnWalkIn
import Derived.TacticsInMore
import Derived.LoopNIn
import Derived.LoopIn
import Derived.Deep.RegionLaw
import Derived.Deep.AppendLies
import Derived.Shelf.Abstract
set_option linter.unusedVariables false
set_option linter.unusedSimpArgs false
set_option maxRecDepth 100000
set_option maxHeartbeats 8000000
namespace Go.Proofs.YtcnnlecjdkfdjaaGreatDoor
open Go.RowKit
def Imm (c:Nat→Nat) (w:World) (b:Nat):Prop:=b<w.heap.size∧c b=0
def Un (w:World) (b:Nat):Prop:=∃ cs t,w.heap[b]?=some (.cells cs t (0,0))∧t≠29∧t≠38
theorem Un.keep {w w':World} {b:Nat} (h:Un w b) (e:w'.heap[b]?=w.heap[b]?):Un w' b:=by
 obtain ⟨cs,t,hb,ht⟩:=h
 exact ⟨cs,t,e.trans hb,ht⟩
def ImB (B:Nat) (c:Nat→Nat) (w:World) (b:Nat):Prop:=Imm c w b∧B<b
def Im0 (c:Nat→Nat) (w:World) (b:Nat):Prop:=Imm c w b∧Un w b
structure Step (c c':Nat→Nat) (D:Nat→Prop) (w w':World):Prop where
 kp:KP (fun b=>b<w.heap.size∧D (c b)) w w'
 col:∀ b,b<w.heap.size→D (c b)→c' b=c b
theorem Step.imm {c c':Nat→Nat} {D:Nat→Prop} {w w':World} (s:Step c c' D w w') (h0:D 0):∀ b,Imm c w b→Imm c' w' b:=fun b hb=>⟨Nat.lt_of_lt_of_le hb.1 s.kp.size,(s.col b hb.1 (by rw [hb.2];exact h0)).trans hb.2⟩
theorem Step.kimm {c c':Nat→Nat} {D:Nat→Prop} {w w':World} (s:Step c c' D w w') (h0:D 0):KP (Imm c w) w w':=s.kp.mono fun b hb=>⟨hb.1,by rw [hb.2];exact h0⟩
theorem Step.immB {B:Nat} {c c':Nat→Nat} {D:Nat→Prop} {w w':World} (s:Step c c' D w w') (h0:D 0):∀ b,ImB B c w b→ImB B c' w' b:=fun b hb=>⟨s.imm h0 b hb.1,hb.2⟩
theorem Step.kimmB {B:Nat} {c c':Nat→Nat} {D:Nat→Prop} {w w':World} (s:Step c c' D w w') (h0:D 0):KP (ImB B c w) w w':=(s.kimm h0).mono fun b hb=>hb.1
theorem Step.imm0 {c c':Nat→Nat} {D:Nat→Prop} {w w':World} (s:Step c c' D w w') (h0:D 0):∀ b,Im0 c w b→Im0 c' w' b:=fun b hb=>⟨s.imm h0 b hb.1,hb.2.keep (s.kp.block b ⟨hb.1.1,by rw [hb.1.2];exact h0⟩)⟩
theorem Step.kimm0 {c c':Nat→Nat} {D:Nat→Prop} {w w':World} (s:Step c c' D w w') (h0:D 0):KP (Im0 c w) w w':=(s.kimm h0).mono fun b hb=>hb.1
theorem Step.below {c c':Nat→Nat} {D:Nat→Prop} {w w':World} (h:Below w.heap.size w w') (hc:∀ b,b<w.heap.size→c' b=c b):Step c c' D w w':=⟨KP.of_below h fun b hb=>hb.1,fun b hb _=>hc b hb⟩
theorem Step.kept {c c':Nat→Nat} {D:Nat→Prop} {w w':World} {B:Nat} (h:KP (fun b=>b<w.heap.size∧b≠B) w w') (hc:∀ b,b<w.heap.size→c' b=c b) (hB:c B=1) (hD:∀ k,D k→k≠1):Step c c' D w w':=⟨h.mono fun b hb=>⟨hb.1,fun e=>hD _ hb.2 (by rw [e];exact hB)⟩,fun b hb _=>hc b hb⟩
def RowOf {α:Type} (c:Nat→Nat) (col:Nat) (w:World) (e:TypeId) (size:Nat) (R:Nat→α→List Value→Prop) (v:Value) (l:List α):Prop:=
 ∃ L:List (List Value),L.length=l.length∧(∀ ds ∈ L,ds.length=size)∧w.ownsRow 0 e size v l.length L.flatten∧(∀ g,v.ownBlock=some g→c g=col)∧∀ i t,l[i]?=some t→∃ ds,L[i]?=some ds∧R i t ds
theorem RowOf.nil {α:Type} (c:Nat→Nat) (col:Nat) (w:World) (e:TypeId) (size:Nat) (R:Nat→α→List Value→Prop):RowOf c col w e size R (.slice none 0 0) []:=
 ⟨[],rfl,by simp,World.ownsRow_nil _ _ _ _,by simp [Value.ownBlock],by simp⟩
theorem RowOf.keep {α:Type} {c c':Nat→Nat} {col:Nat} {w w':World} {e:TypeId} {size:Nat} {R R':Nat→α→List Value→Prop} {v:Value} {l:List α} (h:RowOf c col w e size R v l) (hb:∀ b,b<w.heap.size→c b=col→w'.heap[b]?=w.heap[b]?) (hc:∀ b,b<w.heap.size→c b=col→c' b=col) (hR:∀ i t ds,l[i]?=some t→R i t ds→R' i t ds):RowOf c' col w' e size R' v l:=by
 obtain ⟨L,h1,h2,h3,h4,h5⟩:=h
 refine ⟨L,h1,h2,row_keep h3 fun g hg hl=>hb g hl (h4 g hg),fun g hg=>?_,fun i t ht=>?_⟩
 ·rcases h3.2 with ⟨rfl,_⟩ | ⟨g',cap,cur,rfl,_,hgb,_⟩
  ·cases hg
  ·have e':g'=g:=by simpa [Value.ownBlock] using hg
   subst e'
   exact hc g' (Array.getElem?_eq_some_iff.1 hgb).1 (h4 g' hg)
 ·obtain ⟨ds,h6,h7⟩:=h5 i t ht
  exact ⟨ds,h6,hR i t ds ht h7⟩
theorem RowOf.step {α:Type} {c c':Nat→Nat} {D:Nat→Prop} {col:Nat} {w w':World} {e:TypeId} {size:Nat} {R R':Nat→α→List Value→Prop} {v:Value} {l:List α} (h:RowOf c col w e size R v l) (s:Step c c' D w w') (hD:D col) (hR:∀ i t ds,l[i]?=some t→R i t ds→R' i t ds):RowOf c' col w' e size R' v l:=
 h.keep (fun b hb hc=>s.kp.block b ⟨hb,by rw [hc];exact hD⟩) (fun b hb hc=>(s.col b hb (by rw [hc];exact hD)).trans hc) hR
theorem RowOf.slice {α:Type} {c:Nat→Nat} {col:Nat} {w:World} {e:TypeId} {size:Nat} {R:Nat→α→List Value→Prop} {v:Value} {l:List α} (h:RowOf c col w e size R v l):∃ p cap,v=.slice p l.length cap∧l.length≤cap∧cap≤maxLen∧(p=none→cap=0∧l=[])∧(∀ a,p=some a→∃ g,a=⟨g,0,none⟩∧g<w.heap.size∧c g=col):=by
 obtain ⟨L,h1,h2,h3,h4,h5⟩:=h
 rcases h3.2 with ⟨rfl,h0⟩ | ⟨g',cap,cur,rfl,_,hgb,r1,r2,_⟩
 ·exact ⟨none,0,by rw [h0],by omega,by unfold maxLen;omega,fun _=>⟨rfl,List.eq_nil_of_length_eq_zero h0⟩,fun a ha=>by cases ha⟩
 ·exact ⟨_,cap,rfl,r1,r2,fun h=>(by cases h),fun a ha=>by cases ha;exact ⟨g',rfl,(Array.getElem?_eq_some_iff.1 hgb).1,h4 g' rfl⟩⟩
theorem flatten_len {size:Nat}:∀ {L:List (List Value)},(∀ ds ∈ L,ds.length=size)→L.flatten.length=L.length * size
 | [],_=>by simp
 | a :: r,h=>by
  rw [List.flatten_cons,List.length_append,flatten_len (fun ds hd=>h ds (List.mem_cons_of_mem _ hd)),h a (List.mem_cons_self),List.length_cons,Nat.succ_mul,Nat.add_comm]
theorem flatten_take {size:Nat}:∀ {L:List (List Value)} (n:Nat),(∀ ds ∈ L,ds.length=size)→L.flatten.take (n * size)=(L.take n).flatten
 | [],n,_=>by simp
 | a :: r,0,_=>by simp
 | a :: r,n+1,h=>by
  have h1:=h a (List.mem_cons_self)
  rw [List.flatten_cons,List.take_append,h1,List.take_of_length_le (by rw [h1,Nat.succ_mul];omega),Nat.succ_mul,Nat.add_sub_cancel,flatten_take n (fun ds hd=>h ds (List.mem_cons_of_mem _ hd)),List.take_succ_cons,List.flatten_cons]
theorem flatten_drop {size:Nat}:∀ {L:List (List Value)} (n:Nat),(∀ ds ∈ L,ds.length=size)→L.flatten.drop (n * size)=(L.drop n).flatten
 | [],n,_=>by simp
 | a :: r,0,_=>by simp
 | a :: r,n+1,h=>by
  have h1:=h a (List.mem_cons_self)
  rw [List.flatten_cons,List.drop_append,h1,List.drop_eq_nil_of_le (by rw [h1,Nat.succ_mul];omega),Nat.succ_mul,Nat.add_sub_cancel,flatten_drop n (fun ds hd=>h ds (List.mem_cons_of_mem _ hd)),List.drop_succ_cons,List.nil_append]
theorem flatten_at {size:Nat}:∀ {L:List (List Value)} {i j:Nat} {ds:List Value},(∀ ds ∈ L,ds.length=size)→L[i]?=some ds→j<size→L.flatten[i * size+j]?=ds[j]?
 | [],i,j,ds,_,hi,_=>by simp at hi
 | a :: r,0,j,ds,h,hi,hj=>by
  have h1:=h a (List.mem_cons_self)
  simp at hi
  subst hi
  rw [List.flatten_cons,Nat.zero_mul,Nat.zero_add,List.getElem?_append_left (by omega)]
 | a :: r,i+1,j,ds,h,hi,hj=>by
  have h1:=h a (List.mem_cons_self)
  rw [lGS] at hi
  rw [List.flatten_cons,List.getElem?_append_right (by rw [h1,Nat.succ_mul];omega),h1,Nat.succ_mul,show i * size+size+j - size=i * size+j by omega]
  exact flatten_at (fun ds hd=>h ds (List.mem_cons_of_mem _ hd)) hi hj
theorem RowOf.cut {α:Type} {c:Nat→Nat} {col:Nat} {w:World} {e:TypeId} {size:Nat} {R:Nat→α→List Value→Prop} {p:Option Addr} {n cap:Nat} {l:List α} (h:RowOf c col w e size R (.slice p n cap) l) (j:Nat) (hj:j≤l.length):RowOf c col w e size R (.slice p j cap) (l.take j):=by
 obtain ⟨L,h1,h2,h3,h4,h5⟩:=h
 have hn:n=l.length:=by
  rcases h3.2 with ⟨h,h0⟩ | ⟨g',cap',cur,h,_⟩
  ·cases h;omega
  ·cases h;rfl
 subst hn
 refine ⟨L.take j,by simp [h1],fun ds hd=>h2 ds (List.mem_of_mem_take hd),?_,?_,fun i t ht=>?_⟩
 ·have:=row_cut h3 hj
  rw [flatten_take j h2] at this
  rw [List.length_take,Nat.min_eq_left hj]
  exact this
 ·cases p with
  | none=>simp [Value.ownBlock]
  | some a=>simpa [Value.ownBlock] using h4
 ·rw [List.getElem?_take] at ht ⊢
  split at ht
  ·rename_i hlt
   rw [if_pos hlt]
   exact h5 i t ht
  ·cases ht
theorem RowOf.push {α:Type} {c c':Nat→Nat} {col:Nat} {w w':World} {e:TypeId} {size:Nat} {R R':Nat→α→List Value→Prop} {v':Value} {l:List α} {L:List (List Value)} {ds:List Value} {t:α} (h1:L.length=l.length) (h2:∀ ds ∈ L,ds.length=size) (h5:∀ i t,l[i]?=some t→∃ ds,L[i]?=some ds∧R i t ds)
 (hd:ds.length=size) (hown:w'.ownsRow 0 e size v' (l.length+1) (L.flatten ++ ds)) (hc:∀ g,v'.ownBlock=some g→c' g=col) (hR:∀ i t ds,l[i]?=some t→R i t ds→R' i t ds) (hn:R' l.length t ds):RowOf c' col w' e size R' v' (l ++ [t]):=by
 refine ⟨L ++ [ds],by simp [h1],?_,?_,hc,?_⟩
 ·intro x hx
  rcases List.mem_append.1 hx with hx | hx
  ·exact h2 x hx
  ·simp at hx;rw [hx];exact hd
 ·rw [List.flatten_append,List.length_append,List.length_singleton]
  simpa using hown
 ·intro i x hx
  rcases Nat.lt_trichotomy i l.length with hi | hi | hi
  ·rw [List.getElem?_append_left hi] at hx
   obtain ⟨d,h6,h7⟩:=h5 i x hx
   exact ⟨d,by rw [List.getElem?_append_left (by omega)];exact h6,hR i x d hx h7⟩
  ·subst hi
   simp at hx
   subst hx
   exact ⟨ds,by rw [← h1];simp,hn⟩
  ·rw [List.getElem?_append_right (by omega)] at hx
   obtain ⟨k,hk⟩:∃ k,i - l.length=k+1:=⟨i - l.length - 1,by omega⟩
   rw [hk] at hx
   simp at hx
theorem RowOf.cell {α:Type} {c:Nat→Nat} {col:Nat} {w:World} {e:TypeId} {size:Nat} {R:Nat→α→List Value→Prop} {g n cap:Nat} {l:List α} (h:RowOf c col w e size R (.slice (some ⟨g,0,none⟩) n cap) l) {i:Nat} {t:α} (hi:l[i]?=some t):∃ ds:List Value,ds.length=size∧(∀ j d,ds[j]?=some d→w.cell? ⟨g,i * size+j,none⟩=some d)∧R i t ds:=by
 obtain ⟨L,h1,h2,h3,h4,h5⟩:=h
 obtain ⟨ds,h6,h7⟩:=h5 i t hi
 have hd:=h2 ds (List.mem_of_getElem? h6)
 have hn:n=l.length:=by
  rcases h3.2 with ⟨h,h0⟩ | ⟨g',cap',cur,h,_⟩
  ·cases h
  ·cases h;rfl
 subst hn
 refine ⟨ds,hd,fun j d hj=>row_cell h3 ?_,h7⟩
 have hlt:=(List.getElem?_eq_some_iff.1 hj).1
 rw [flatten_at h2 h6 (by omega)]
 exact hj
abbrev pB (B:Nat):Value:=.pointer (some ⟨B,0,none⟩)
abbrev bx (b:Nat):Value:=.pointer (some ⟨b,0,none⟩)
def fnR:Nat→Nat
 | 0=>56
 | 1=>34
 | 2=>75
 | 3=>139
 | 4=>219
 | 5=>245
 | 6=>251
 | 7=>250
 | 8=>236
 | 9=>242
 | 10=>26
 | 11=>118
 | 12=>120
 | 14=>122
 | 15=>121
 | 16=>179
 | 17=>178
 | 18=>215
 | 19=>214
 | 20=>233
 | 21=>232
 | _=>0
def mth (B k:Nat):Value:=.func (.func (fnR k)) #[pB B] #[]
def RuV (B:Nat) (c:Nat→Nat) (w:World) (i:Nat) (v:Value) (r:Ru):Prop:=match r.k with
 | 22=>∃ b1 b2,v=.func (.func 140) #[] #[bx b1,bx b2]∧c b1=0∧c b2=0∧Hold b1 #[pB B] 58 w∧Hold b2 #[.string (S r.s)] 9 w
 | 23=>∃ b1 b2 b3,v=.func (.func 176) #[] #[bx b1,bx b2,bx b3]∧c b1=0∧c b2=0∧c b3=0∧Hold b1 #[pB B] 58 w∧Hold b2 #[.string (S r.s)] 9 w∧Hold b3 #[mth B r.j] 1 w
 | 24=>∃ be bp bf pn cn,v=.func (.func 173) #[] #[bx be,bx bp,bx bf]∧c be=10+i∧c bp=0∧c bf=0∧Hold be #[.int .i64 r.t.kd,.string (S r.t.nm),.int .i64 r.t.nu,.slice pn r.t.ns.length cn,.slice none 0 0] 27 w∧Hold bp #[pB B] 58 w∧Hold bf #[.int .i64 r.n] 3 w∧r.t.nm.length≤281474976710656∧(-9223372036854775808≤r.t.nu∧r.t.nu≤9223372036854775807)∧SlOK pn r.t.ns.length cn∧SM (ImB B c w) w pn r.t.ns
 | 25=>∃ b1 b2 b3,v=.func (.func 260) #[] #[bx b1,bx b2,bx b3]∧c b1=0∧c b2=0∧c b3=0∧Hold b1 #[.string (S r.s)] 9 w∧Hold b2 #[pB B] 58 w∧Hold b3 #[.int .i64 r.n] 3 w∧r.s.length≤281474976710656
 | 26=>∃ bp bd pn cn,v=.func (.func 220) #[] #[bx bp,bx bd]∧c bp=0∧c bd=10+i∧Hold bp #[pB B] 58 w∧Hold bd #[.string (S r.s),.slice pn r.ns.length cn,.slice none 0 0] 77 w∧r.s.length≤281474976710656∧SlOK pn r.ns.length cn∧SM (Im0 c w) w pn r.ns
 | 27=>∃ bf bp,v=.func (.func 237) #[] #[bx bf,bx bp]∧c bp=0∧c bf=10+i∧Hold bp #[pB B] 58 w∧Hold bf #[.string (S r.s),.slice none 0 0] 121 w∧r.s.length≤281474976710656
 | 28=>∃ bp bd,v=.func (.func 221) #[] #[bx bp,bx bd]∧c bp=0∧c bd=10+i∧Hold bp #[pB B] 58 w∧Hold bd #[.string (S r.s),.int .i64 0,.string ⟨#[]⟩,.int .i64 0,.slice none 0 0,.slice none 0 0] 79 w∧r.s.length≤281474976710656
 | k=>k≤21∧k≠13∧v=mth B k
theorem RuV.step {B:Nat} {c c':Nat→Nat} {D:Nat→Prop} {w w':World} (s:Step c c' D w w') {i:Nat} (h0:D 0) (hi:D (10+i)) {v:Value} {r:Ru} (h:RuV B c w i v r):RuV B c' w' i v r:=by
 have z:∀ {b:Nat} {C:Array Value} {t:TypeId},c b=0→Hold b C t w→c' b=0∧Hold b C t w':=fun hc hh=>⟨(s.col _ hh.lt (by rw [hc];exact h0)).trans hc,(s.kp.block _ ⟨hh.lt,by rw [hc];exact h0⟩).trans hh⟩
 have y:∀ {b:Nat} {C:Array Value} {t:TypeId},c b=10+i→Hold b C t w→c' b=10+i∧Hold b C t w':=fun hc hh=>⟨(s.col _ hh.lt (by rw [hc];exact hi)).trans hc,(s.kp.block _ ⟨hh.lt,by rw [hc];exact hi⟩).trans hh⟩
 obtain ⟨k,sx,j,t,n,ns⟩:=r
 unfold RuV at h ⊢
 simp only at h ⊢
 split at h <;> (try simp only at h ⊢)
 ·obtain ⟨b1,b2,rfl,c1,c2,h1,h2⟩:=h
  exact ⟨b1,b2,rfl,(z c1 h1).1,(z c2 h2).1,(z c1 h1).2,(z c2 h2).2⟩
 ·obtain ⟨b1,b2,b3,rfl,c1,c2,c3,h1,h2,h3⟩:=h
  exact ⟨b1,b2,b3,rfl,(z c1 h1).1,(z c2 h2).1,(z c3 h3).1,(z c1 h1).2,(z c2 h2).2,(z c3 h3).2⟩
 ·obtain ⟨b1,b2,b3,pn,cn,rfl,c1,c2,c3,h1,h2,h3,h4,h5,h6,h7⟩:=h
  exact ⟨b1,b2,b3,pn,cn,rfl,(y c1 h1).1,(z c2 h2).1,(z c3 h3).1,(y c1 h1).2,(z c2 h2).2,(z c3 h3).2,h4,h5,h6,(h7.keep (s.kimmB h0)).mono (s.immB h0)⟩
 ·obtain ⟨b1,b2,b3,rfl,c1,c2,c3,h1,h2,h3,h4⟩:=h
  exact ⟨b1,b2,b3,rfl,(z c1 h1).1,(z c2 h2).1,(z c3 h3).1,(z c1 h1).2,(z c2 h2).2,(z c3 h3).2,h4⟩
 ·obtain ⟨b1,b2,pn,cn,rfl,c1,c2,h1,h2,h3,h4,h5⟩:=h
  exact ⟨b1,b2,pn,cn,rfl,(z c1 h1).1,(y c2 h2).1,(z c1 h1).2,(y c2 h2).2,h3,h4,(h5.keep (s.kimm0 h0)).mono (s.imm0 h0)⟩
 ·obtain ⟨b1,b2,rfl,c1,c2,h1,h2,h3⟩:=h
  exact ⟨b1,b2,rfl,(z c1 h1).1,(y c2 h2).1,(z c1 h1).2,(y c2 h2).2,h3⟩
 ·obtain ⟨b1,b2,rfl,c1,c2,h1,h2,h3⟩:=h
  exact ⟨b1,b2,rfl,(z c1 h1).1,(y c2 h2).1,(z c1 h1).2,(y c2 h2).2,h3⟩
 ·exact h
structure PSt (c:Nat→Nat) (B:Nat) (l:List Tk) (p:Ps) (tp:Option Addr) (tc:Nat) (vr ve vs vf vd vp:Value) (w:World):Prop where
 hold:Hold B (psC tp l.length tc p.tk vr ve vs vf vd vp) 63 w
 colB:c B=1
 toks:KM (Imm c w) w tp l
 len:l.length≤1000000
 at':p.tk≤1000000
 rul:RowOf c 2 w 1 1 (fun i r ds=>∃ v,ds=[v]∧RuV B c w i v r) vr p.ru.reverse
 exs:RowOf c 3 w 27 5 (fun _ t ds=>TrIn (ImB B c w) w t ds) ve p.ex
 sgs:RowOf c 4 w 175 2 (fun _ t ds=>SgIn (Im0 c w) w t ds) vs p.sg
 fms:RowOf c 5 w 121 2 (fun _ t ds=>FmIn (Im0 c w) w t ds) vf p.fm
 dts:RowOf c 6 w 77 3 (fun _ t ds=>DtIn (Im0 c w) w t ds) vd p.ds
 dfs:RowOf c 7 w 79 6 (fun _ t ds=>DfIn (ImB B c w) w t ds) vp p.fs
def PM (c:Nat→Nat) (B:Nat) (l:List Tk) (p:Ps) (w:World):Prop:=∃ tp tc vr ve vs vf vd vp,PSt c B l p tp tc vr ve vs vf vd vp w
section
variable {c c':Nat→Nat} {D:Nat→Prop} {B:Nat} {l:List Tk} {p:Ps} {tp:Option Addr} {tc:Nat} {vr ve vs vf vd vp:Value} {w w':World}
theorem PSt.ktoks (h:PSt c B l p tp tc vr ve vs vf vd vp w) (s:Step c c' D w w') (h0:D 0):KM (Imm c' w') w' tp l:=RM.keep (s.kimm h0) (s.imm h0) (fun _ _ h=>h) h.toks
theorem PSt.krul (h:PSt c B l p tp tc vr ve vs vf vd vp w) (s:Step c c' D w w') (h0:D 0) (h2:D 2) (hi:∀ i,i<p.ru.length→D (10+i)):RowOf c' 2 w' 1 1 (fun i r ds=>∃ v,ds=[v]∧RuV B c' w' i v r) vr p.ru.reverse:=
 h.rul.step s h2 fun i r ds hr ⟨v,h1,h2⟩=>⟨v,h1,h2.step s h0 (hi i (by have:=(List.getElem?_eq_some_iff.1 hr).1;simpa using this))⟩
theorem PSt.kexs (h:PSt c B l p tp tc vr ve vs vf vd vp w) (s:Step c c' D w w') (h0:D 0) (h3:D 3):RowOf c' 3 w' 27 5 (fun _ t ds=>TrIn (ImB B c' w') w' t ds) ve p.ex:=h.exs.step s h3 fun i t ds _ h=>TrIn.keep (s.kimmB h0) (s.immB h0) t ds h
theorem PSt.ksgs (h:PSt c B l p tp tc vr ve vs vf vd vp w) (s:Step c c' D w w') (h0:D 0) (h3:D 4):RowOf c' 4 w' 175 2 (fun _ t ds=>SgIn (Im0 c' w') w' t ds) vs p.sg:=h.sgs.step s h3 fun i t ds _ h=>SgIn.keep (s.kimm0 h0) (s.imm0 h0) t ds h
theorem PSt.kfms (h:PSt c B l p tp tc vr ve vs vf vd vp w) (s:Step c c' D w w') (h0:D 0) (h3:D 5):RowOf c' 5 w' 121 2 (fun _ t ds=>FmIn (Im0 c' w') w' t ds) vf p.fm:=h.fms.step s h3 fun i t ds _ h=>FmIn.keep (s.kimm0 h0) (s.imm0 h0) t ds h
theorem PSt.kdts (h:PSt c B l p tp tc vr ve vs vf vd vp w) (s:Step c c' D w w') (h0:D 0) (h3:D 6):RowOf c' 6 w' 77 3 (fun _ t ds=>DtIn (Im0 c' w') w' t ds) vd p.ds:=h.dts.step s h3 fun i t ds _ h=>DtIn.keep (s.kimm0 h0) (s.imm0 h0) t ds h
theorem PSt.kdfs (h:PSt c B l p tp tc vr ve vs vf vd vp w) (s:Step c c' D w w') (h0:D 0) (h3:D 7):RowOf c' 7 w' 79 6 (fun _ t ds=>DfIn (ImB B c' w') w' t ds) vp p.fs:=h.dfs.step s h3 fun i t ds _ h=>DfIn.keep (s.kimmB h0) (s.immB h0) t ds h
theorem PSt.kept (h:PSt c B l p tp tc vr ve vs vf vd vp w) {n:Nat} (hk:KP (fun b=>b<w.heap.size∧b≠B) w w') (hc:∀ b,b<w.heap.size→c' b=c b) (hh:Hold B (psC tp l.length tc n vr ve vs vf vd vp) 63 w') (hn:n≤1000000):PSt c' B l { p with tk:=n } tp tc vr ve vs vf vd vp w':=by
 have s:Step c c' (fun k=>k≠1) w w':=Step.kept hk hc h.colB (fun k h=>h)
 exact ⟨hh,(hc B h.hold.lt).trans h.colB,h.ktoks s (by decide),h.len,hn,h.krul s (by decide) (by decide) (fun i _=>by show 10+i≠1;omega),h.kexs s (by decide) (by decide),h.ksgs s (by decide) (by decide),h.kfms s (by decide) (by decide),h.kdts s (by decide) (by decide),h.kdfs s (by decide) (by decide)⟩
theorem PSt.below (h:PSt c B l p tp tc vr ve vs vf vd vp w) (hb:Below w.heap.size w w') (hc:∀ b,b<w.heap.size→c' b=c b):PSt c' B l p tp tc vr ve vs vf vd vp w':=by
 have:=h.kept (n:=p.tk) (KP.of_below hb fun b hb=>hb.1) hc (h.hold.below hb h.hold.lt) h.at'
 exact this
theorem PSt.look (h:PSt c B l p tp tc vr ve vs vf vd vp w):PLook (Imm c w) B l tp l.length tc p.tk vr ve vs vf vd vp w:=⟨h.hold,fun b hb=>hb.1,rfl,h.toks,h.len,h.at'⟩
theorem PSt.rslice (h:PSt c B l p tp tc vr ve vs vf vd vp w):∃ q cap,vr=.slice q p.ru.length cap:=by
 obtain ⟨q,cap,h1,_⟩:=h.rul.slice
 exact ⟨q,cap,by simpa using h1⟩
end
def RQ (c:Nat→Nat) (B:Nat) (l:List Tk) (w:World) (x:Rs) (e:Ending) (w':World):Prop:=match x with
 | .inl n=>e=.panicked stuckV∧(∃ tp tc vr ve vs vf vd vp,Hold B (psC tp l.length tc n vr ve vs vf vd vp) 63 w'∧KM (fun b=>b<w'.heap.size) w' tp l)∧KP (Imm c w) w w'
 | .inr q=>e=.returned (.tuple #[])∧∃ c',PM c' B l q w'∧(∀ b,Imm c w b→Imm c' w' b)∧KP (Imm c w) w w'
section
variable {P:Program} {ops:Array Oper} {Q:Exit→Act→World→Prop} {md:Region.Mode} {l m:Nat}
theorem upon_round {o:Oper} {a:Act} {K:Act→World→Prop}:∀ {r:Result Next},o.upon P a K Q r→o.uponIn (Fence.wide.inRound l) m P a K Q r
 | .ok (.value v) w',h=>h
 | .ok .skip w',h=>h
 | .ok (.defer d) w',h=>h
 | .ok (.enter f args) w',h=>⟨fun e=>by simp [Fence.inRound,Fence.wide] at e,CallsIn.inRound l (callsIn_wide.2 h)⟩
 | .ok (.row row args) w',h=>⟨fun e=>by simp [Fence.inRound,Fence.wide] at e,fun c cs _=>let ⟨v,w1,r,s⟩:=h c cs;⟨v,w1,r,stepsIn_wide.2 s⟩⟩
 | .halt (.panic v) w',h=>h
theorem op_round {o:Oper} {a:Act} {w:World} {K:Act→World→Prop} (hd:∀ c,o.op≠.defer c) (h:o.wp P a w K Q):o.wpIn (Fence.wide.inRound l) m P a w K Q:=by
 refine ⟨fun _ _=>trivial,?_⟩
 rw [Oper.semAt_eq _ _ _ hd]
 exact upon_round h
theorem any_round (hd:∀ (i:Nat) (o:Oper) (c:Call),ops[i]?=some o→o.op≠.defer c) (hQ:¬ LetsOut Q) (n:Nat):∀ (ls:Array Bool) (a:Act) (w:World),wpAny P md ops Q n ls a w→wpAnyIn (Fence.wide.inRound l) m P md ops Q n ls a w:=by
 induction n with
 | zero=>intro ls a w h;exact h
 | succ n ih=>
  intro ls a w h
  refine ⟨h.1,fun i hi=>?_⟩
  have h2:=h.2 i hi
  unfold wpOp at h2
  unfold wpOpIn
  cases ho:ops[i]? with
  | none=>simp only [ho] at h2 ⊢;exact ih _ _ _ h2
  | some o=>
   simp only [ho] at h2 ⊢
   split at h2
   ·rename_i hw
    rw [if_pos hw]
    rcases h2 with h2 | h2
    ·exact op_round (fun c=>hd i o c ho) (Oper.wp_mono (fun a w h=>ih _ a w h) h2)
    ·exact absurd h2.2 hQ
   ·rename_i hw
    rw [if_neg hw]
    exact ⟨fun _ _=>trivial,ih _ _ _ h2⟩
def noDefer (ops:Array Oper):Bool:=ops.toList.all fun o=>match o.op with | .defer _=>false | _=>true
theorem noDefer_spec (h:noDefer ops=true):∀ (i:Nat) (o:Oper) (c:Call),ops[i]?=some o→o.op≠.defer c:=by
 intro i o c hi he
 have h1:=List.all_eq_true.1 h o (by rw [List.mem_iff_getElem?];exact ⟨i,by simpa using hi⟩)
 rw [he] at h1
 cases h1
theorem round_any {id:Nat} {a:Act} {w:World} (hm:P.follows .mixedOrders=true) (hd:noDefer ops=true) (hQ:¬ LetsOut Q) {n:Nat} (hn:ops.size=n) (h:wpAny P .any ops Q n (Array.replicate n false) a w.drew):(Code.region id ops true).wpIn (Fence.wide.inRound l) m P Q a w:=by
 subst hn
 exact wpIn_region_any hm (any_round (noDefer_spec hd) hQ _ _ _ _ h)
def OnlyN (Q:Exit→Act→World→Prop):Exit→Act→World→Prop
 | .normal,a,w=>Q .normal a w
 | _,_,_=>False
theorem round_J (n:Nat) {id:Nat} {S:World→Prop} {N:Nat} {a:Act} {w:World} (hm:P.follows .mixedOrders=true) (hd:noDefer ops=true) (hn:ops.size=n) (h:wpAnyJ P .any ops (OnlyN Q) S N n (Array.replicate n false) a w.drew):(Code.region id ops true).wpIn (Fence.wide.inRound l) m P Q a w:=by
 refine Code.wpIn_mono (Q:=OnlyN Q) (fun e a w h=>?_) (round_any hm hd (fun ⟨_,_,h⟩=>h) hn (any_of_J _ _ _ _ h))
 cases e <;> first | exact h | exact h.elim
end
attribute [local go_sem] Oper.semAt_some
abbrev Bv:=Int × Fn × Array Value × Array Value
def valB (x:Bv):Value:=.func x.2.1 x.2.2.1 x.2.2.2
def encB (x:Bv):Array Value:=#[.int .i64 x.1,.func x.2.1 x.2.2.1 x.2.2.2]
theorem back1_in (n:Nat) (hn:1≤n) (ld bs b0 m cap:Nat) (L:List Value) (hl:L.length=m) (hm:m≤1000) (h1:∀ v ∈ L,∃ f x y,v=.func f x y) (J Jx:List Bv→World→Prop)
 (hY:∀ pre x W,J pre W→pre.length<m→YieldAt Fence.wide (n - 1) Tryz.prog ld (encB x) W fun e W'=>
  (e=.returned (.bool true)∧J (pre ++ [x]) W'∧(W'.heap[b0]?=W.heap[b0]?∧W'.heap[bs]?=W.heap[bs]?))∨(e=.returned (.bool false)∧Jx (pre ++ [x]) W'))
 (W:World) (hbs:W.cell? ⟨bs,0,none⟩=some (.slice (some ⟨b0,0,none⟩) m cap)) (hb0:∀ i v,L[i]?=some v→W.cell? ⟨b0,i,none⟩=some v) (h0:J [] W) :
 CallsIn Fence.wide n Tryz.prog 170 #[.func (.yield ld) #[] #[],.pointer (some ⟨bs,0,none⟩)] W fun e W'=>(∃ v,e=.returned v) ∧
  ((∃ ys,ys.map valB=L.reverse∧J ys W')∨(∃ pre,True∧Jx pre W')):=by
 refine callsIn_of_wp Tryz.func170 rfl trivial ?_ rfl
 simp only [Tryz.ntmps170,List.size_toArray,List.length_cons,List.length_nil,Nat.reduceAdd,Nat.reduceSub,Array.replicate_succ,Array.replicate_zero,List.push_toArray,List.append_toArray,List.nil_append,List.cons_append]
 have HY:=zz hY
 have HL:=zz hl
 have H1:=zz h1
 have HB0:=zz hb0
 clear hY hl h1 hb0
 gi_wp2_with fail
 gi_loopw [3] (fun i wr=>∃ (pre:List Bv) (k:Nat),i=.int .i64 ((m:Int) - 1 - k)∧pre.length=k∧k≤m∧J pre wr∧pre.map valB=L.reverse.take k∧wr.heap[b0]?=W.heap[b0]?∧wr.heap[bs]?=W.heap[bs]?)
  (fun i wr=>(intOf i+1).toNat)
 case atStart=>exact ⟨[],0,by simp,rfl,by omega,h0,by simp,rfl,rfl⟩
 case round=>
  obtain ⟨pre,k,rfl,hpre,hkm,hJs,hval,hk0,hks⟩:=hrel
  have cs:wr.cell? ⟨bs,0,none⟩=some (.slice (some ⟨b0,0,none⟩) m cap):=(World.cell?_of_block hks).trans hbs
  by_cases hlt:k<m
  ·have hil:m - 1 - k<L.length:=by rw [HL.out];omega
   have a0:wr.cell? ⟨b0,m - 1 - k,none⟩=some L[m - 1 - k]:=(World.cell?_of_block (a:=⟨b0,m - 1 - k,none⟩) hk0).trans (HB0.out _ _ (by simp))
   obtain ⟨vf,vx,vy,ho⟩:=H1.out L[m - 1 - k] (by simp)
   have HV:Hid (L.reverse.take (k+1)=L.reverse.take k ++ [L[m - 1 - k]]):=by
    show _=_
    rw [List.take_succ_eq_append_getElem (by rw [List.length_reverse,HL.out];exact hlt),List.getElem_reverse]
    simp only [HL.out]
   rw [ho] at a0
   have HV':Hid (L.reverse.take (k+1)=L.reverse.take k ++ [.func vf vx vy]):=by show _=_;rw [← ho];exact HV.out
   clear HV ho
   have hPL:pre.length<m:=by omega
   have hi0:(0:Int)≤(m:Int) - 1 - k:=by omega
   have hi1:(m:Int) - 1 - k<m:=by omega
   have hi2:((m:Int) - 1 - k).toNat=m - 1 - k:=by omega
   obtain ⟨fn,tmps,assign,body,hy,hR⟩:=HY.out pre ((m:Int) - 1 - k,vf,vx,vy) wr hJs hPL
   simp only [encB] at hy
   have HR:=zz hR
   have HVA:=zz hval
   have HPR:=zz hpre
   clear hR hval hpre
   gi_wp2_with fail
   refine HR.out.mono ?_
   rintro e W3 (⟨rfl,hJ3,hk3,hk4⟩ | ⟨rfl,hJx3⟩)
   ·gi_wp2_with fail
    go_roundw
    case rel=>exact ⟨pre ++ [((m:Int) - 1 - k,vf,vx,vy)],k+1,by go_num,by simp [HPR.out],by omega,hJ3,by rw [List.map_append,HVA.out,HV'.out];rfl,hk3.trans hk0,hk4.trans hks⟩
    case measure=>simp [intOf];omega
   ·gi_wp2_with fail
    refine bodyPost_ret (results_none rfl _ _ _) rfl ?_
    exact ⟨⟨_,rfl⟩,.inr ⟨_,trivial,hJx3⟩⟩
  ·have hi0:¬ (0:Int)≤(m:Int) - 1 - k:=by omega
   have HVA:=zz hval
   clear hval hpre
   gi_wp2
   go_end0
   exact ⟨⟨_,rfl⟩,.inl ⟨pre,by rw [HVA.out,List.take_of_length_le (by rw [List.length_reverse,HL.out];omega)],hJs⟩⟩
theorem back_in (n:Nat) (p:Option Addr) (m c:Nat) (w:World) :
 CallsIn Fence.wide n Tryz.prog 111 #[.slice p m c] w fun e w'=>e=.returned (.func (.func 170) #[] #[.pointer (some ⟨w.heap.size,0,none⟩)])∧w'=w.alloc (.cells #[.slice p m c] 59):=by
 refine callsIn_of_wp Tryz.func111 rfl trivial ?_ rfl
 simp only [Tryz.ntmps111,List.size_toArray,List.length_cons,List.length_nil,Nat.reduceAdd,Nat.reduceSub,Array.replicate_succ,Array.replicate_zero,List.push_toArray,List.append_toArray,List.nil_append,List.cons_append]
 gi_wp2
 go_ret
 exact ⟨rfl,rfl⟩
def ThenI (w:World) (B:Nat) (tp:Option Addr) (tn tc tk n0:Nat) (vr ve vs vf vd vp:Value) (xs0 ys:List Value) (W:World):Prop:=
 ∃ q cp,Hold B (psC tp tn tc tk (.slice q (n0+ys.length) cp) ve vs vf vd vp) 63 W∧W.ownsRow 0 1 1 (.slice q (n0+ys.length) cp) (n0+ys.length) (xs0 ++ ys)∧((Value.slice q (n0+ys.length) cp).ownBlock=vr.ownBlock∨∃ g,w.heap.size≤g∧q=some ⟨g,0,none⟩)∧KP (fun b=>b<w.heap.size∧b≠B∧some b≠vr.ownBlock) w W
theorem info1:(Tryz.prog.info? 1).map (fun i=>(i.zero,i.size,i.bytes))=some (some .nilFunc,1,8):=by kernel_rfl
theorem ThenI.own {w:World} {B:Nat} {tp:Option Addr} {tn tc tk n0:Nat} {vr ve vs vf vd vp:Value} {xs0 ys:List Value} {W W':World} {row:Option Nat} {b:Nat} (hb:w.heap.size≤b) (h:ThenI w B tp tn tc tk n0 vr ve vs vf vd vp xs0 ys W) (hg:W.grownBy W' row) (hr:∀ r,row=some r→b≤r∧∃ o:Obj,W.heap[r]?=some o∧o.isCells=false):ThenI w B tp tn tc tk n0 vr ve vs vf vd vp xs0 ys W':=by
 have hk:∀ {g:Nat} {C:Array Value} {t:TypeId} {f:Nat × Nat},W.heap[g]?=some (.cells C t f)→W'.heap[g]?=W.heap[g]?:=fun {g C t f} hh=>hg.block g (Array.getElem?_eq_some_iff.1 hh).1 (fun e=>by
  obtain ⟨_,o,ho,hc⟩:=hr g e.symm
  rw [hh] at ho;cases ho;cases hc)
 obtain ⟨q,cp,h1,h2,h3,h4⟩:=h
 refine ⟨q,cp,(hk h1).trans h1,?_,h3,h4.trans ⟨hg.os,hg.tape,hg.output,hg.size,fun x hx=>hg.block x (Nat.lt_of_lt_of_le hx.1 h4.size) (fun e=>by have:=(hr x e.symm).1;omega)⟩⟩
 rcases h2 with ⟨e1,h2 | ⟨g,cap,cur,hv,hb,hgb,r⟩⟩
 ·exact ⟨e1,.inl h2⟩
 ·exact ⟨e1,.inr ⟨g,cap,cur,hv,hb,(hk hgb).trans hgb,r⟩⟩
theorem then_in {n:Nat} (hn:8≤n) {w:World} {B:Nat} {tp:Option Addr} {tn tc tk n0 b0 m cap:Nat} {vr ve vs vf vd vp:Value} {xs0 L:List Value} (hH:Hold B (psC tp tn tc tk vr ve vs vf vd vp) 63 w) (hrow:w.ownsRow 0 1 1 vr n0 xs0) (hn0:n0≤1000000000) (hl:L.length=m) (hm:m≤1000) (h1:∀ v ∈ L,∃ f x y,v=.func f x y) (hL:∀ i v,L[i]?=some v→w.cell? ⟨b0,i,none⟩=some v) (hb0:b0<w.heap.size) (hbB:b0≠B) (hbr:some b0≠vr.ownBlock) (hBr:some B≠vr.ownBlock) :
 CallsIn Fence.wide n Tryz.prog 55 #[.pointer (some ⟨B,0,none⟩),.slice (some ⟨b0,0,none⟩) m cap] w fun e w'=>e=.returned (.tuple #[])∧ThenI w B tp tn tc tk n0 vr ve vs vf vd vp xs0 L.reverse w':=by
 have hn1:1≤n:=by omega
 refine callsIn_of_wp_marks Tryz.func55 rfl trivial ?_ rfl
 simp only [Tryz.ntmps55,List.size_toArray,List.length_cons,List.length_nil,Nat.reduceAdd,Nat.reduceSub,Array.replicate_succ,Array.replicate_zero,List.push_toArray,List.append_toArray,List.nil_append,List.cons_append]
 gi_wp2_with fail
 refine ⟨trivial,(back_in (n - 1) _ _ _ _).mono ?_⟩
 rintro e w' ⟨rfl,rfl⟩
 gi_wp2_with fail
 have A1:=(Hold.new w #[.pointer (some ⟨B,0,none⟩)] 58).alloc (.cells #[.slice (some ⟨b0,0,none⟩) m cap] 59)
 have A2:=Hold.new (w.alloc (.cells #[.pointer (some ⟨B,0,none⟩)] 58)) #[.slice (some ⟨b0,0,none⟩) m cap] 59
 have AB:Below w.heap.size w ((w.alloc (.cells #[.pointer (some ⟨B,0,none⟩)] 58)).alloc (.cells #[.slice (some ⟨b0,0,none⟩) m cap] 59)):=((Below.refl _ w).alloc (Nat.le_refl _) _).alloc (by simp) _
 have AZ:((w.alloc (.cells #[.pointer (some ⟨B,0,none⟩)] 58)).alloc (.cells #[.slice (some ⟨b0,0,none⟩) m cap] 59)).heap.size=w.heap.size+1+1:=by simp
 simp only [World.size_alloc] at A2
 generalize ((w.alloc (.cells #[.pointer (some ⟨B,0,none⟩)] 58)).alloc (.cells #[.slice (some ⟨b0,0,none⟩) m cap] 59))=W0 at *
 obtain ⟨bp,hbp⟩:∃ b,b=w.heap.size:=⟨_,rfl⟩
 obtain ⟨bs,hbs⟩:∃ b,b=w.heap.size+1:=⟨_,rfl⟩
 rw [← hbp] at A1
 rw [← hbs] at A2
 rw [← hbs]
 rw [show (Value.pointer (some { block:=w.heap.size,off:=0 }))=Value.pointer (some ⟨bp,0,none⟩) from by rw [hbp]]
 have hI0:ThenI w B tp tn tc tk n0 vr ve vs vf vd vp xs0 [] W0:=by
  obtain ⟨q,cp,rfl⟩:=slice_of hrow
  exact ⟨q,cp,hH.below AB hH.lt,by rw [List.append_nil];exact row_keep hrow fun g _ hg=>AB.block g hg,.inl rfl,KP.of_below AB fun b hb=>hb.1⟩
 have hlB:=hH.lt
 have HXS:=zz hrow.1
 have o1:w.heap.size≤bp:=by omega
 have o2:bp<bs:=by omega
 have o3:bs<W0.heap.size:=by omega
 have o4:w.heap.size≤W0.heap.size:=by omega
 have o5:b0<bp:=by omega
 clear hbp hbs AZ
 refine wpIn_rangeFunc_ownG rfl hn1 (gf:=170) (lb:=#[.pointer (some ⟨bs,0,none⟩)]) rfl trivial (enters_of Tryz.func170 (by kernel_rfl) rfl)
  (encs:=encB) (Kp:=fun A C=>C.heap[b0]?=A.heap[b0]?∧C.heap[bs]?=A.heap[bs]?) (S:=fun ys=>ys.map valB=L.reverse) (Sp:=fun _=>True) (N:=m) (w0:=W0)
  (fun ld J Jx W hW _ _ hY h0=>back1_in (n - 1) (by omega) ld bs b0 m cap L hl hm h1 J Jx hY W ((hW.cell (p:=⟨bs,0,none⟩) A2.lt).trans (A2.cell 0)) (fun i v hi=>(hW.cell (p:=⟨b0,i,none⟩) (by show b0<_;omega)).trans ((AB.cell (p:=⟨b0,i,none⟩) hb0).trans (hL i v hi))) h0)
  (fun h k=>⟨k.1.trans h.1,k.2.trans h.2⟩) (fun W l o o' hl ho hc _=>⟨World.putObj_heap_other (fun e=>by omega),World.putObj_heap_other (fun e=>by omega)⟩) (Below.refl _ _) (fun _=>rfl)
  (fun pre W=>ThenI w B tp tn tc tk n0 vr ve vs vf vd vp xs0 (pre.map valB) W∧Hold bp #[.pointer (some ⟨B,0,none⟩)] 58 W∧Hold bs #[.slice (some ⟨b0,0,none⟩) m cap] 59 W∧W0.heap.size≤W.heap.size)
  (fun c pre W=>False)
  (fun s X Y row hs hg hr=>⟨hs.1.own (b:=W0.heap.size) (by omega) hg hr,(hg.block bp (Array.getElem?_eq_some_iff.1 hs.2.1).1 (fun e=>by have:=(hr bp e.symm).1;omega)).trans hs.2.1,(hg.block bs (Array.getElem?_eq_some_iff.1 hs.2.2.1).1 (fun e=>by have:=(hr bs e.symm).1;omega)).trans hs.2.2.1,Nat.le_trans hs.2.2.2 hg.size⟩)
  (fun c s X Y row hs hg hr=>hs)
  ⟨hI0,A1,A2,Nat.le_refl _⟩
  (fun x=>{ tmps:=#[.pointer (some ⟨B,0,none⟩),.slice (some ⟨b0,0,none⟩) m cap,.pointer (some ⟨bp,0,none⟩),undef,undef,.func x.2.1 x.2.2.1 x.2.2.2,.slice (some ⟨b0,0,none⟩) m cap,.func (.func 170) #[] #[.pointer (some ⟨bs,0,none⟩)],.int .i64 x.1,.func x.2.1 x.2.2.1 x.2.2.2,undef,undef,undef,undef,undef,undef,undef,undef,undef,undef],defers:=[] }) ?assign ?body ?done ?stop
 case assign=>
  intro ld x W K hK
  unfold encB
  gi_wp2
  exact hK
 case body=>
  rintro ld pre ⟨i,f,x,y⟩ W ⟨⟨q,cp,g1,g2,g3,g4⟩,hbx,hbz,hsz⟩ hlt
  dsimp only
  have HP:Hid ((pre ++ [((i,f,x,y):Bv)]).map valB=pre.map valB ++ [.func f x y]):=by show _=_;rw [List.map_append];rfl
  have hkm:(pre.map valB).length≤1000:=by rw [List.length_map];omega
  generalize pre.map valB=ys at *
  obtain ⟨k,hk⟩:∃ k,k=ys.length:=⟨_,rfl⟩
  rw [← hk] at g1 g2 g3 hkm
  have HKL:=zz hk
  clear hk
  have cB:=g1.cell 2
  have cb:=hbx.cell 0
  simp only [lGA,lGS,lGZ] at cB cb
  have nB:some B≠(Value.slice q (n0+k) cp).ownBlock:=by
   rcases g3 with g3 | ⟨g,hg,rfl⟩
   ·rw [g3];exact hBr
   ·simp [Value.ownBlock];omega
  have nb:some bp≠(Value.slice q (n0+k) cp).ownBlock:=row_ne hbx g2 (by decide)
  obtain ⟨i0,hi,hz0,hz1,hz2⟩:=info_parts info1
  have G1:=zz g1
  have G2:=zz g2
  have G3:=zz g3
  have G4:=zz g4
  have HBX:=zz hbx
  have HBZ:=zz hbz
  have ns:some bs≠(Value.slice q (n0+k) cp).ownBlock:=row_ne hbz g2 (by decide)
  clear hbz
  clear g1 g2 g3 g4 hbx hlt
  gi_wp2_with fail
  refine round_J 11 (S:=(fun W':World=>W'.cell? ⟨bp,0,none⟩=some (.pointer (some ⟨B,0,none⟩))∧W'.cell? ⟨B,2,none⟩=some (.slice q (n0+k) cp))) (N:=8) (by kernel_rfl) (by kernel_rfl) (by kernel_rfl) ?_
  have hS:(fun W':World=>W'.cell? ⟨bp,0,none⟩=some (.pointer (some ⟨B,0,none⟩))∧W'.cell? ⟨B,2,none⟩=some (.slice q (n0+k) cp)) W.drew:=⟨cb,cB⟩
  refine take_D (i:=0) 10 (.pointer (some ⟨B,0,none⟩)) rfl rfl (by kernel_rfl) (by kernel_rfl) (by kernel_rfl) (by kernel_rfl) (fun _ _ _ h=>h.elim) (Or.inl ⟨by rfl,fun W' hW=>by obtain ⟨s0,s1⟩:=hW;go_simp⟩) hS ?_
  simp only [Act.put,lSI,lSZ,lSS]
  refine take_D (i:=1) 11 (.pointer (some ⟨B,0,none⟩)) rfl rfl (by kernel_rfl) (by kernel_rfl) (by kernel_rfl) (by kernel_rfl) (fun _ _ _ h=>h.elim) (Or.inl ⟨by rfl,fun W' hW=>by obtain ⟨s0,s1⟩:=hW;go_simp⟩) hS ?_
  simp only [Act.put,lSI,lSZ,lSS]
  refine take_D (i:=2) 12 (.pointer (some ⟨B,0,none⟩)) rfl rfl (by kernel_rfl) (by kernel_rfl) (by kernel_rfl) (by kernel_rfl) (fun _ _ _ h=>h.elim) (Or.inl ⟨by rfl,fun W' hW=>by obtain ⟨s0,s1⟩:=hW;go_simp⟩) hS ?_
  simp only [Act.put,lSI,lSZ,lSS]
  refine take_D (i:=3) 13 (.pointer (some ⟨B,2,none⟩)) rfl rfl (by kernel_rfl) (by kernel_rfl) (by kernel_rfl) (by kernel_rfl) (fun _ _ _ h=>h.elim) (Or.inl ⟨by rfl,fun W' hW=>by obtain ⟨s0,s1⟩:=hW;go_simp⟩) hS ?_
  simp only [Act.put,lSI,lSZ,lSS]
  refine take_D (i:=4) 14 (.slice q (n0+k) cp) rfl rfl (by kernel_rfl) (by kernel_rfl) (by kernel_rfl) (by kernel_rfl) (fun _ _ _ h=>h.elim) (Or.inl ⟨by rfl,fun W' hW=>by obtain ⟨s0,s1⟩:=hW;go_simp⟩) hS ?_
  simp only [Act.put,lSI,lSZ,lSS]
  refine take_D (i:=5) 15 (.func f x y) rfl rfl (by kernel_rfl) (by kernel_rfl) (by kernel_rfl) (by kernel_rfl) (fun _ _ _ h=>h.elim) (Or.inl ⟨by rfl,fun W' hW=>by obtain ⟨s0,s1⟩:=hW;go_simp⟩) hS ?_
  simp only [Act.put,lSI,lSZ,lSS]
  refine ready_E [6] ?_
  intro j hj
  obtain rfl:=List.mem_singleton.1 hj
  refine op_E fun K hK=>?_
  go_simp
  have c1:(W.drew.alloc (.cells #[.func f x y] 1)).cell? ⟨bp,0,none⟩=some (.pointer (some ⟨B,0,none⟩)):=(HBX.out.alloc (.cells #[.func f x y] 1)).cell 0
  have c2:(W.drew.alloc (.cells #[.func f x y] 1)).cell? ⟨B,2,none⟩=some (.slice q (n0+k) cp):=(G1.out.alloc (.cells #[.func f x y] 1)).cell 2
  refine hK _ _ ⟨fun _=>⟨c1,c2⟩,?_⟩
  clear hK K
  refine ready_E [7] ?_
  intro j hj
  obtain rfl:=List.mem_singleton.1 hj
  refine op_E fun K hK=>?_
  refine wp_append_lies _ _ _ _ (by rfl) 0 1 i0 _ 1 8 Tryz.underlying59 hi hz0 hz1 hz2 rfl (by omega) (.slice q (n0+k) cp) (n0+k) (xs0 ++ ys) (by rfl) (((G2.out.alloc (.cells #[.func f x y] 1))).drew) ⟨W.heap.size,0,none⟩ 1 1 [.func f x y] (by rfl) (by rfl) (World.news_of_block (cs:=#[.func f x y]) (t:=1) (fr:=(0,0)) (heap_alloc_new W _)) (by simp [Value.oneCell']) (by omega) (by unfold maxLen;omega) (by omega) (by omega) (W.heap.size+1) (by simp) ?_
  intro gg cap2 W2 hown hgrow hat hlt2
  have HB2:Hold B (psC tp tn tc tk (.slice q (n0+k) cp) ve vs vf vd vp) 63 W2:=(hgrow.block B (Hold.lt (G1.out.alloc _)) nB).trans (G1.out.alloc _)
  have HX2:Hold bp #[.pointer (some ⟨B,0,none⟩)] 58 W2:=(hgrow.block bp (Hold.lt (HBX.out.alloc _)) nb).trans (HBX.out.alloc _)
  have d2:=HB2.cell 2
  have z2:=HB2.frozen 2
  have d0:=HX2.cell 0
  simp only [lGA,lGS,lGZ] at d2 d0
  refine hK _ _ ⟨fun _=>⟨d0,d2⟩,?_⟩
  clear hK K
  refine ready_E [8] ?_
  intro j hj
  obtain rfl:=List.mem_singleton.1 hj
  refine op_E fun K hK=>?_
  go_simp
  refine hK _ _ ⟨fun h=>absurd h (by omega),?_⟩
  clear hK K
  refine ready_E [9] ?_
  intro j hj
  obtain rfl:=List.mem_singleton.1 hj
  refine op_E fun K hK=>?_
  go_simp
  refine hK _ _ ⟨fun h=>absurd h (by omega),?_⟩
  clear hK K
  refine ready_E [10] ?_
  intro j hj
  obtain rfl:=List.mem_singleton.1 hj
  refine op_E fun K hK=>?_
  go_simp
  refine hK _ _ ⟨fun h=>absurd h (by omega),?_⟩
  clear hK K
  refine done_J (by kernel_rfl) ?_ _
  show Exit.inBlock 1 _ .normal _ _
  gi_wp2_with fail
  have n0':some b0≠(Value.slice q (n0+k) cp).ownBlock:=by
   rcases G3.out with g3 | ⟨g,hg,rfl⟩
   ·rw [g3];exact hbr
   ·simp [Value.ownBlock];omega
  have kW:∀ x,x<W.heap.size→x≠B→some x≠(Value.slice q (n0+k) cp).ownBlock→(W2.setCell ⟨B,2,none⟩ (.slice (some ⟨gg,0,none⟩) (n0+k+1) cap2)).heap[x]?=W.heap[x]?:=fun x hx h1 h2=>
   (Below.heap_setCell _ _ _ x h1).trans ((hgrow.block x (by simp;omega) h2).trans (Below.heap_alloc W _ x hx))
  have hsW:W.heap.size≤W2.heap.size:=by have:=hgrow.size;simp at this;omega
  have hBW:=G1.out.lt
  refine ⟨⟨by simpa using hsW,fun x o hx ho hc=>?_⟩,⟨kW b0 (by omega) hbB n0',kW bs (by omega) (by omega) ns⟩,?_,?_,?_,by simp;omega⟩
  ·refine (kW x (Array.getElem?_eq_some_iff.1 ho).1 (by omega) (fun e=>?_)).trans ho
   rcases G2.out.2 with ⟨hv,_⟩ | ⟨g',cap',cur,hv,_,hgb,_⟩
   ·rw [hv] at e;cases e
   ·rw [hv] at e
    have e':x=g':=by simpa [Value.ownBlock] using e
    subst e'
    rw [hgb] at ho
    cases ho
    cases hc
  ·rw [HP.out]
   have hyl:(ys ++ [Value.func f x y]).length=k+1:=by simp [HKL.out]
   refine ⟨some ⟨gg,0,none⟩,cap2,?_,?_,?_,?_⟩
   ·rw [hyl]
    exact HB2.set 2 _
   ·rw [hyl,← List.append_assoc]
    exact row_other hown HB2 (by decide) 2 _
   ·rcases hat with hat | hat
    ·rcases G3.out with g3 | ⟨g,hg,rfl⟩
     ·left
      rw [← g3,hat]
      rfl
     ·right
      have:g=gg:=by simpa [Value.ownBlock] using hat
      exact ⟨gg,by omega,rfl⟩
    ·right
     exact ⟨gg,by omega,rfl⟩
   ·refine G4.out.trans ⟨?_,?_,?_,by simpa using hsW,fun x hx=>kW x (by omega) hx.2.1 ?_⟩
    ·exact hgrow.os
    ·exact hgrow.tape
    ·exact hgrow.output
    ·rcases G3.out with g3 | ⟨g,hg,rfl⟩
     ·rw [g3];exact hx.2.2
     ·simp [Value.ownBlock];omega
  ·exact HX2.other (by omega) 2 _
  ·exact (kW bs (by omega) (by omega) ns).trans HBZ.out
 case done=>
  rintro D ys W hD hS ⟨hI,hbx,hbz,hsz⟩ hK
  rw [hS] at hI
  gi_wp2
  refine ⟨by simp,.inl ⟨_,_,rfl,run_takeDeferred hK,?_⟩⟩
  refine ⟨.tuple #[],?_,?_⟩
  ·simp [results,Tryz.f55,go_sem]
  ·exact ⟨rfl,hI.own (b:=W0.heap.size) o4 (grownBy_putObj' W D _) (fun r e=>by cases e;exact ⟨hD,_,hK,rfl⟩)⟩
 case stop=>
  rintro D c pre W hD hS hI hK
  exact hI.elim
theorem then_raw {w:World} {B:Nat} {tp:Option Addr} {tn tc tk n0 b0 m cap:Nat} {vr ve vs vf vd vp:Value} {xs0 L:List Value} (hH:Hold B (psC tp tn tc tk vr ve vs vf vd vp) 63 w) (hrow:w.ownsRow 0 1 1 vr n0 xs0) (hn0:n0≤1000000000) (hl:L.length=m) (hm:m≤1000) (h1:∀ v ∈ L,∃ f x y,v=.func f x y) (hL:∀ i v,L[i]?=some v→w.cell? ⟨b0,i,none⟩=some v) (hb0:b0<w.heap.size) (hbB:b0≠B) (hbr:some b0≠vr.ownBlock) (hBr:some B≠vr.ownBlock) :
 Calls Tryz.prog 55 #[.pointer (some ⟨B,0,none⟩),.slice (some ⟨b0,0,none⟩) m cap] w fun e w'=>e=.returned (.tuple #[])∧ThenI w B tp tn tc tk n0 vr ve vs vf vd vp xs0 L.reverse w':=callsIn_wide.1 (then_in (n:=8) (Nat.le_refl _) hH hrow hn0 hl hm h1 hL hb0 hbB hbr hBr)
theorem RuV.func {B:Nat} {c:Nat→Nat} {w:World} {i:Nat} {v:Value} {r:Ru} (h:RuV B c w i v r):∃ f x y,v=.func f x y:=by
 obtain ⟨k,s,j,t,n,ns⟩:=r
 unfold RuV at h
 simp only at h
 split at h
 ·obtain ⟨b1,b2,rfl,_⟩:=h;exact ⟨_,_,_,rfl⟩
 ·obtain ⟨b1,b2,b3,rfl,_⟩:=h;exact ⟨_,_,_,rfl⟩
 ·obtain ⟨b1,b2,b3,_,_,rfl,_⟩:=h;exact ⟨_,_,_,rfl⟩
 ·obtain ⟨b1,b2,b3,rfl,_⟩:=h;exact ⟨_,_,_,rfl⟩
 ·obtain ⟨b1,b2,_,_,rfl,_⟩:=h;exact ⟨_,_,_,rfl⟩
 ·obtain ⟨b1,b2,rfl,_⟩:=h;exact ⟨_,_,_,rfl⟩
 ·obtain ⟨b1,b2,rfl,_⟩:=h;exact ⟨_,_,_,rfl⟩
 ·exact ⟨_,_,_,h.2.2⟩
theorem flat_one (L:List Value):(L.map fun v=>[v]).flatten=L:=by
 induction L with
 | nil=>rfl
 | cons a r ih=>rw [List.map_cons,List.flatten_cons,ih];rfl
def ThenQ (c:Nat→Nat) (B:Nat) (l:List Tk) (p:Ps) (w:World) (e:Ending) (w':World):Prop:=
 e=.returned (.tuple #[])∧∃ c',(∀ b,b<w.heap.size→c' b=c b)∧PM c' B l p w'∧KP (Imm c w) w w'
theorem then_any {c:Nat→Nat} {B:Nat} {l:List Tk} {p:Ps} {w:World} {b0 m cap:Nat} {rs:List Ru} (hP:PM c B l p w) (hn:p.ru.length≤1000000000) (hl:rs.length=m) (hm:m≤1000) {L:List Value} (hL:Hold b0 L.toArray 1 w) (hc0:c b0=0) (hLl:L.length=m) (hR:∀ i r,rs[i]?=some r→∃ v,L[i]?=some v∧RuV B c w (p.ru.length+(m - 1 - i)) v r) :
 Calls Tryz.prog 55 #[.pointer (some ⟨B,0,none⟩),.slice (some ⟨b0,0,none⟩) m cap] w (ThenQ c B l { p with ru:=rs ++ p.ru } w):=by
 obtain ⟨tp,tc,vr,ve,vs,vf,vd,vp,hS⟩:=hP
 obtain ⟨L0,k1,k2,k3,k4,k5⟩:=hS.rul
 rw [List.length_reverse] at k1 k3
 have hbB:b0≠B:=fun e=>by have:=hS.colB;rw [← e,hc0] at this;cases this
 have hbr:some b0≠vr.ownBlock:=fun e=>by have:=k4 b0 e.symm;rw [hc0] at this;cases this
 have hBr:some B≠vr.ownBlock:=fun e=>by have:=k4 B e.symm;rw [hS.colB] at this;cases this
 refine (then_raw (cap:=cap) hS.hold k3 hn hLl hm (fun v hv=>?_) (fun i v hi=>?_) hL.lt hbB hbr hBr).mono ?_
 ·obtain ⟨i,hi,rfl⟩:=List.getElem_of_mem hv
  have hi2:i<rs.length:=by omega
  obtain ⟨v,h1,h2⟩:=hR i rs[i] (by simp)
  rw [List.getElem?_eq_getElem hi] at h1
  cases h1
  exact h2.func
 ·rw [hL.cell i]
  simpa using hi
 rintro e w' ⟨rfl,q,cp,g1,g2,g3,g4⟩
 rw [List.length_reverse,hLl] at g1 g2 g3
 have hs:w.heap.size≤w'.heap.size:=g4.size
 have hc:∀ b,b<w.heap.size→(fun b=>if b<w.heap.size then c b else 2) b=c b:=fun b hb=>by simp [hb]
 have s:Step c (fun b=>if b<w.heap.size then c b else 2) (fun k=>k≠1∧k≠2) w w':=
  ⟨g4.mono fun b hb=>⟨hb.1,fun e=>hb.2.1 (by rw [e];exact hS.colB),fun e=>hb.2.2 (k4 b e.symm)⟩,fun b hb _=>hc b hb⟩
 refine ⟨rfl,_,hc,⟨tp,tc,_,ve,vs,vf,vd,vp,g1,(hc B hS.hold.lt).trans hS.colB,hS.ktoks s (by decide),hS.len,hS.at',?_,hS.kexs s (by decide) (by decide),hS.ksgs s (by decide) (by decide),hS.kfms s (by decide) (by decide),hS.kdts s (by decide) (by decide),hS.kdfs s (by decide) (by decide)⟩,s.kimm (by decide)⟩
 have hrev:(rs ++ p.ru).reverse=p.ru.reverse ++ rs.reverse:=List.reverse_append
 refine ⟨L0 ++ L.reverse.map fun v=>[v],?_,?_,?_,?_,?_⟩
 ·simp [k1,hLl,hl,Nat.add_comm]
 ·intro ds hd
  rcases List.mem_append.1 hd with hd | hd
  ·exact k2 ds hd
  ·obtain ⟨v,_,rfl⟩:=List.mem_map.1 hd;rfl
 ·rw [List.flatten_append,flat_one]
  show w'.ownsRow 0 1 1 _ (rs ++ p.ru).reverse.length _
  rw [List.length_reverse,List.length_append,hl,show m+p.ru.length=p.ru.length+m from Nat.add_comm _ _]
  exact g2
 ·intro g hg
  rcases g3 with g3 | ⟨g',hg',rfl⟩
  ·rw [g3] at hg
   have h1:=k4 g hg
   by_cases hlt:g<w.heap.size
   ·simp [hlt,h1]
   ·simp [hlt]
  ·have:g'=g:=by simpa [Value.ownBlock] using hg
   subst this
   simp [show ¬ g'<w.heap.size by omega]
 ·intro i r hr
  rw [hrev] at hr
  by_cases hi:i<p.ru.length
  ·rw [List.getElem?_append_left (by simpa using hi)] at hr
   obtain ⟨ds,h1,v,h2,h3⟩:=k5 i r hr
   exact ⟨ds,by rw [List.getElem?_append_left (by omega)];exact h1,v,h2,h3.step s (by decide) ⟨by omega,by omega⟩⟩
  ·rw [List.getElem?_append_right (by simp;omega),List.length_reverse] at hr
   have hj:=(List.getElem?_eq_some_iff.1 hr).1
   rw [List.length_reverse,hl] at hj
   rw [List.getElem?_reverse (by omega)] at hr
   obtain ⟨v,h1,h2⟩:=hR _ r hr
   rw [hl] at h1 h2
   refine ⟨[v],?_,v,rfl,?_⟩
   ·rw [List.getElem?_append_right (by omega),List.getElem?_map,k1,List.getElem?_reverse (by omega),hLl,h1];rfl
   ·have e1:p.ru.length+(m - 1 - (m - 1 - (i - p.ru.length)))=i:=by omega
    rw [e1] at h2
    exact h2.step s (by decide) ⟨by omega,by omega⟩
end Go.Proofs.YtcnnlecjdkfdjaaGreatDoor
