/- Base RegionJ Arms: the texts of these names, of which the claim is made. -/
import Derived.Test.YtcnnlecjdkfdjaaGreatDoorTree
import Derived.Deep.RegionHeld3
set_option linter.unusedVariables false
set_option linter.unusedSimpArgs false
set_option maxRecDepth 100000
set_option maxHeartbeats 8000000
namespace Go.Proofs.YtcnnlecjdkfdjaaGreatDoor
open Go.RowKit
def cl (x:UInt8):Value:=.int .u8 x.toNat
theorem info5:(Tryz.prog.info? 5).map (fun i=>(i.zero,i.size,i.bytes))=some (some (.int .u8 0),1,1):=by kernel_rfl
def Hold (b:Nat) (C:Array Value) (t:TypeId) (W:World):Prop:=W.heap[b]?=some (Obj.cells C t (0,0))
theorem Hold.new (W:World) (C:Array Value) (t:TypeId):Hold W.heap.size C t (W.alloc (.cells C t)):=by
 show (W.heap.push _)[W.heap.size]?=_
 simp
theorem Hold.alloc {b:Nat} {C:Array Value} {t:TypeId} {W:World} (h:Hold b C t W) (o:Obj):Hold b C t (W.alloc o):=(Below.heap_alloc W o b (Array.getElem?_eq_some_iff.1 h).1).trans h
theorem Hold.lt {b:Nat} {C:Array Value} {t:TypeId} {W:World} (h:Hold b C t W):b<W.heap.size:=(Array.getElem?_eq_some_iff.1 h).1
theorem Hold.set {b:Nat} {C:Array Value} {t:TypeId} {W:World} (h:Hold b C t W) (i:Nat) (v:Value):Hold b (C.setIfInBounds i v) t (W.setCell ⟨b,i,none⟩ v):=by
 obtain ⟨hlt,hk⟩:=Array.getElem?_eq_some_iff.1 h
 show (W.heap.modify b _)[b]?=_
 rw [Array.getElem?_eq_getElem (by rw [Array.size_modify];exact hlt),Array.getElem_modify_self,hk]
 rfl
theorem Hold.other {b b':Nat} {C:Array Value} {t:TypeId} {W:World} (h:Hold b C t W) (hne:b≠b') (i:Nat) (v:Value):Hold b C t (W.setCell ⟨b',i,none⟩ v):=(Below.heap_setCell _ _ _ b hne).trans h
theorem Hold.cell {b:Nat} {C:Array Value} {t:TypeId} {W:World} (h:Hold b C t W) (i:Nat):W.cell? ⟨b,i,none⟩=C[i]?:=by unfold World.cell?;rw [show W.heap[b]?=_ from h];rfl
theorem Hold.frozen {b:Nat} {C:Array Value} {t:TypeId} {W:World} (h:Hold b C t W) (i:Nat):W.frozen? ⟨b,i,none⟩=false:=by unfold World.frozen?;rw [show W.heap[b]?=_ from h];simp
theorem Hold.below {b n:Nat} {C:Array Value} {t:TypeId} {W W':World} (h:Hold b C t W) (hb:Below n W W') (hn:b<n):Hold b C t W':=(hb.block b hn).trans h
theorem below_next {w w':World} {o:Obj} (h:Below (w.alloc o).heap.size (w.alloc o) w'):Below w.heap.size w w':=((Below.refl _ w).alloc (Nat.le_refl _) o).trans (h.mono (by simp))
theorem row_other {b:Nat} {C:Array Value} {t e:TypeId} {W:World} {base size k:Nat} {v:Value} {xs:List Value} (hr:W.ownsRow base e size v k xs) (h:Hold b C t W) (hne:t≠e) (i:Nat) (u:Value):(W.setCell ⟨b,i,none⟩ u).ownsRow base e size v k xs:=by
 rcases hr with ⟨h1,h2 | ⟨g,cap,cur,hv,hb,hg,r⟩⟩
 ·exact ⟨h1,.inl h2⟩
 ·refine ⟨h1,.inr ⟨g,cap,cur,hv,hb,(Below.heap_setCell _ _ _ g (fun e'=>?_)).trans hg,r⟩⟩
  have e'':g=b:=e'
  subst e''
  rw [show W.heap[g]?=_ from h] at hg;cases hg;exact hne rfl
theorem row_ne {W:World} {b base k size:Nat} {C:Array Value} {t e:TypeId} {v:Value} {xs:List Value} (h:Hold b C t W) (hr:W.ownsRow base e size v k xs) (hne:t≠e):some b≠v.ownBlock:=by
 rcases hr.2 with ⟨rfl,_⟩ | ⟨g,cap,cur,rfl,_,hgb,_⟩
 ·simp [Value.ownBlock]
 ·intro e'
  have e'':b=g:=by simpa [Value.ownBlock] using e'
  subst e''
  rw [show W.heap[b]?=_ from h] at hgb;cases hgb;exact hne rfl
theorem row_lt {W:World} {base k size:Nat} {e:TypeId} {v:Value} {xs:List Value} (hr:W.ownsRow base e size v k xs):some W.heap.size≠v.ownBlock:=by
 rcases hr.2 with ⟨rfl,_⟩ | ⟨g,cap,cur,rfl,_,hgb,_⟩
 ·simp [Value.ownBlock]
 ·intro e'
  have e'':W.heap.size=g:=by simpa [Value.ownBlock] using e'
  have:=(Array.getElem?_eq_some_iff.1 hgb).1
  omega
theorem slice_of {w:World} {base n:Nat} {e:TypeId} {size:Nat} {v:Value} {xs:List Value} (h:w.ownsRow base e size v n xs):∃ ao cap,v=.slice ao n cap:=by
 rcases h.2 with ⟨rfl,rfl⟩ | ⟨g,cap,cur,rfl,_⟩
 ·exact ⟨none,0,rfl⟩
 ·exact ⟨some ⟨g,0,none⟩,cap,rfl⟩
theorem row_keep {W W':World} {base k size:Nat} {e:TypeId} {v:Value} {xs:List Value} (hr:W.ownsRow base e size v k xs) (h:∀ g,v.ownBlock=some g→g<W.heap.size→W'.heap[g]?=W.heap[g]?):W'.ownsRow base e size v k xs:=by
 rcases hr with ⟨h1,h2 | ⟨g,cap,cur,hv,hb,hg,r⟩⟩
 ·exact ⟨h1,.inl h2⟩
 ·refine ⟨h1,.inr ⟨g,cap,cur,hv,hb,(h g (by rw [hv];rfl) (Array.getElem?_eq_some_iff.1 hg).1).trans hg,r⟩⟩
theorem row_cut {W:World} {base k size cap j:Nat} {e:TypeId} {p:Option Addr} {xs:List Value} (hr:W.ownsRow base e size (.slice p k cap) k xs) (hj:j≤k):W.ownsRow base e size (.slice p j cap) j (xs.take (j * size)):=by
 have hx:=hr.1
 have hjk:j * size≤k * size:=Nat.mul_le_mul_right _ hj
 rcases hr with ⟨h1,⟨h2,h3⟩ | ⟨g,cap',cur,hv,hb,hg,r1,r2,r3,r4⟩⟩
 ·subst h3
  obtain rfl:j=0:=by omega
  cases h2
  exact ⟨by simp,.inl ⟨rfl,rfl⟩⟩
 ·cases hv
  refine ⟨by rw [List.length_take];omega,.inr ⟨g,cap,cur,rfl,hb,hg,by omega,r2,r3,?_⟩⟩
  rw [← r4,List.take_take,Nat.min_eq_left hjk]
theorem below_row {B n:Nat} {e:TypeId} {size:Nat} {w w':World} {v:Value} {xs:List Value} (hr:w.ownsRow B e size v n xs) (hB:B≤w.heap.size) (hg:w.grownBy w' v.ownBlock):Below B w w':=by
 refine ⟨hg.os,hg.tape,hg.output,hg.size,fun k hk=>hg.block k (by omega) (fun e=>?_)⟩
 rcases hr.2 with ⟨rfl,_⟩ | ⟨g,cap,cur,rfl,hb,_⟩
 ·simp [Value.ownBlock] at e
 ·simp [Value.ownBlock] at e;omega
theorem row_cell {W:World} {base n cap size:Nat} {e:TypeId} {g:Nat} {xs:List Value} (h:W.ownsRow base e size (.slice (some ⟨g,0,none⟩) n cap) n xs) {j:Nat} {v:Value} (hj:xs[j]?=some v):W.cell? ⟨g,j,none⟩=some v:=by
 have hl:=(List.getElem?_eq_some_iff.1 hj).1
 rcases h with ⟨h1,⟨h2,_⟩ | ⟨g',cap',cur,hv,hb,hg,r1,r2,r3,r4⟩⟩
 ·cases h2
 ·cases hv
  rw [← r4,List.getElem?_take,if_pos (by omega)] at hj
  simp only [World.cell?,hg]
  rw [← hj]
  simp
structure KP (P:Nat→Prop) (w w':World):Prop where
 os:w'.os=w.os
 tape:w'.tape=w.tape
 output:w'.output=w.output
 size:w.heap.size≤w'.heap.size
 block:∀ b,P b→w'.heap[b]?=w.heap[b]?
theorem KP.refl (P:Nat→Prop) (w:World):KP P w w:=⟨rfl,rfl,rfl,Nat.le_refl _,fun _ _=>rfl⟩
theorem KP.trans {P:Nat→Prop} {a b c:World} (h:KP P a b) (k:KP P b c):KP P a c:=⟨k.os.trans h.os,k.tape.trans h.tape,k.output.trans h.output,Nat.le_trans h.size k.size,fun x hx=>(k.block x hx).trans (h.block x hx)⟩
theorem KP.mono {P Q:Nat→Prop} {a b:World} (h:KP P a b) (hq:∀ x,Q x→P x):KP Q a b:=⟨h.os,h.tape,h.output,h.size,fun x hx=>h.block x (hq x hx)⟩
theorem KP.below {P:Nat→Prop} {a b:World} {n:Nat} (h:KP P a b) (hq:∀ x,x<n→P x):Below n a b:=⟨h.os,h.tape,h.output,h.size,fun x hx=>h.block x (hq x hx)⟩
theorem KP.alloc {P:Nat→Prop} (w:World) (o:Obj) (hP:∀ b,P b→b<w.heap.size):KP P w (w.alloc o):=⟨rfl,rfl,rfl,by simp,fun b hb=>Below.heap_alloc w o b (hP b hb)⟩
theorem KP.setCell {P:Nat→Prop} (w:World) (b i:Nat) (v:Value) (hP:¬ P b):KP P w (w.setCell ⟨b,i,none⟩ v):=⟨rfl,rfl,rfl,by simp,fun x hx=>Below.heap_setCell _ _ _ x (fun e=>hP (by subst e;exact hx))⟩
theorem KP.of_grown {P:Nat→Prop} {w w':World} {r:Option Nat} (h:w.grownBy w' r) (hP:∀ b,P b→b<w.heap.size∧some b≠r):KP P w w':=⟨h.os,h.tape,h.output,h.size,fun b hb=>h.block b (hP b hb).1 (hP b hb).2⟩
theorem KP.of_below {P:Nat→Prop} {w w':World} {n:Nat} (h:Below n w w') (hP:∀ b,P b→b<n):KP P w w':=⟨h.os,h.tape,h.output,h.size,fun b hb=>h.block b (hP b hb)⟩
theorem KP.drew {P:Nat→Prop} {w w':World} (h:KP P w w'):KP P w w'.drew:=⟨h.os,h.tape,h.output,h.size,h.block⟩
theorem KP.cell {P:Nat→Prop} {w w':World} (h:KP P w w') {b:Nat} (hb:P b) (x:Nat):w'.cell? ⟨b,x,none⟩=w.cell? ⟨b,x,none⟩:=by
 unfold World.cell?;rw [show w'.heap[b]?=_ from h.block b hb]
def SM (P:Nat→Prop) (w:World) (p:Option Addr) (l:List (List UInt8)):Prop:=l=[]∨∃ b o,p=some ⟨b,o,none⟩∧P b∧∀ i s,l[i]?=some s→s.length≤281474976710656∧w.cell? ⟨b,o+i,none⟩=some (.string (S s))
theorem SM.keep {P:Nat→Prop} {w w':World} {p:Option Addr} {l:List (List UInt8)} (h:SM P w p l) (k:KP P w w'):SM P w' p l:=by
 rcases h with h | ⟨b,o,hp,hb,hm⟩
 ·exact .inl h
 ·exact .inr ⟨b,o,hp,hb,fun i s hs=>⟨(hm i s hs).1,(k.cell hb _).trans (hm i s hs).2⟩⟩
theorem SM.mono {P Q:Nat→Prop} {w:World} {p:Option Addr} {l:List (List UInt8)} (h:SM P w p l) (k:∀ b,P b→Q b):SM Q w p l:=by
 rcases h with h | ⟨b,o,hp,hb,hm⟩
 ·exact .inl h
 ·exact .inr ⟨b,o,hp,k b hb,hm⟩
def SlOK (p:Option Addr) (n c:Nat):Prop:=n≤c∧c≤9223372036854775807∧(p=none→c=0)
def trF (P:Nat→Prop) (w:World) (t:Tr) (l:List (Tr × (List Value→Prop))) (cs:List Value):Prop:=∃ pn cn pk ck,
 cs=[.int .i64 t.kd,.string (S t.nm),.int .i64 t.nu,.slice pn t.ns.length cn,.slice pk t.ks.length ck]∧t.nm.length≤281474976710656∧(-9223372036854775808≤t.nu∧t.nu≤9223372036854775807)∧SlOK pn t.ns.length cn∧SlOK pk t.ks.length ck∧SM P w pn t.ns ∧
 (t.ks=[]∨∃ b o,pk=some ⟨b,o,none⟩∧P b∧∀ i k,l[i]?=some k→∃ ds:List Value,ds.length=5∧(∀ j d,ds[j]?=some d→w.cell? ⟨b,o+i * 5+j,none⟩=some d)∧k.2 ds)
def TrIn (P:Nat→Prop) (w:World) (t:Tr):List Value→Prop:=t.fold (trF P w)
def EM (P:Nat→Prop) (w:World) (p:Option Addr) (l:List Tr):Prop:=l=[]∨∃ b o,p=some ⟨b,o,none⟩∧P b∧∀ i t,l[i]?=some t→∃ ds:List Value,ds.length=5∧(∀ j d,ds[j]?=some d→w.cell? ⟨b,o+i * 5+j,none⟩=some d)∧TrIn P w t ds
theorem TrIn_iff (P:Nat→Prop) (w:World) (t:Tr) (cs:List Value):TrIn P w t cs ↔ ∃ pn cn pk ck,
 cs=[.int .i64 t.kd,.string (S t.nm),.int .i64 t.nu,.slice pn t.ns.length cn,.slice pk t.ks.length ck]∧t.nm.length≤281474976710656∧(-9223372036854775808≤t.nu∧t.nu≤9223372036854775807)∧SlOK pn t.ns.length cn∧SlOK pk t.ks.length ck∧SM P w pn t.ns∧EM P w pk t.ks:=by
 unfold TrIn
 rw [Tr.fold_eq]
 constructor
 ·rintro ⟨pn,cn,pk,ck,h1,h2,h3,h4,h5,h6,h7⟩
  refine ⟨pn,cn,pk,ck,h1,h2,h3,h4,h5,h6,?_⟩
  rcases h7 with h7 | ⟨b,o,hp,hb,hm⟩
  ·exact .inl h7
  ·refine .inr ⟨b,o,hp,hb,fun i k hk=>?_⟩
   obtain ⟨ds,e1,e2,e3⟩:=hm i (k,k.fold (trF P w)) (by rw [List.getElem?_map,hk];rfl)
   exact ⟨ds,e1,e2,e3⟩
 ·rintro ⟨pn,cn,pk,ck,h1,h2,h3,h4,h5,h6,h7⟩
  refine ⟨pn,cn,pk,ck,h1,h2,h3,h4,h5,h6,?_⟩
  rcases h7 with h7 | ⟨b,o,hp,hb,hm⟩
  ·exact .inl h7
  ·refine .inr ⟨b,o,hp,hb,fun i k hk=>?_⟩
   rw [List.getElem?_map,Option.map_eq_some_iff] at hk
   obtain ⟨t',ht,rfl⟩:=hk
   exact hm i t' ht
theorem TrIn.keep {P Q:Nat→Prop} {w w':World} (k:KP P w w') (hq:∀ b,P b→Q b) (t:Tr):∀ cs,TrIn P w t cs→TrIn Q w' t cs:=by
 induction t using Tr.ind with
 | _ t ih=>
  intro cs h
  rw [TrIn_iff] at h ⊢
  obtain ⟨pn,cn,pk,ck,h1,h2,h3,h4,h5,h6,h7⟩:=h
  refine ⟨pn,cn,pk,ck,h1,h2,h3,h4,h5,(h6.keep k).mono hq,?_⟩
  rcases h7 with h7 | ⟨b,o,hp,hb,hm⟩
  ·exact .inl h7
  ·refine .inr ⟨b,o,hp,hq b hb,fun i t' ht=>?_⟩
   obtain ⟨ds,e1,e2,e3⟩:=hm i t' ht
   exact ⟨ds,e1,fun j d hd=>(k.cell hb _).trans (e2 j d hd),ih t' (List.mem_of_getElem? ht) ds e3⟩
theorem EM.keep {P Q:Nat→Prop} {w w':World} (k:KP P w w') (hq:∀ b,P b→Q b) {p:Option Addr} {l:List Tr} (h:EM P w p l):EM Q w' p l:=by
 rcases h with h7 | ⟨b,o,hp,hb,hm⟩
 ·exact .inl h7
 ·refine .inr ⟨b,o,hp,hq b hb,fun i t' ht=>?_⟩
  obtain ⟨ds,e1,e2,e3⟩:=hm i t' ht
  exact ⟨ds,e1,fun j d hd=>(k.cell hb _).trans (e2 j d hd),TrIn.keep k hq t' ds e3⟩
def sgIF (P:Nat→Prop) (w:World) (t:Sg) (l:List (Sg × (List Value→Prop))) (cs:List Value):Prop:=∃ pk ck,
 cs=[.string (S t.nm),.slice pk t.ar.length ck]∧t.nm.length≤281474976710656∧SlOK pk t.ar.length ck ∧
 (t.ar=[]∨∃ b o,pk=some ⟨b,o,none⟩∧P b∧∀ i k,l[i]?=some k→∃ ds:List Value,ds.length=2∧(∀ j d,ds[j]?=some d→w.cell? ⟨b,o+i * 2+j,none⟩=some d)∧k.2 ds)
def SgIn (P:Nat→Prop) (w:World) (t:Sg):List Value→Prop:=t.fold (sgIF P w)
def GM (P:Nat→Prop) (w:World) (p:Option Addr) (l:List Sg):Prop:=l=[]∨∃ b o,p=some ⟨b,o,none⟩∧P b∧∀ i t,l[i]?=some t→∃ ds:List Value,ds.length=2∧(∀ j d,ds[j]?=some d→w.cell? ⟨b,o+i * 2+j,none⟩=some d)∧SgIn P w t ds
theorem SgIn_iff (P:Nat→Prop) (w:World) (t:Sg) (cs:List Value):SgIn P w t cs ↔ ∃ pk ck,cs=[.string (S t.nm),.slice pk t.ar.length ck]∧t.nm.length≤281474976710656∧SlOK pk t.ar.length ck∧GM P w pk t.ar:=by
 unfold SgIn
 rw [Sg.fold_eq]
 constructor
 ·rintro ⟨pk,ck,h1,h2,h5,h7⟩
  refine ⟨pk,ck,h1,h2,h5,?_⟩
  rcases h7 with h7 | ⟨b,o,hp,hb,hm⟩
  ·exact .inl h7
  ·refine .inr ⟨b,o,hp,hb,fun i k hk=>?_⟩
   obtain ⟨ds,e1,e2,e3⟩:=hm i (k,k.fold (sgIF P w)) (by rw [List.getElem?_map,hk];rfl)
   exact ⟨ds,e1,e2,e3⟩
 ·rintro ⟨pk,ck,h1,h2,h5,h7⟩
  refine ⟨pk,ck,h1,h2,h5,?_⟩
  rcases h7 with h7 | ⟨b,o,hp,hb,hm⟩
  ·exact .inl h7
  ·refine .inr ⟨b,o,hp,hb,fun i k hk=>?_⟩
   rw [List.getElem?_map,Option.map_eq_some_iff] at hk
   obtain ⟨t',ht,rfl⟩:=hk
   exact hm i t' ht
theorem SgIn.keep {P Q:Nat→Prop} {w w':World} (k:KP P w w') (hq:∀ b,P b→Q b) (t:Sg):∀ cs,SgIn P w t cs→SgIn Q w' t cs:=by
 induction t using Sg.ind with
 | _ t ih=>
  intro cs h
  rw [SgIn_iff] at h ⊢
  obtain ⟨pk,ck,h1,h2,h5,h7⟩:=h
  refine ⟨pk,ck,h1,h2,h5,?_⟩
  rcases h7 with h7 | ⟨b,o,hp,hb,hm⟩
  ·exact .inl h7
  ·refine .inr ⟨b,o,hp,hq b hb,fun i t' ht=>?_⟩
   obtain ⟨ds,e1,e2,e3⟩:=hm i t' ht
   exact ⟨ds,e1,fun j d hd=>(k.cell hb _).trans (e2 j d hd),ih t' (List.mem_of_getElem? ht) ds e3⟩
theorem GM.keep {P Q:Nat→Prop} {w w':World} (k:KP P w w') (hq:∀ b,P b→Q b) {p:Option Addr} {l:List Sg} (h:GM P w p l):GM Q w' p l:=by
 rcases h with h7 | ⟨b,o,hp,hb,hm⟩
 ·exact .inl h7
 ·refine .inr ⟨b,o,hp,hq b hb,fun i t' ht=>?_⟩
  obtain ⟨ds,e1,e2,e3⟩:=hm i t' ht
  exact ⟨ds,e1,fun j d hd=>(k.cell hb _).trans (e2 j d hd),SgIn.keep k hq t' ds e3⟩
def RM {α:Type} (n:Nat) (P:Nat→Prop) (w:World) (R:α→List Value→Prop) (p:Option Addr) (l:List α):Prop:=l=[]∨∃ b o,p=some ⟨b,o,none⟩∧P b∧∀ i t,l[i]?=some t→∃ ds:List Value,ds.length=n∧(∀ j d,ds[j]?=some d→w.cell? ⟨b,o+i * n+j,none⟩=some d)∧R t ds
theorem RM.keep {α:Type} {n:Nat} {P Q:Nat→Prop} {w w':World} {R R':α→List Value→Prop} (k:KP P w w') (hq:∀ b,P b→Q b) (hR:∀ t ds,R t ds→R' t ds) {p:Option Addr} {l:List α} (h:RM n P w R p l):RM n Q w' R' p l:=by
 rcases h with h7 | ⟨b,o,hp,hb,hm⟩
 ·exact .inl h7
 ·refine .inr ⟨b,o,hp,hq b hb,fun i t' ht=>?_⟩
  obtain ⟨ds,e1,e2,e3⟩:=hm i t' ht
  exact ⟨ds,e1,fun j d hd=>(k.cell hb _).trans (e2 j d hd),hR t' ds e3⟩
def FmIn (P:Nat→Prop) (w:World) (f:Fm) (cs:List Value):Prop:=∃ pk ck,cs=[.string (S f.nm),.slice pk f.ar.length ck]∧f.nm.length≤281474976710656∧SlOK pk f.ar.length ck∧GM P w pk f.ar
def DtIn (P:Nat→Prop) (w:World) (d:Dt) (cs:List Value):Prop:=∃ pp cp pf cf,cs=[.string (S d.nm),.slice pp d.ps.length cp,.slice pf d.fs.length cf]∧d.nm.length≤281474976710656∧SlOK pp d.ps.length cp∧SlOK pf d.fs.length cf∧SM P w pp d.ps∧RM 2 P w (FmIn P w) pf d.fs
def DfIn (P:Nat→Prop) (w:World) (d:Df) (cs:List Value):Prop:=∃ ds,cs=.string (S d.nm) :: ds∧d.nm.length≤281474976710656∧TrIn P w d.bd ds
def PgIn (P:Nat→Prop) (w:World) (p:Pg) (cs:List Value):Prop:=∃ pd cd pf cf,cs=[.slice pd p.ds.length cd,.slice pf p.fs.length cf]∧SlOK pd p.ds.length cd∧SlOK pf p.fs.length cf∧RM 3 P w (DtIn P w) pd p.ds∧RM 6 P w (DfIn P w) pf p.fs
theorem FmIn.keep {P Q:Nat→Prop} {w w':World} (k:KP P w w') (hq:∀ b,P b→Q b) (f:Fm) (cs:List Value) (h:FmIn P w f cs):FmIn Q w' f cs:=by
 obtain ⟨pk,ck,h1,h2,h3,h4⟩:=h
 exact ⟨pk,ck,h1,h2,h3,h4.keep k hq⟩
theorem DtIn.keep {P Q:Nat→Prop} {w w':World} (k:KP P w w') (hq:∀ b,P b→Q b) (f:Dt) (cs:List Value) (h:DtIn P w f cs):DtIn Q w' f cs:=by
 obtain ⟨pp,cp,pf,cf,h1,h2,h3,h4,h5,h6⟩:=h
 exact ⟨pp,cp,pf,cf,h1,h2,h3,h4,(h5.keep k).mono hq,h6.keep k hq (FmIn.keep k hq)⟩
theorem DfIn.keep {P Q:Nat→Prop} {w w':World} (k:KP P w w') (hq:∀ b,P b→Q b) (f:Df) (cs:List Value) (h:DfIn P w f cs):DfIn Q w' f cs:=by
 obtain ⟨ds,h1,h2,h3⟩:=h
 exact ⟨ds,h1,h2,TrIn.keep k hq _ _ h3⟩
theorem PgIn.keep {P Q:Nat→Prop} {w w':World} (k:KP P w w') (hq:∀ b,P b→Q b) (f:Pg) (cs:List Value) (h:PgIn P w f cs):PgIn Q w' f cs:=by
 obtain ⟨pp,cp,pf,cf,h1,h2,h3,h4,h5⟩:=h
 exact ⟨pp,cp,pf,cf,h1,h2,h3,h4.keep k hq (DtIn.keep k hq),h5.keep k hq (DfIn.keep k hq)⟩
def P0V (P:Nat→Prop) (w:World) (p:P0) (v:Value):Prop:=match p with
 | .inl s=>v=.iface 9 (.string (S s))∧s.length≤281474976710656
 | .inr (.inl s)=>v=.iface 212 (.string (S s))∧s.length≤281474976710656
 | .inr (.inr (.inl s))=>v=.iface 213 (.string (S s))∧s.length≤281474976710656
 | .inr (.inr (.inr (.inl l)))=>∃ p c,v=.iface 24 (.slice p l.length c)∧l.length≤1000000∧SlOK p l.length c∧SM P w p l
 | .inr (.inr (.inr (.inr (.inl e))))=>∃ cs,v=.iface 219 (.agg cs.toArray)∧TrIn P w e cs∧shp e=true
 | .inr (.inr (.inr (.inr (.inr (.inl e)))))=>∃ cs,v=.iface 27 (.agg cs.toArray)∧TrIn P w e cs∧shp e=true
 | .inr (.inr (.inr (.inr (.inr (.inr (.inl l))))))=>∃ p c,v=.iface 60 (.slice p l.length c)∧SlOK p l.length c∧GM P w p l
 | .inr (.inr (.inr (.inr (.inr (.inr (.inr (.inl s)))))))=>∃ cs,v=.iface 175 (.agg cs.toArray)∧SgIn P w s cs
 | .inr (.inr (.inr (.inr (.inr (.inr (.inr (.inr (.inl f))))))))=>∃ cs,v=.iface 121 (.agg cs.toArray)∧FmIn P w f cs
 | .inr (.inr (.inr (.inr (.inr (.inr (.inr (.inr (.inr (.inl d)))))))))=>∃ cs,v=.iface 77 (.agg cs.toArray)∧DtIn P w d cs∧dtB d
 | .inr (.inr (.inr (.inr (.inr (.inr (.inr (.inr (.inr (.inr (.inl d))))))))))=>∃ cs,v=.iface 79 (.agg cs.toArray)∧DfIn P w d cs∧shp d.bd=true
 | .inr (.inr (.inr (.inr (.inr (.inr (.inr (.inr (.inr (.inr (.inr p))))))))))=>∃ cs,v=.iface 38 (.agg cs.toArray)∧PgIn P w p cs∧p.ds.length≤1000000∧p.fs.length≤1000000∧(∀ d ∈ p.ds,dtB d)∧(∀ d ∈ p.fs,shp d.bd=true)
def AM {α:Type} (R:α→Value→Prop) (P:Nat→Prop) (w:World) (p:Option Addr) (l:List α):Prop:=l=[]∨∃ b o,p=some ⟨b,o,none⟩∧P b∧∀ i t,l[i]?=some t→∃ v,w.cell? ⟨b,o+i,none⟩=some v∧R t v
def PV (P:Nat→Prop) (w:World) (p:Pt) (v:Value):Prop:=match p with
 | .inl p=>P0V P w p v
 | .inr (s,l)=>∃ p c,v=.iface 216 (.agg #[.string (S s),.slice p l.length c])∧s.length≤281474976710656∧l.length≤2000000∧SlOK p l.length c∧AM (P0V P w) P w p l
theorem P0V.keep {P Q:Nat→Prop} {w w':World} (k:KP P w w') (hq:∀ b,P b→Q b) (p:P0) (v:Value) (h:P0V P w p v):P0V Q w' p v:=by
 rcases p with s | s | s | l | e | e | l | s | f | d | d | p
 ·exact h
 ·exact h
 ·exact h
 ·obtain ⟨p,c,h1,h0,h2,h3⟩:=h;exact ⟨p,c,h1,h0,h2,(h3.keep k).mono hq⟩
 ·obtain ⟨cs,h1,h2,h3⟩:=h;exact ⟨cs,h1,TrIn.keep k hq _ _ h2,h3⟩
 ·obtain ⟨cs,h1,h2,h3⟩:=h;exact ⟨cs,h1,TrIn.keep k hq _ _ h2,h3⟩
 ·obtain ⟨p,c,h1,h2,h3⟩:=h;exact ⟨p,c,h1,h2,h3.keep k hq⟩
 ·obtain ⟨cs,h1,h2⟩:=h;exact ⟨cs,h1,SgIn.keep k hq _ _ h2⟩
 ·obtain ⟨cs,h1,h2⟩:=h;exact ⟨cs,h1,FmIn.keep k hq _ _ h2⟩
 ·obtain ⟨cs,h1,h2,h3⟩:=h;exact ⟨cs,h1,DtIn.keep k hq _ _ h2,h3⟩
 ·obtain ⟨cs,h1,h2,h3⟩:=h;exact ⟨cs,h1,DfIn.keep k hq _ _ h2,h3⟩
 ·obtain ⟨cs,h1,h2,h3⟩:=h;exact ⟨cs,h1,PgIn.keep k hq _ _ h2,h3⟩
theorem AM.keep {α:Type} {R R':α→Value→Prop} {P Q:Nat→Prop} {w w':World} (k:KP P w w') (hq:∀ b,P b→Q b) (hR:∀ t v,R t v→R' t v) {p:Option Addr} {l:List α} (h:AM R P w p l):AM R' Q w' p l:=by
 rcases h with h7 | ⟨b,o,hp,hb,hm⟩
 ·exact .inl h7
 ·refine .inr ⟨b,o,hp,hq b hb,fun i t' ht=>?_⟩
  obtain ⟨v,e2,e3⟩:=hm i t' ht
  exact ⟨v,(k.cell hb _).trans e2,hR t' v e3⟩
theorem PV.keep {P Q:Nat→Prop} {w w':World} (k:KP P w w') (hq:∀ b,P b→Q b) (p:Pt) (v:Value) (h:PV P w p v):PV Q w' p v:=by
 rcases p with p | ⟨s,l⟩
 ·exact P0V.keep k hq p v h
 ·obtain ⟨p,c,h1,h2,h0,h3,h4⟩:=h
  exact ⟨p,c,h1,h2,h0,h3,h4.keep k hq (P0V.keep k hq)⟩
section
variable {P:Program} {ops:Array Oper} {Q:Exit→Act→World→Prop} {md:Region.Mode} {S:World→Prop} {N:Nat}
def wpAnyJ (P:Program) (md:Region.Mode) (ops:Array Oper) (Q:Exit→Act→World→Prop) (S:World→Prop) (N:Nat):Nat→Array Bool→Act→World→Prop
 | 0,ls,a,w=>Region.ready md ops ls=[]∧Q .normal a w
 | n+1,ls,a,w=>(Region.ready md ops ls=[]→Q .normal a w)∧∀ i ∈ Region.ready md ops ls,wpOp P ops Q i (fun a' w'=>(i<N→S w')∧wpAnyJ P md ops Q S N n (ls.setIfInBounds i true) a' w') a w
theorem any_of_J (n:Nat):∀ (ls:Array Bool) (a:Act) (w:World),wpAnyJ P md ops Q S N n ls a w→wpAny P md ops Q n ls a w:=by
 induction n with
 | zero=>intro ls a w h;exact h
 | succ n ih=>intro ls a w h;exact ⟨h.1,fun i hi=>wpOp_mono (fun a' w' h'=>ih _ a' w' h'.2) (h.2 i hi)⟩
theorem region_J (n:Nat) {id:Nat} {a:Act} {w:World} (hm:P.follows .mixedOrders=true) (hn:ops.size=n) (h:wpAnyJ P .any ops Q S N n (Array.replicate n false) a w.drew):(Code.region id ops true).wp P Q a w:=by
 subst hn
 exact wp_region_any hm (any_of_J _ _ _ _ h)
theorem first_J {i:Nat} {oi:Oper} {v:Value} (hi:ops[i]?=some oi) (hsel:∀ (j:Nat) (o:Oper) cs b,ops[j]?=some o→o.op≠.select cs b) (hQ:∀ c a w,Q (.panic c) (a.put oi.dst v) w→Q (.panic c) a w)
 (hN:∀ k o,ops[k]?=some o→N≤k→∃ e ∈ o.after,Region.binds md e=true∧e.on=i) (n:Nat):∀ (ls:Array Bool) (a:Act) (w:World),
  (∀ j oj,ops[j]?=some oj→j≠i→ls.getD j true=false→(∀ e ∈ oj.after,Region.binds md e=true→e.on≠i)→oi.apart ops oj=true) →
  i ∈ Region.ready md ops ls→YieldsIf P ops S oi v a→S w→wpAnyJ P md ops Q S N n (ls.setIfInBounds i true) (a.put oi.dst v) w→wpAnyJ P md ops Q S N (n+1) ls a w:=by
 induction n with
 | zero=>
  intro ls a w _ hr hy hS H
  refine ⟨fun h=>(by rw [h] at hr;cases hr),fun j hj=>?_⟩
  by_cases hji:j=i
  ·subst hji;exact hy.wpOp hi hS ⟨fun _=>hS,H⟩
  ·have k:=ready_mono hj hji
   rw [H.1] at k;cases k
 | succ n ih=>
  intro ls a w hfree hr hy hS H
  refine ⟨fun h=>(by rw [h] at hr;cases hr),fun j hj=>?_⟩
  by_cases hji:j=i
  ·subst hji;exact hy.wpOp hi hS ⟨fun _=>hS,H⟩
  ·obtain ⟨hun,oj,hoj,hall⟩:=mem_ready.1 hj
   have h0:=(mem_ready.1 hr).1
   have hnot:∀ e ∈ oj.after,Region.binds md e=true→e.on≠i:=by
    intro e he hb heq
    have h1:=hall e he hb
    rw [heq] at h1
    by_cases hlt:i<ls.size
    ·simp [hlt] at h0 h1;rw [h0] at h1;cases h1
    ·simp [Array.getElem?_eq_none (Nat.le_of_not_lt hlt)] at h1
   have hjN:j<N:=by
    rcases Nat.lt_or_ge j N with h | h
    ·exact h
    ·obtain ⟨e,he,hb,heq⟩:=hN j oj hoj h
     exact absurd heq (hnot e he hb)
   have h2:=wpOp_putIf hoj (hfree j oj hoj hji hun hnot) (fun cs b=>hsel i oi cs b hi) (fun cs b=>hsel j oj cs b hoj) hQ hy (H.2 j (ready_mono hj hji))
   have hfree':∀ k ok,ops[k]?=some ok→k≠i→(ls.setIfInBounds j true).getD k true=false→(∀ e ∈ ok.after,Region.binds md e=true→e.on≠i)→oi.apart ops ok=true:=by
    intro k ok hk hki hu hno
    refine hfree k ok hk hki ?_ hno
    by_cases hjk:j=k
    ·subst hjk;exact hun
    ·rw [getD_set_ne true hjk] at hu;exact hu
   refine wpOp_mono (fun a' w' h3=>⟨fun _=>h3.2.1 hjN,ih _ a' w' hfree' (ready_mono hr (Ne.symm hji)) h3.1 (h3.2.1 hjN) ?_⟩) h2
   rw [Array.setIfInBounds_comm _ _ hji]
   exact h3.2.2
def lastWait (md:Region.Mode) (ops:Array Oper) (N i:Nat):Bool:=(ops.toList.drop N).all fun o=>o.after.toList.any fun e=>Region.binds md e && e.on == i
theorem take_J {i:Nat} {oi:Oper} (v:Value) {n:Nat} {ls:Array Bool} {a:Act} {w:World} (hi:ops[i]?=some oi) (hs:Region.noSelect ops=true) (hf:Region.free md ops ls i=true) (hr:(Region.ready md ops ls).contains i=true) (hN:lastWait md ops N i=true)
 (hQ:∀ c a w,Q (.panic c) (a.put oi.dst v) w→Q (.panic c) a w) (hy:YieldsIf P ops S oi v a) (hS:S w) (h:wpAnyJ P md ops Q S N n (ls.setIfInBounds i true) (a.put oi.dst v) w):wpAnyJ P md ops Q S N (n+1) ls a w:=by
 refine first_J hi (Region.noSelect_spec hs) hQ ?_ n ls a w (Region.free_spec hi hf) (by simpa using hr) hy hS h
 intro k o hk hNk
 have hm:o ∈ ops.toList.drop N:=by
  rw [List.mem_iff_getElem?]
  refine ⟨k - N,?_⟩
  rw [List.getElem?_drop,show N+(k - N)=k by omega]
  simpa using hk
 have h1:=List.all_eq_true.1 hN o hm
 obtain ⟨e,he,h2⟩:=List.any_eq_true.1 h1
 simp at h2
 exact ⟨e,by simpa using he,h2.1,h2.2⟩
theorem take_D {i:Nat} {oi:Oper} (d:Tmp) (v:Value) {n:Nat} {ls:Array Bool} {a:Act} {w:World} (hi:ops[i]?=some oi) (hd:oi.dst=some d) (hs:Region.noSelect ops=true) (hf:Region.free md ops ls i=true) (hr:(Region.ready md ops ls).contains i=true) (hN:lastWait md ops N i=true)
 (hQ:∀ c a w,Q (.panic c) (a.put (some d) v) w→Q (.panic c) a w) (hy:YieldsIf P ops S oi v a) (hS:S w) (h:wpAnyJ P md ops Q S N n (ls.setIfInBounds i true) (a.put (some d) v) w):wpAnyJ P md ops Q S N (n+1) ls a w:=
 take_J v hi hs hf hr hN (by rw [hd];exact hQ) hy hS (by rw [hd];exact h)
theorem ready_J {rs:List Nat} {n:Nat} {ls:Array Bool} {a:Act} {w:World} (hr:Region.ready md ops ls=rs) (hne:rs≠[]) (h:∀ i ∈ rs,wpOp P ops Q i (fun a' w'=>(i<N→S w')∧wpAnyJ P md ops Q S N n (ls.setIfInBounds i true) a' w') a w):wpAnyJ P md ops Q S N (n+1) ls a w:=
 ⟨fun h0=>absurd (hr ▸ h0) hne,hr ▸ h⟩
theorem done_J {ls:Array Bool} {a:Act} {w:World} (hr:Region.ready md ops ls=[]) (h:Q .normal a w) (n:Nat):wpAnyJ P md ops Q S N n ls a w:=by
 cases n with
 | zero=>exact ⟨hr,h⟩
 | succ n=>exact ⟨fun _=>h,by rw [hr];simp⟩
theorem take_E (i:Nat) {oi:Oper} (d:Tmp) (v:Value) {n:Nat} {ls:Array Bool} {a:Act} {w:World} (hi:ops[i]?=some oi) (hy:YieldsIf P ops S oi v a) (hS:S w) (h:wpAnyJ P md ops Q S N n (ls.setIfInBounds i true) (a.put (some d) v) w) (hd:oi.dst=some d:=by rfl) (hs:Region.noSelect ops=true:=by kernel_rfl) (hf:Region.free md ops ls i=true:=by kernel_rfl) (hr:(Region.ready md ops ls).contains i=true:=by kernel_rfl) (hN:lastWait md ops N i=true:=by kernel_rfl) (hQ:∀ c a w,Q (.panic c) (a.put (some d) v) w→Q (.panic c) a w:=by exact fun _ _ _ h=>h):wpAnyJ P md ops Q S N (n+1) ls a w:=
 take_D d v hi hd hs hf hr hN hQ hy hS h
theorem ready_E (rs:List Nat) {n:Nat} {ls:Array Bool} {a:Act} {w:World} (h:∀ i ∈ rs,wpOp P ops Q i (fun a' w'=>(i<N→S w')∧wpAnyJ P md ops Q S N n (ls.setIfInBounds i true) a' w') a w) (hr:Region.ready md ops ls=rs:=by kernel_rfl) (hne:rs≠[]:=by simp):wpAnyJ P md ops Q S N (n+1) ls a w:=
 ready_J hr hne h
theorem mkf (fn:Fn) (first cap:Array Value) (w:World):(Instr.makeFunc fn first cap).run Tryz.prog w=.ok (.func fn first cap) w:=rfl
theorem op_J {i:Nat} {o:Oper} {R:Act→World→Prop} {a:Act} {w:World} (hi:ops[i]?=some o) (hg:o.guard=none) (h:∀ K,(∀ a' w',R a' w'→K a' w')→Oper.wp P o a w K Q):wpOp P ops Q i R a w:=by
 have hw:Region.wanted o (yielded ops a.tmps)=true:=by simp [Region.wanted,hg]
 unfold wpOp
 simp only [hi,hw,if_true]
 exact .inl (h R fun _ _ h=>h)
end
theorem two_arms {F T:Nat→World→Prop} {A:Prop} (arms:(∀ b W,F b W→T b W)→A) (tail:∀ b W,F b W→T b W):A:=arms tail
theorem J_ls {P:Program} {ops:Array Oper} {Q:Exit→Act→World→Prop} {md:Region.Mode} {S:World→Prop} {N n:Nat} {ls ls':Array Bool} {a:Act} {w:World} (e:ls'=ls) (h:wpAnyJ P md ops Q S N n ls' a w):wpAnyJ P md ops Q S N n ls a w:=e ▸ h
end Go.Proofs.YtcnnlecjdkfdjaaGreatDoor
