/- Parts of the proof. -/
import Derived.Test.YtcnnlecjdkfdjaaGreatDoorBase
import Derived.Deep.RegionHeld3
import Derived.Deep.LoopGhost
import Derived.Test.YtcnnlecjdkfdjaaGreatDoorAl
set_option linter.unusedVariables false
set_option linter.unusedSimpArgs false
set_option maxRecDepth 100000
set_option maxHeartbeats 8000000
namespace Go.Proofs.YtcnnlecjdkfdjaaGreatDoor
open Go.RowKit
section
variable {P:Program} {ops:Array Oper} {Q:Exit→Act→World→Prop} {md:Region.Mode} {S:World→Prop} {N:Nat}
def wpAnyJ (P:Program) (md:Region.Mode) (ops:Array Oper) (Q:Exit→Act→World→Prop) (S:World→Prop) (N:Nat):Nat→Array Bool→Act→World→Prop
 | 0,ls,a,w=>Region.ready md ops ls=[]∧Q .normal a w
 | n+1,ls,a,w=>(Region.ready md ops ls=[]→Q .normal a w)∧∀ i ∈ Region.ready md ops ls,wpOp P ops Q i (fun a' w'=>(i<N→S w')∧wpAnyJ P md ops Q S N n (ls.setIfInBounds i true) a' w') a w
theorem any_of_J (n:Nat):∀ (ls:Array Bool) (a:Act) (w:World),wpAnyJ P md ops Q S N n ls a w→wpAny P md ops Q n ls a w:=by
 induction n with
 | zero=>intro ls a w h;exact h
 | succ n ih=>intro ls a w h;exact ⟨h.1,fun i hi=>wpOp_mono (fun a' w' h'=>ih _ a' w' h'.2) (h.2 i hi)⟩
theorem region_J (n:Nat) {id:Nat} {a:Act} {w:World} (hm:P.follows .mixedOrders=true) (hn:ops.size=n) (h:wpAnyJ P .any ops Q S N n (Array.replicate n false) a w.drew):(Code.region id ops true).wp P Q a w:=by
 subst hn
 exact wp_region_any hm (any_of_J _ _ _ _ h)
theorem first_J {i:Nat} {oi:Oper} {v:Value} (hi:ops[i]?=some oi) (hsel:∀ (j:Nat) (o:Oper) cs b,ops[j]?=some o→o.op≠.select cs b) (hQ:∀ c a w,Q (.panic c) (a.put oi.dst v) w→Q (.panic c) a w)
 (hN:∀ k o,ops[k]?=some o→N≤k→∃ e ∈ o.after,Region.binds md e=true∧e.on=i) (n:Nat):∀ (ls:Array Bool) (a:Act) (w:World),
  (∀ j oj,ops[j]?=some oj→j≠i→ls.getD j true=false→(∀ e ∈ oj.after,Region.binds md e=true→e.on≠i)→oi.apart ops oj=true) →
  i ∈ Region.ready md ops ls→YieldsIf P ops S oi v a→S w→wpAnyJ P md ops Q S N n (ls.setIfInBounds i true) (a.put oi.dst v) w→wpAnyJ P md ops Q S N (n+1) ls a w:=by
 induction n with
 | zero=>
  intro ls a w _ hr hy hS H
  refine ⟨fun h=>(by rw [h] at hr;cases hr),fun j hj=>?_⟩
  by_cases hji:j=i
  ·subst hji;exact hy.wpOp hi hS ⟨fun _=>hS,H⟩
  ·have k:=ready_mono hj hji
   rw [H.1] at k;cases k
 | succ n ih=>
  intro ls a w hfree hr hy hS H
  refine ⟨fun h=>(by rw [h] at hr;cases hr),fun j hj=>?_⟩
  by_cases hji:j=i
  ·subst hji;exact hy.wpOp hi hS ⟨fun _=>hS,H⟩
  ·obtain ⟨hun,oj,hoj,hall⟩:=mem_ready.1 hj
   have h0:=(mem_ready.1 hr).1
   have hnot:∀ e ∈ oj.after,Region.binds md e=true→e.on≠i:=by
    intro e he hb heq
    have h1:=hall e he hb
    rw [heq] at h1
    by_cases hlt:i<ls.size
    ·simp [hlt] at h0 h1;rw [h0] at h1;cases h1
    ·simp [Array.getElem?_eq_none (Nat.le_of_not_lt hlt)] at h1
   have hjN:j<N:=by
    rcases Nat.lt_or_ge j N with h | h
    ·exact h
    ·obtain ⟨e,he,hb,heq⟩:=hN j oj hoj h
     exact absurd heq (hnot e he hb)
   have h2:=wpOp_putIf hoj (hfree j oj hoj hji hun hnot) (fun cs b=>hsel i oi cs b hi) (fun cs b=>hsel j oj cs b hoj) hQ hy (H.2 j (ready_mono hj hji))
   have hfree':∀ k ok,ops[k]?=some ok→k≠i→(ls.setIfInBounds j true).getD k true=false→(∀ e ∈ ok.after,Region.binds md e=true→e.on≠i)→oi.apart ops ok=true:=by
    intro k ok hk hki hu hno
    refine hfree k ok hk hki ?_ hno
    by_cases hjk:j=k
    ·subst hjk;exact hun
    ·rw [getD_set_ne true hjk] at hu;exact hu
   refine wpOp_mono (fun a' w' h3=>⟨fun _=>h3.2.1 hjN,ih _ a' w' hfree' (ready_mono hr (Ne.symm hji)) h3.1 (h3.2.1 hjN) ?_⟩) h2
   rw [Array.setIfInBounds_comm _ _ hji]
   exact h3.2.2
def lastWait (md:Region.Mode) (ops:Array Oper) (N i:Nat):Bool:=(ops.toList.drop N).all fun o=>o.after.toList.any fun e=>Region.binds md e && e.on == i
theorem take_J {i:Nat} {oi:Oper} (v:Value) {n:Nat} {ls:Array Bool} {a:Act} {w:World} (hi:ops[i]?=some oi) (hs:Region.noSelect ops=true) (hf:Region.free md ops ls i=true) (hr:(Region.ready md ops ls).contains i=true) (hN:lastWait md ops N i=true)
 (hQ:∀ c a w,Q (.panic c) (a.put oi.dst v) w→Q (.panic c) a w) (hy:YieldsIf P ops S oi v a) (hS:S w) (h:wpAnyJ P md ops Q S N n (ls.setIfInBounds i true) (a.put oi.dst v) w):wpAnyJ P md ops Q S N (n+1) ls a w:=by
 refine first_J hi (Region.noSelect_spec hs) hQ ?_ n ls a w (Region.free_spec hi hf) (by simpa using hr) hy hS h
 intro k o hk hNk
 have hm:o ∈ ops.toList.drop N:=by
  rw [List.mem_iff_getElem?]
  refine ⟨k - N,?_⟩
  rw [List.getElem?_drop,show N+(k - N)=k by omega]
  simpa using hk
 have h1:=List.all_eq_true.1 hN o hm
 obtain ⟨e,he,h2⟩:=List.any_eq_true.1 h1
 simp at h2
 exact ⟨e,by simpa using he,h2.1,h2.2⟩
theorem take_D {i:Nat} {oi:Oper} (d:Tmp) (v:Value) {n:Nat} {ls:Array Bool} {a:Act} {w:World} (hi:ops[i]?=some oi) (hd:oi.dst=some d) (hs:Region.noSelect ops=true) (hf:Region.free md ops ls i=true) (hr:(Region.ready md ops ls).contains i=true) (hN:lastWait md ops N i=true)
 (hQ:∀ c a w,Q (.panic c) (a.put (some d) v) w→Q (.panic c) a w) (hy:YieldsIf P ops S oi v a) (hS:S w) (h:wpAnyJ P md ops Q S N n (ls.setIfInBounds i true) (a.put (some d) v) w):wpAnyJ P md ops Q S N (n+1) ls a w:=
 take_J v hi hs hf hr hN (by rw [hd];exact hQ) hy hS (by rw [hd];exact h)
theorem ready_J {rs:List Nat} {n:Nat} {ls:Array Bool} {a:Act} {w:World} (hr:Region.ready md ops ls=rs) (hne:rs≠[]) (h:∀ i ∈ rs,wpOp P ops Q i (fun a' w'=>(i<N→S w')∧wpAnyJ P md ops Q S N n (ls.setIfInBounds i true) a' w') a w):wpAnyJ P md ops Q S N (n+1) ls a w:=
 ⟨fun h0=>absurd (hr ▸ h0) hne,hr ▸ h⟩
theorem done_J {ls:Array Bool} {a:Act} {w:World} (hr:Region.ready md ops ls=[]) (h:Q .normal a w) (n:Nat):wpAnyJ P md ops Q S N n ls a w:=by
 cases n with
 | zero=>exact ⟨hr,h⟩
 | succ n=>exact ⟨fun _=>h,by rw [hr];simp⟩
theorem op_J {i:Nat} {o:Oper} {R:Act→World→Prop} {a:Act} {w:World} (hi:ops[i]?=some o) (hg:o.guard=none) (h:∀ K,(∀ a' w',R a' w'→K a' w')→Oper.wp P o a w K Q):wpOp P ops Q i R a w:=by
 have hw:Region.wanted o (yielded ops a.tmps)=true:=by simp [Region.wanted,hg]
 unfold wpOp
 simp only [hi,hw,if_true]
 exact .inl (h R fun _ _ h=>h)
theorem take_E (i:Nat) {oi:Oper} (d:Tmp) (v:Value) {n:Nat} {ls:Array Bool} {a:Act} {w:World} (hi:ops[i]?=some oi) (hy:YieldsIf P ops S oi v a) (hS:S w) (h:wpAnyJ P md ops Q S N n (ls.setIfInBounds i true) (a.put (some d) v) w) (hd:oi.dst=some d:=by rfl) (hs:Region.noSelect ops=true:=by kernel_rfl) (hf:Region.free md ops ls i=true:=by kernel_rfl) (hr:(Region.ready md ops ls).contains i=true:=by kernel_rfl) (hN:lastWait md ops N i=true:=by kernel_rfl) (hQ:∀ c a w,Q (.panic c) (a.put (some d) v) w→Q (.panic c) a w:=by exact fun _ _ _ h=>h):wpAnyJ P md ops Q S N (n+1) ls a w:=
 take_D d v hi hd hs hf hr hN hQ hy hS h
theorem ready_E (rs:List Nat) {n:Nat} {ls:Array Bool} {a:Act} {w:World} (h:∀ i ∈ rs,wpOp P ops Q i (fun a' w'=>(i<N→S w')∧wpAnyJ P md ops Q S N n (ls.setIfInBounds i true) a' w') a w) (hr:Region.ready md ops ls=rs:=by kernel_rfl) (hne:rs≠[]:=by simp):wpAnyJ P md ops Q S N (n+1) ls a w:=
 ready_J hr hne h
theorem take_F (i:Nat) {oi:Oper} (d:Tmp) (v:Value) {n:Nat} {ls:Array Bool} {a:Act} {w:World} (hS:S w) (h:wpAnyJ P md ops Q S N n (ls.setIfInBounds i true) (a.put (some d) v) w) (hi:ops[i]?=some oi:=by rfl) (hy:YieldsIf P ops S oi v a:=by exact Or.inl ⟨by rfl,fun W' hW=>by go_simp⟩) (hd:oi.dst=some d:=by rfl) (hs:Region.noSelect ops=true:=by kernel_rfl) (hf:Region.free md ops ls i=true:=by kernel_rfl) (hr:(Region.ready md ops ls).contains i=true:=by kernel_rfl) (hN:lastWait md ops N i=true:=by kernel_rfl) (hQ:∀ c a w,Q (.panic c) (a.put (some d) v) w→Q (.panic c) a w:=by exact fun _ _ _ h=>h):wpAnyJ P md ops Q S N (n+1) ls a w:=
 take_D d v hi hd hs hf hr hN hQ hy hS h
theorem ready_1 (i:Nat) {n:Nat} {ls:Array Bool} {a:Act} {w:World} (h:wpOp P ops Q i (fun a' w'=>(i<N→S w')∧wpAnyJ P md ops Q S N n (ls.setIfInBounds i true) a' w') a w) (hr:Region.ready md ops ls=[i]:=by kernel_rfl):wpAnyJ P md ops Q S N (n+1) ls a w:=
 ready_J hr (by simp) fun j hj=>by obtain rfl:=List.mem_singleton.1 hj;exact h
theorem op_E {i:Nat} {o:Oper} {R:Act→World→Prop} {a:Act} {w:World} (h:∀ K,(∀ a' w',R a' w'→K a' w')→Oper.wp P o a w K Q) (hi:ops[i]?=some o:=by rfl) (hg:o.guard=none:=by rfl):wpOp P ops Q i R a w:=op_J hi hg h
theorem mkf (fn:Fn) (first cap:Array Value) (w:World):(Instr.makeFunc fn first cap).run Tryz.prog w=.ok (.func fn first cap) w:=rfl
end
theorem two_arms {F T:Nat→World→Prop} {A:Prop} (arms:(∀ b W,F b W→T b W)→A) (tail:∀ b W,F b W→T b W):A:=arms tail
theorem J_ls {P:Program} {ops:Array Oper} {Q:Exit→Act→World→Prop} {md:Region.Mode} {S:World→Prop} {N n:Nat} {ls ls':Array Bool} {a:Act} {w:World} (e:ls'=ls) (h:wpAnyJ P md ops Q S N n ls' a w):wpAnyJ P md ops Q S N n ls a w:=e ▸ h
end Go.Proofs.YtcnnlecjdkfdjaaGreatDoor
namespace Go.Proofs.YtcnnlecjdkfdjaaGreatDoor
structure Tk where
 kd:Int
 tx:List UInt8
 nu:Int
 ln:Int
 co:Int
def tk0:Tk:=⟨0,[],0,0,0⟩
structure Ru where
 k:Nat
 s:List UInt8
 j:Nat
 t:Tr
 n:Nat
 ns:List (List UInt8)
def r0 (k:Nat):Ru:=⟨k,[],0,t0,0,[]⟩
def rLater (s:List UInt8):Ru:=⟨22,s,0,t0,0,[]⟩
def rMore (s:List UInt8) (j:Nat):Ru:=⟨23,s,j,t0,0,[]⟩
def rMake (t:Tr) (n:Nat):Ru:=⟨24,[],0,t,n,[]⟩
def rSig (s:List UInt8) (n:Nat):Ru:=⟨25,s,0,t0,n,[]⟩
def rData (s:List UInt8) (ns:List (List UInt8)):Ru:=⟨26,s,0,t0,0,ns⟩
def rForm (s:List UInt8):Ru:=⟨27,s,0,t0,0,[]⟩
def rDef (s:List UInt8):Ru:=⟨28,s,0,t0,0,[]⟩
structure Ps where
 tk:Nat
 ru:List Ru
 ex:List Tr
 sg:List Sg
 fm:List Fm
 ds:List Dt
 fs:List Df
abbrev Rs:=Nat ⊕ Ps
def thenR (x:Rs) (f:Ps→Rs):Rs:=match x with
 | .inl n=>.inl n
 | .inr p=>f p
def tkAt (l:List Tk) (i:Nat):Tk:=l.getD i tk0
def isK (l:List Tk) (i:Nat) (s:List UInt8):Bool:=decide ((tkAt l i).kd=4) && (tkAt l i).tx == s
def isD (l:List Tk) (i:Nat) (k:Int):Bool:=decide ((tkAt l i).kd=k)
def keyR (l:List Tk) (s:List UInt8) (p:Ps):Rs:=if isK l p.tk s then .inr { p with tk:=p.tk+1 } else .inl p.tk
def takeR (l:List Tk) (k:Int) (p:Ps) (f:Tk→Ps→Rs):Rs:=if isD l p.tk k then f (tkAt l p.tk) { p with tk:=p.tk+1 } else .inl p.tk
def namesN (l:List Tk):List (List UInt8):=(l.takeWhile fun t=>decide (t.kd=2)).map (·.tx)
def namesR (l:List Tk) (p:Ps) (f:List (List UInt8)→Ps→Rs):Rs:=f (namesN (l.drop p.tk)) { p with tk:=p.tk+(namesN (l.drop p.tk)).length }
def pushR (rs:List Ru) (p:Ps):Rs:=.inr { p with ru:=rs ++ p.ru }
def bindT (k:Int) (s:List UInt8):Tr:=⟨k,[],0,[s],[]⟩
def kindT (k:Int):Tr:=⟨k,[],0,[],[]⟩
def opT (s:List UInt8):Tr:=⟨9,s,0,[],[]⟩
def sCurl:List UInt8:=[123]
def sUncurl:List UInt8:=[125]
def sSemi:List UInt8:=[59]
def sEq:List UInt8:=[61]
def sBar:List UInt8:=[124]
def sArrow:List UInt8:=[45,62]
def sBack:List UInt8:=[60,45]
def sLeft:List UInt8:=[40]
def sRight:List UInt8:=[41]
def sData:List UInt8:=[100,97,116,97]
def sLam:List UInt8:=[92]
def sLet:List UInt8:=[108,101,116]
def sIn:List UInt8:=[105,110]
def sCase:List UInt8:=[99,97,115,101]
def sOf:List UInt8:=[111,102]
def sIf:List UInt8:=[105,102]
def sThen:List UInt8:=[116,104,101,110]
def sElse:List UInt8:=[101,108,115,101]
def sDo:List UInt8:=[100,111]
def sDos:List UInt8:=[100,111,115]
def endR (l:List Tk) (p:Ps):Rs:=if p.tk<l.length then .inl p.tk else .inr p
def progR (l:List Tk) (p:Ps):Rs:=thenR (keyR l sCurl p) (pushR [r0 2,rLater sUncurl])
def declsR (l:List Tk) (p:Ps):Rs:=if isK l p.tk sUncurl then .inr p else pushR [r0 3,rMore sSemi 3] p
def dataR (l:List Tk) (p:Ps):Rs:=thenR (keyR l sData p) fun p=>takeR l 3 p fun t p=>namesR l p fun ns p=>thenR (keyR l sEq p) (pushR [r0 4,rMore sBar 4,rData t.tx ns])
def defR (l:List Tk) (p:Ps):Rs:=takeR l 2 p fun t p=>namesR l p fun ns p=>thenR (keyR l sEq { p with ru:=(ns.reverse.map fun n=>rMake (bindT 4 n) p.ex.length) ++ (rDef t.tx :: p.ru) }) (pushR [r0 10])
def declR (l:List Tk) (p:Ps):Rs:=if isK l p.tk sData then dataR l p else defR l p
def formR (l:List Tk) (p:Ps):Rs:=takeR l 3 p fun t p=>pushR [r0 8,rForm t.tx] p
def sigR (p:Ps):Rs:=pushR [r0 7,r0 6] p
def arrowR (l:List Tk) (p:Ps):Rs:=if isK l p.tk sArrow then thenR (keyR l sArrow p) fun p=>pushR [r0 5,rSig sArrow (p.sg.length - 1)] p else .inr p
def sigAtomR (l:List Tk) (p:Ps):Rs:=if isD l p.tk 3 then takeR l 3 p fun t p=>.inr { p with sg:=p.sg ++ [⟨t.tx,[]⟩] } else if isD l p.tk 2 then takeR l 2 p fun t p=>.inr { p with sg:=p.sg ++ [⟨t.tx,[]⟩] } else thenR (keyR l sLeft p) (pushR [r0 5,rLater sRight])
def sigAppR (l:List Tk) (p:Ps):Rs:=if isD l p.tk 3 then takeR l 3 p fun t p=>pushR [r0 8,rSig t.tx p.sg.length] p else sigAtomR l p
def sigAtomsR (l:List Tk) (p:Ps):Rs:=if isD l p.tk 3 || isD l p.tk 2 || isK l p.tk sLeft then pushR [r0 9,r0 8] p else .inr p
def lamR (l:List Tk) (p:Ps):Rs:=thenR (keyR l sLam p) fun p=>takeR l 2 p fun t p=>thenR (keyR l sArrow p) (pushR [r0 10,rMake (bindT 4 t.tx) p.ex.length])
def letR (l:List Tk) (p:Ps):Rs:=thenR (keyR l sLet p) fun p=>takeR l 2 p fun t p=>thenR (keyR l sEq p) (pushR [r0 10,rLater sIn,r0 10,rMake (bindT 6 t.tx) p.ex.length])
def waysR (l:List Tk) (p:Ps):Rs:=thenR (keyR l sCase p) fun p=>pushR [r0 10,rLater sOf,rLater sCurl,r0 11,rMore sSemi 11,rLater sUncurl,rMake (kindT 7) p.ex.length] p
def altR (l:List Tk) (p:Ps):Rs:=takeR l 3 p fun t p=>namesR l p fun ns p=>thenR (keyR l sArrow p) (pushR [r0 10,rMake ⟨8,t.tx,0,ns,[]⟩ p.ex.length])
def choiceR (l:List Tk) (p:Ps):Rs:=thenR (keyR l sIf p) fun p=>pushR [r0 10,rLater sThen,r0 10,rLater sElse,r0 10,rMake (kindT 10) p.ex.length] p
def blockR (l:List Tk) (s:List UInt8) (k:Int) (p:Ps):Rs:=thenR (keyR l s p) fun p=>pushR [rLater sCurl,r0 12,rMore sSemi 12,rLater sUncurl,rMake (kindT k) p.ex.length] p
def exprR (l:List Tk) (p:Ps):Rs:=if isK l p.tk sLam then lamR l p else if isK l p.tk sLet then letR l p else if isK l p.tk sCase then waysR l p else if isK l p.tk sIf then choiceR l p else if isK l p.tk sDo then blockR l sDo 11 p else if isK l p.tk sDos then blockR l sDos 12 p else pushR [r0 15,r0 14] p
def lineR (l:List Tk) (p:Ps):Rs:=if isD l p.tk 2 && isK l (p.tk+1) sBack then takeR l 2 p fun t p=>pushR [rLater sBack,r0 10,rMake (bindT 13 t.tx) p.ex.length] p else exprR l p
def operR (l:List Tk) (p:Ps) (f:Ru→Ps→Rs):Rs:=takeR l 4 p fun t p=>f (rMake (opT t.tx) (p.ex.length - 1)) p
def comparedR (l:List Tk) (p:Ps):Rs:=if isK l p.tk [61,61] || isK l p.tk [60] then operR l p fun m p=>pushR [r0 15,m] p else .inr p
def addedR (l:List Tk) (p:Ps):Rs:=if isK l p.tk [43] || isK l p.tk [45] then operR l p fun m p=>pushR [r0 17,m,r0 16] p else .inr p
def multipliedR (l:List Tk) (p:Ps):Rs:=if isK l p.tk [42] || isK l p.tk [47] then operR l p fun m p=>pushR [r0 19,m,r0 18] p else .inr p
def isAtm (l:List Tk) (i:Nat):Bool:=isD l i 1 || isD l i 2 || isD l i 3 || isK l i sLeft
def appliedR (l:List Tk) (p:Ps):Rs:=if isAtm l p.tk then pushR [r0 21,rMake (kindT 5) (p.ex.length - 1),r0 20] p else .inr p
def atomR (l:List Tk) (p:Ps):Rs:=if isD l p.tk 1 then takeR l 1 p fun t p=>.inr { p with ex:=p.ex ++ [⟨1,[],t.nu,[],[]⟩] } else if isD l p.tk 2 then takeR l 2 p fun t p=>.inr { p with ex:=p.ex ++ [⟨2,t.tx,0,[],[]⟩] } else if isD l p.tk 3 then takeR l 3 p fun t p=>.inr { p with ex:=p.ex ++ [⟨3,t.tx,0,[],[]⟩] } else thenR (keyR l sLeft p) (pushR [r0 10,rLater sRight])
def moreR (l:List Tk) (s:List UInt8) (j:Nat) (p:Ps):Rs:=if isK l p.tk s then thenR (keyR l s p) (pushR [r0 j,rMore s j]) else .inr p
def makeR (t:Tr) (n:Nat) (p:Ps):Rs:=.inr { p with ex:=p.ex.take n ++ [{ t with ks:=p.ex.drop n }] }
def makeSigR (s:List UInt8) (n:Nat) (p:Ps):Rs:=.inr { p with sg:=p.sg.take n ++ [⟨s,p.sg.drop n⟩] }
def ruleR (l:List Tk) (r:Ru) (p:Ps):Rs:=match r.k with
 | 0=>endR l p
 | 1=>progR l p
 | 2=>declsR l p
 | 3=>declR l p
 | 4=>formR l p
 | 5=>sigR p
 | 6=>arrowR l p
 | 7=>sigAppR l p
 | 8=>sigAtomsR l p
 | 9=>sigAtomR l p
 | 10=>exprR l p
 | 11=>altR l p
 | 12=>lineR l p
 | 14=>comparedR l p
 | 15=>pushR [r0 17,r0 16] p
 | 16=>addedR l p
 | 17=>pushR [r0 19,r0 18] p
 | 18=>multipliedR l p
 | 19=>pushR [r0 21,r0 20] p
 | 20=>appliedR l p
 | 21=>atomR l p
 | 22=>keyR l r.s p
 | 23=>moreR l r.s r.j p
 | 24=>makeR r.t r.n p
 | 25=>makeSigR r.s r.n p
 | 26=>.inr { p with ds:=p.ds ++ [⟨r.s,r.ns,p.fm⟩],fm:=[] }
 | 27=>.inr { p with fm:=p.fm ++ [⟨r.s,p.sg⟩],sg:=[] }
 | 28=>.inr { p with fs:=p.fs ++ [⟨r.s,p.ex.headD t0⟩],ex:=[] }
 | _=>.inl p.tk
def stepP (l:List Tk) (p:Ps):Rs:=match p.ru with
 | []=>.inr p
 | r :: q=>ruleR l r { p with ru:=q }
def wtR (r:Ru):Nat:=match r.k with
 | 0=>1
 | 2=>9
 | 3=>2
 | 4=>2
 | 5=>7
 | 6=>1
 | 7=>3
 | 8=>4
 | 9=>2
 | 10=>14
 | 11=>2
 | 12=>15
 | 14=>1
 | 15=>11
 | 16=>1
 | 17=>9
 | 18=>1
 | 19=>7
 | 20=>4
 | 21=>2
 | _=>1
def topW (l:List Tk) (p:Ps):Nat:=match p.ru with
 | []=>100
 | r :: _=>if (r.k=9∨r.k=21)∧p.tk<l.length then 0 else 100
def wtP (l:List Tk) (p:Ps):Nat:=(l.length - p.tk) * 300+(p.ru.map wtR).sum+topW l p
theorem topW_le (l:List Tk) (p:Ps):topW l p≤100:=by
 unfold topW
 split
 ·omega
 ·split <;> omega
theorem isK_lt {l:List Tk} {i:Nat} {s:List UInt8} (h:isK l i s=true):i<l.length:=by
 apply Classical.byContradiction
 intro hn
 have:tkAt l i=tk0:=by unfold tkAt;simp [List.getD,List.getElem?_eq_none (show l.length≤i by omega)]
 unfold isK at h
 rw [this] at h
 simp [tk0] at h
theorem isD_lt {l:List Tk} {i:Nat} {k:Int} (hk:k≠0) (h:isD l i k=true):i<l.length:=by
 apply Classical.byContradiction
 intro hn
 have:tkAt l i=tk0:=by unfold tkAt;simp [List.getD,List.getElem?_eq_none (show l.length≤i by omega)]
 unfold isD at h
 rw [this] at h
 exact hk (of_decide_eq_true h).symm
theorem wt_took {l:List Tk} {p q:Ps} (h:p.tk<q.tk) (hl:p.tk<l.length) (hw:(q.ru.map wtR).sum≤(p.ru.map wtR).sum+(q.tk - p.tk) * 100) (hle:q.tk≤l.length):wtP l q<wtP l p:=by
 have h1:=topW_le l q
 unfold wtP
 omega
theorem key_inv {l:List Tk} {s:List UInt8} {p q:Ps} (h:keyR l s p=.inr q):p.tk<l.length∧q={ p with tk:=p.tk+1 }:=by
 unfold keyR at h
 split at h
 ·rename_i hk
  exact ⟨isK_lt hk,(Sum.inr.inj h).symm⟩
 ·cases h
theorem then_inv {x:Rs} {f:Ps→Rs} {q:Ps} (h:thenR x f=.inr q):∃ p,x=.inr p∧f p=.inr q:=by
 cases x with
 | inl n=>cases h
 | inr p=>exact ⟨p,rfl,h⟩
theorem take_inv {l:List Tk} {k:Int} {p q:Ps} {f:Tk→Ps→Rs} (hk:k≠0) (h:takeR l k p f=.inr q):p.tk<l.length∧f (tkAt l p.tk) { p with tk:=p.tk+1 }=.inr q:=by
 unfold takeR at h
 split at h
 ·rename_i hd
  exact ⟨isD_lt hk hd,h⟩
 ·cases h
theorem names_le (l:List Tk) (i:Nat) (h:i≤l.length):i+(namesN (l.drop i)).length≤l.length:=by
 unfold namesN
 have h1:((l.drop i).takeWhile fun t=>decide (t.kd=2)).length≤(l.drop i).length:=(List.takeWhile_sublist _).length_le
 simp at h1 ⊢
 omega
def Took (l:List Tk) (p q:Ps):Prop:=p.tk<q.tk∧q.tk≤l.length∧(q.ru.map wtR).sum≤(p.ru.map wtR).sum+(q.tk - p.tk) * 100
theorem prog_took {l:List Tk} {p q:Ps} (h:progR l p=.inr q):Took l p q:=by
 obtain ⟨p1,h1,h2⟩:=then_inv h
 obtain ⟨hl,rfl⟩:=key_inv h1
 cases h2
 exact ⟨by simp,by simp;omega,by simp [wtR,r0,rLater];omega⟩
theorem data_took {l:List Tk} {p q:Ps} (h:dataR l p=.inr q):Took l p q:=by
 obtain ⟨p1,h1,h2⟩:=then_inv h
 obtain ⟨hl,rfl⟩:=key_inv h1
 obtain ⟨hl2,h3⟩:=take_inv (by decide) h2
 have hn:=names_le l (p.tk+1+1) (by simp only at hl2;omega)
 unfold namesR at h3
 simp only at h3 hl2
 generalize namesN (l.drop (p.tk+1+1))=ns at *
 obtain ⟨p2,h4,h5⟩:=then_inv h3
 obtain ⟨hl3,rfl⟩:=key_inv h4
 cases h5
 simp only at hl3
 exact ⟨by simp;omega,by simp;omega,by simp [wtR,r0,rMore,rData];omega⟩
theorem sum_make (ns:List (List UInt8)) (n:Nat):((ns.map fun m=>rMake (bindT 4 m) n).map wtR).sum=ns.length:=by
 induction ns with
 | nil=>rfl
 | cons a r ih=>simp only [List.map_cons,List.sum_cons,ih,List.length_cons];simp [wtR,rMake];omega
theorem def_took {l:List Tk} {p q:Ps} (h:defR l p=.inr q):Took l p q:=by
 obtain ⟨hl,h2⟩:=take_inv (by decide) h
 have hn:=names_le l (p.tk+1) (by omega)
 unfold namesR at h2
 simp only at h2
 generalize namesN (l.drop (p.tk+1))=ns at *
 obtain ⟨p2,h4,h5⟩:=then_inv h2
 obtain ⟨hl3,rfl⟩:=key_inv h4
 cases h5
 simp only at hl3
 refine ⟨by simp;omega,by simp;omega,?_⟩
 have h1:=sum_make ns.reverse p.ex.length
 rw [List.length_reverse] at h1
 simp only [List.map_append,List.sum_append,h1,List.map_cons,List.sum_cons,List.map_nil,List.sum_nil]
 simp [wtR,r0,rDef]
 omega
theorem form_took {l:List Tk} {p q:Ps} (h:formR l p=.inr q):Took l p q:=by
 obtain ⟨hl,h2⟩:=take_inv (by decide) h
 cases h2
 exact ⟨by simp,by simp;omega,by simp [wtR,r0,rForm];omega⟩
theorem sigAtom_took {l:List Tk} {p q:Ps} (h:sigAtomR l p=.inr q):Took l p q:=by
 unfold sigAtomR at h
 split at h
 ·obtain ⟨hl,h2⟩:=take_inv (by decide) h
  cases h2
  exact ⟨by simp,by simp;omega,by simp⟩
 ·split at h
  ·obtain ⟨hl,h2⟩:=take_inv (by decide) h
   cases h2
   exact ⟨by simp,by simp;omega,by simp⟩
  ·obtain ⟨p1,h1,h2⟩:=then_inv h
   obtain ⟨hl,rfl⟩:=key_inv h1
   cases h2
   exact ⟨by simp,by simp;omega,by simp [wtR,r0,rLater];omega⟩
theorem lam_took {l:List Tk} {p q:Ps} (h:lamR l p=.inr q):Took l p q:=by
 obtain ⟨p1,h1,h2⟩:=then_inv h
 obtain ⟨hl,rfl⟩:=key_inv h1
 obtain ⟨hl2,h3⟩:=take_inv (by decide) h2
 obtain ⟨p2,h4,h5⟩:=then_inv h3
 obtain ⟨hl3,rfl⟩:=key_inv h4
 cases h5
 simp only at hl2 hl3
 exact ⟨by simp;omega,by simp;omega,by simp [wtR,r0,rMake];omega⟩
theorem let_took {l:List Tk} {p q:Ps} (h:letR l p=.inr q):Took l p q:=by
 obtain ⟨p1,h1,h2⟩:=then_inv h
 obtain ⟨hl,rfl⟩:=key_inv h1
 obtain ⟨hl2,h3⟩:=take_inv (by decide) h2
 obtain ⟨p2,h4,h5⟩:=then_inv h3
 obtain ⟨hl3,rfl⟩:=key_inv h4
 cases h5
 simp only at hl2 hl3
 exact ⟨by simp;omega,by simp;omega,by simp [wtR,r0,rMake,rLater];omega⟩
theorem ways_took {l:List Tk} {p q:Ps} (h:waysR l p=.inr q):Took l p q:=by
 obtain ⟨p1,h1,h2⟩:=then_inv h
 obtain ⟨hl,rfl⟩:=key_inv h1
 cases h2
 exact ⟨by simp,by simp;omega,by simp [wtR,r0,rLater,rMake,rMore];omega⟩
theorem choice_took {l:List Tk} {p q:Ps} (h:choiceR l p=.inr q):Took l p q:=by
 obtain ⟨p1,h1,h2⟩:=then_inv h
 obtain ⟨hl,rfl⟩:=key_inv h1
 cases h2
 exact ⟨by simp,by simp;omega,by simp [wtR,r0,rLater,rMake,rMore];omega⟩
theorem block_took {l:List Tk} {s:List UInt8} {k:Int} {p q:Ps} (h:blockR l s k p=.inr q):Took l p q:=by
 obtain ⟨p1,h1,h2⟩:=then_inv h
 obtain ⟨hl,rfl⟩:=key_inv h1
 cases h2
 exact ⟨by simp,by simp;omega,by simp [wtR,r0,rLater,rMake,rMore];omega⟩
theorem alt_took {l:List Tk} {p q:Ps} (h:altR l p=.inr q):Took l p q:=by
 obtain ⟨hl,h2⟩:=take_inv (by decide) h
 have hn:=names_le l (p.tk+1) (by omega)
 unfold namesR at h2
 simp only at h2
 generalize namesN (l.drop (p.tk+1))=ns at *
 obtain ⟨p2,h4,h5⟩:=then_inv h2
 obtain ⟨hl3,rfl⟩:=key_inv h4
 cases h5
 simp only at hl3
 exact ⟨by simp;omega,by simp;omega,by simp [wtR,r0,rMake];omega⟩
theorem atom_took {l:List Tk} {p q:Ps} (h:atomR l p=.inr q):Took l p q:=by
 unfold atomR at h
 split at h
 ·obtain ⟨hl,h2⟩:=take_inv (by decide) h
  cases h2
  exact ⟨by simp,by simp;omega,by simp⟩
 ·split at h
  ·obtain ⟨hl,h2⟩:=take_inv (by decide) h
   cases h2
   exact ⟨by simp,by simp;omega,by simp⟩
  ·split at h
   ·obtain ⟨hl,h2⟩:=take_inv (by decide) h
    cases h2
    exact ⟨by simp,by simp;omega,by simp⟩
   ·obtain ⟨p1,h1,h2⟩:=then_inv h
    obtain ⟨hl,rfl⟩:=key_inv h1
    cases h2
    exact ⟨by simp,by simp;omega,by simp [wtR,r0,rLater];omega⟩
def Less (l:List Tk) (w:Nat) (p q:Ps):Prop:=q.tk=p.tk∧((q.ru.map wtR).sum<(p.ru.map wtR).sum+w∨(topW l q=0∧(q.ru.map wtR).sum<(p.ru.map wtR).sum+w+100))
theorem expr_step {l:List Tk} {p q:Ps} (h:exprR l p=.inr q):Took l p q∨Less l 14 p q:=by
 unfold exprR at h
 repeat' split at h
 ·exact .inl (lam_took h)
 ·exact .inl (let_took h)
 ·exact .inl (ways_took h)
 ·exact .inl (choice_took h)
 ·exact .inl (block_took h)
 ·exact .inl (block_took h)
 ·cases h
  exact .inr ⟨rfl,.inl (by simp [wtR,r0];omega)⟩
theorem oper_inv {l:List Tk} {p q:Ps} {f:Ru→Ps→Rs} (h:operR l p f=.inr q):p.tk<l.length∧∃ m:Ru,wtR m=1∧f m { p with tk:=p.tk+1 }=.inr q:=by
 obtain ⟨hl,h2⟩:=take_inv (by decide) h
 exact ⟨hl,_,rfl,h2⟩
theorem rule_step {l:List Tk} {r:Ru} {p q:Ps} (h:ruleR l r p=.inr q):Took l p q∨(Less l (wtR r) p q∧r.k≠9∧r.k≠21):=by
 obtain ⟨k,s,j,t,n,ns⟩:=r
 have pop:∀ {w:Nat},0<w→∀ {q:Ps},q.tk=p.tk→q.ru=p.ru→Less l w p q:=fun hw q h1 h2=>⟨h1,.inl (by rw [h2];omega)⟩
 have push:∀ {w:Nat} {rs:List Ru},(rs.map wtR).sum<w→∀ {q:Ps},pushR rs p=.inr q→Less l w p q:=fun hw q h=>by
  cases h
  exact ⟨rfl,.inl (by simp only [List.map_append,List.sum_append];omega)⟩
 unfold ruleR at h
 simp only at h
 split at h
 ·unfold endR at h
  split at h
  ·cases h
  ·cases h
   exact .inr ⟨pop (by simp [wtR]) rfl rfl,by simp,by simp⟩
 ·exact .inl (prog_took h)
 ·unfold declsR at h
  split at h
  ·cases h
   exact .inr ⟨pop (by simp [wtR]) rfl rfl,by simp,by simp⟩
  ·exact .inr ⟨push (by simp [wtR,r0,rMore]) h,by simp,by simp⟩
 ·unfold declR at h
  split at h
  ·exact .inl (data_took h)
  ·exact .inl (def_took h)
 ·exact .inl (form_took h)
 ·exact .inr ⟨push (by simp [wtR,r0]) h,by simp,by simp⟩
 ·unfold arrowR at h
  split at h
  ·obtain ⟨p1,h1,h2⟩:=then_inv h
   obtain ⟨hl,rfl⟩:=key_inv h1
   cases h2
   exact .inl ⟨by simp,by simp;omega,by simp [wtR,r0,rSig];omega⟩
  ·cases h
   exact .inr ⟨pop (by simp [wtR]) rfl rfl,by simp,by simp⟩
 ·unfold sigAppR at h
  split at h
  ·obtain ⟨hl,h2⟩:=take_inv (by decide) h
   cases h2
   exact .inl ⟨by simp,by simp;omega,by simp [wtR,r0,rSig];omega⟩
  ·exact .inl (sigAtom_took h)
 ·unfold sigAtomsR at h
  split at h
  ·rename_i hc
   have hl:p.tk<l.length:=by
    simp only [Bool.or_eq_true] at hc
    rcases hc with (hc | hc) | hc
    ·exact isD_lt (by decide) hc
    ·exact isD_lt (by decide) hc
    ·exact isK_lt hc
   cases h
   refine .inr ⟨⟨rfl,.inr ⟨?_,?_⟩⟩,by simp,by simp⟩
   ·unfold topW
    simp [r0,hl]
   ·simp [wtR,r0];omega
  ·cases h
   exact .inr ⟨pop (by simp [wtR]) rfl rfl,by simp,by simp⟩
 ·exact .inl (sigAtom_took h)
 ·rcases expr_step h with h | h
  ·exact .inl h
  ·exact .inr ⟨h,by simp,by simp⟩
 ·exact .inl (alt_took h)
 ·unfold lineR at h
  split at h
  ·obtain ⟨hl,h2⟩:=take_inv (by decide) h
   cases h2
   exact .inl ⟨by simp,by simp;omega,by simp [wtR,r0,rLater,rMake];omega⟩
  ·rcases expr_step h with h | h
   ·exact .inl h
   ·refine .inr ⟨⟨h.1,?_⟩,by simp,by simp⟩
    rcases h.2 with h2 | ⟨h2,h3⟩
    ·exact .inl (by simp [wtR];omega)
    ·exact .inr ⟨h2,by simp [wtR];omega⟩
 ·unfold comparedR at h
  split at h
  ·obtain ⟨hl,m,hm,h2⟩:=oper_inv h
   cases h2
   exact .inl ⟨by simp,by simp;omega,by simp [hm];simp [wtR,r0];omega⟩
  ·cases h
   exact .inr ⟨pop (by simp [wtR]) rfl rfl,by simp,by simp⟩
 ·exact .inr ⟨push (by simp [wtR,r0]) h,by simp,by simp⟩
 ·unfold addedR at h
  split at h
  ·obtain ⟨hl,m,hm,h2⟩:=oper_inv h
   cases h2
   exact .inl ⟨by simp,by simp;omega,by simp [hm];simp [wtR,r0];omega⟩
  ·cases h
   exact .inr ⟨pop (by simp [wtR]) rfl rfl,by simp,by simp⟩
 ·exact .inr ⟨push (by simp [wtR,r0]) h,by simp,by simp⟩
 ·unfold multipliedR at h
  split at h
  ·obtain ⟨hl,m,hm,h2⟩:=oper_inv h
   cases h2
   exact .inl ⟨by simp,by simp;omega,by simp [hm];simp [wtR,r0];omega⟩
  ·cases h
   exact .inr ⟨pop (by simp [wtR]) rfl rfl,by simp,by simp⟩
 ·exact .inr ⟨push (by simp [wtR,r0]) h,by simp,by simp⟩
 ·unfold appliedR at h
  split at h
  ·rename_i hc
   have hl:p.tk<l.length:=by
    unfold isAtm at hc
    simp only [Bool.or_eq_true] at hc
    rcases hc with ((hc | hc) | hc) | hc
    ·exact isD_lt (by decide) hc
    ·exact isD_lt (by decide) hc
    ·exact isD_lt (by decide) hc
    ·exact isK_lt hc
   cases h
   refine .inr ⟨⟨rfl,.inr ⟨?_,?_⟩⟩,by simp,by simp⟩
   ·unfold topW
    simp [r0,hl]
   ·simp [wtR,r0,rMake];omega
  ·cases h
   exact .inr ⟨pop (by simp [wtR]) rfl rfl,by simp,by simp⟩
 ·exact .inl (atom_took h)
 ·obtain ⟨hl,rfl⟩:=key_inv h
  exact .inl ⟨by simp,by simp;omega,by simp⟩
 ·unfold moreR at h
  split at h
  ·obtain ⟨p1,h1,h2⟩:=then_inv h
   obtain ⟨hl,rfl⟩:=key_inv h1
   cases h2
   refine .inl ⟨by simp,by simp;omega,?_⟩
   have h3:wtR (r0 j)≤20:=by unfold wtR;split <;> omega
   simp only [List.cons_append,List.nil_append,List.map_cons,List.sum_cons]
   simp [wtR,rMore] at h3 ⊢
   omega
  ·cases h
   exact .inr ⟨pop (by simp [wtR]) rfl rfl,by simp,by simp⟩
 ·cases h
  exact .inr ⟨pop (by simp [wtR]) rfl rfl,by simp,by simp⟩
 ·cases h
  exact .inr ⟨pop (by simp [wtR]) rfl rfl,by simp,by simp⟩
 ·cases h
  exact .inr ⟨pop (by simp [wtR]) rfl rfl,by simp,by simp⟩
 ·cases h
  exact .inr ⟨pop (by simp [wtR]) rfl rfl,by simp,by simp⟩
 ·cases h
  exact .inr ⟨pop (by simp [wtR]) rfl rfl,by simp,by simp⟩
 ·cases h
theorem step_less {l:List Tk} {p q:Ps} (hne:p.ru≠[]) (h:stepP l p=.inr q):wtP l q<wtP l p:=by
 obtain ⟨tk,ru,ex,sg,fm,ds,fs⟩:=p
 cases ru with
 | nil=>exact absurd rfl hne
 | cons r rs=>
  have h1:ruleR l r ⟨tk,rs,ex,sg,fm,ds,fs⟩=.inr q:=h
  have hw:1≤wtR r:=by unfold wtR;split <;> omega
  rcases rule_step h1 with ⟨a,b,c⟩ | ⟨⟨a,b⟩,c,d⟩
  ·simp only at a c
   exact wt_took a (by show tk<l.length;omega) (by simp only [List.map_cons,List.sum_cons];omega) b
  ·have ht:topW l ⟨tk,r :: rs,ex,sg,fm,ds,fs⟩=100:=by unfold topW;simp [c,d]
   have hq:=topW_le l q
   unfold wtP
   rw [ht]
   simp only [List.map_cons,List.sum_cons] at b ⊢
   simp only at a
   rw [a]
   rcases b with b | ⟨b1,b2⟩
   ·omega
   ·rw [b1];omega
open Go.RowKit
def tkC (t:Tk):List Value:=[.int .i64 t.kd,.string (S t.tx),.int .i64 t.nu,.int .i64 t.ln,.int .i64 t.co]
def KM (P:Nat→Prop) (w:World) (p:Option Addr) (l:List Tk):Prop:=RM 5 P w (fun t ds=>ds=tkC t∧t.tx.length≤281474976710656∧-9223372036854775808≤t.nu∧t.nu≤9223372036854775807) p l
abbrev psC (tp:Option Addr) (tn tc:Nat) (tk:Nat) (vr ve vs vf vd vp:Value):Array Value:=#[.slice tp tn tc,.int .i64 tk,vr,ve,vs,vf,vd,vp]
theorem wrap_i {n:Int} (h0:0≤n) (h1:n<9223372036854775808):IntKind.i64.wrap n=n:=by rw [IntKind.wrap_i64];omega
theorem next_any {P:Nat→Prop} {w:World} {B tn tc tk k:Nat} {tp:Option Addr} {vr ve vs vf vd vp:Value} {l:List Tk} (hB:Hold B (psC tp tn tc tk vr ve vs vf vd vp) 63 w) (hP:∀ b,P b→b<w.heap.size) (hn:l.length=tn) (hK:KM P w tp l) (hm:tn≤1000000) (hk:tk≤1000000) (hkk:k≤10) :
 Calls Tryz.prog 114 #[.pointer (some ⟨B,0,none⟩),.int .i64 k] w fun r w'=>r=.returned (.agg (tkC (tkAt l (tk+k))).toArray)∧Below w.heap.size w w':=by
 have HB0:Hid (Below w.heap.size w (w.alloc (.cells #[.int .i64 0,.string ⟨#[]⟩,.int .i64 0,.int .i64 0,.int .i64 0] 51))):=(Below.refl _ w).alloc (Nat.le_refl _) _
 have c0:=(hB.alloc (.cells #[.int .i64 0,.string ⟨#[]⟩,.int .i64 0,.int .i64 0,.int .i64 0] 51)).cell 0
 have c1:=(hB.alloc (.cells #[.int .i64 0,.string ⟨#[]⟩,.int .i64 0,.int .i64 0,.int .i64 0] 51)).cell 1
 simp only [lGA,lGS,lGZ] at c0 c1
 have HK:=zz hK
 have HN:=zz hn
 clear hK hn
 by_cases hlt:tk+k<tn
 ·have h1:¬ (tn:Int)≤(tk:Int)+k:=by omega
  have hil:tk+k<l.length:=by rw [HN.out];exact hlt
  have HT:Hid (tkAt l (tk+k)=l[tk+k]):=by show _=_;unfold tkAt;simp [List.getD,List.getElem?_eq_getElem hil]
  rcases HK.out with he | ⟨b,o,rfl,hPb,hma⟩
  ·rw [he] at hil;simp at hil
  obtain ⟨ds,_,h2,rfl,hz⟩:=hma (tk+k) l[tk+k] (by simp)
  have hbl:=hP b hPb
  have a0:=(HB0.out.cell (p:=⟨b,o+(tk+k) * 5,none⟩) hbl).trans (h2 0 _ rfl)
  have a1:=(HB0.out.cell (p:=⟨b,o+(tk+k) * 5+1,none⟩) hbl).trans (h2 1 _ rfl)
  have a2:=(HB0.out.cell (p:=⟨b,o+(tk+k) * 5+2,none⟩) hbl).trans (h2 2 _ rfl)
  have a3:=(HB0.out.cell (p:=⟨b,o+(tk+k) * 5+3,none⟩) hbl).trans (h2 3 _ rfl)
  have a4:=(HB0.out.cell (p:=⟨b,o+(tk+k) * 5+4,none⟩) hbl).trans (h2 4 _ rfl)
  generalize l[tk+k]=t at *
  have hlt2:(tk:Int)+k<tn:=by omega
  have hz0:(0:Int)≤(tk:Int)+k:=by omega
  have hwr:IntKind.i64.wrap ((tk:Int)+k)=(tk:Int)+k:=wrap_i (by omega) (by omega)
  have hz1:((tk:Int)+k).toNat=tk+k:=by omega
  clear h2 hma
  go_enter Tryz.func114,Tryz.ntmps114
  go_wp2_with fail
  go_quiet (fail)
  go_wp2_with fail
  refine wp_region_noPanic ?_
  refine region_J 13 (N:=12) (S:=(fun W':World=>W'.cell? ⟨B,0,none⟩=some (.slice (some ⟨b,o,none⟩) tn tc)∧W'.cell? ⟨B,1,none⟩=some (.int .i64 tk)∧W'.cell? ⟨b,o+(tk+k) * 5,none⟩=some (.int .i64 t.kd)∧W'.cell? ⟨b,o+(tk+k) * 5+1,none⟩=some (.string (S t.tx))∧W'.cell? ⟨b,o+(tk+k) * 5+2,none⟩=some (.int .i64 t.nu)∧W'.cell? ⟨b,o+(tk+k) * 5+3,none⟩=some (.int .i64 t.ln)∧W'.cell? ⟨b,o+(tk+k) * 5+4,none⟩=some (.int .i64 t.co))) (by kernel_rfl) (by kernel_rfl) ?_
  have hS:(fun W':World=>W'.cell? ⟨B,0,none⟩=some (.slice (some ⟨b,o,none⟩) tn tc)∧W'.cell? ⟨B,1,none⟩=some (.int .i64 tk)∧W'.cell? ⟨b,o+(tk+k) * 5,none⟩=some (.int .i64 t.kd)∧W'.cell? ⟨b,o+(tk+k) * 5+1,none⟩=some (.string (S t.tx))∧W'.cell? ⟨b,o+(tk+k) * 5+2,none⟩=some (.int .i64 t.nu)∧W'.cell? ⟨b,o+(tk+k) * 5+3,none⟩=some (.int .i64 t.ln)∧W'.cell? ⟨b,o+(tk+k) * 5+4,none⟩=some (.int .i64 t.co)) ((((w.alloc (.cells #[.int .i64 0,.string ⟨#[]⟩,.int .i64 0,.int .i64 0,.int .i64 0] 51)).drewN nq)).drew):=⟨c0,c1,a0,a1,a2,a3,a4⟩
  refine take_E 0 18 (.pointer (some ⟨B,0,none⟩)) rfl (Or.inl ⟨by rfl,fun W' hW=>by obtain ⟨s0,s1,s2,s3,s4,s5,s6⟩:=hW;first | (go_simp;done) | (go_simp;exact hwr) | (go_simp;rw [hz1];done) | (go_simp;rw [if_pos hz0,hz1];done)⟩) hS ?_
  refine take_E 1 19 (.pointer (some ⟨B,0,none⟩)) rfl (Or.inl ⟨by rfl,fun W' hW=>by obtain ⟨s0,s1,s2,s3,s4,s5,s6⟩:=hW;first | (go_simp;done) | (go_simp;exact hwr) | (go_simp;rw [hz1];done) | (go_simp;rw [if_pos hz0,hz1];done)⟩) hS ?_
  refine take_E 2 20 (.pointer (some ⟨B,0,none⟩)) rfl (Or.inl ⟨by rfl,fun W' hW=>by obtain ⟨s0,s1,s2,s3,s4,s5,s6⟩:=hW;first | (go_simp;done) | (go_simp;exact hwr) | (go_simp;rw [hz1];done) | (go_simp;rw [if_pos hz0,hz1];done)⟩) hS ?_
  refine take_E 3 21 (.slice (some ⟨b,o,none⟩) tn tc) rfl (Or.inl ⟨by rfl,fun W' hW=>by obtain ⟨s0,s1,s2,s3,s4,s5,s6⟩:=hW;first | (go_simp;done) | (go_simp;exact hwr) | (go_simp;rw [hz1];done) | (go_simp;rw [if_pos hz0,hz1];done)⟩) hS ?_
  refine take_E 4 22 (.pointer (some ⟨B,0,none⟩)) rfl (Or.inl ⟨by rfl,fun W' hW=>by obtain ⟨s0,s1,s2,s3,s4,s5,s6⟩:=hW;first | (go_simp;done) | (go_simp;exact hwr) | (go_simp;rw [hz1];done) | (go_simp;rw [if_pos hz0,hz1];done)⟩) hS ?_
  refine take_E 5 23 (.pointer (some ⟨B,0,none⟩)) rfl (Or.inl ⟨by rfl,fun W' hW=>by obtain ⟨s0,s1,s2,s3,s4,s5,s6⟩:=hW;first | (go_simp;done) | (go_simp;exact hwr) | (go_simp;rw [hz1];done) | (go_simp;rw [if_pos hz0,hz1];done)⟩) hS ?_
  refine take_E 6 24 (.pointer (some ⟨B,1,none⟩)) rfl (Or.inl ⟨by rfl,fun W' hW=>by obtain ⟨s0,s1,s2,s3,s4,s5,s6⟩:=hW;first | (go_simp;done) | (go_simp;exact hwr) | (go_simp;rw [hz1];done) | (go_simp;rw [if_pos hz0,hz1];done)⟩) hS ?_
  refine take_E 7 25 (.int .i64 tk) rfl (Or.inl ⟨by rfl,fun W' hW=>by obtain ⟨s0,s1,s2,s3,s4,s5,s6⟩:=hW;first | (go_simp;done) | (go_simp;exact hwr) | (go_simp;rw [hz1];done) | (go_simp;rw [if_pos hz0,hz1];done)⟩) hS ?_
  refine take_E 8 26 (.int .i64 k) rfl (Or.inl ⟨by rfl,fun W' hW=>by obtain ⟨s0,s1,s2,s3,s4,s5,s6⟩:=hW;first | (go_simp;done) | (go_simp;exact hwr) | (go_simp;rw [hz1];done) | (go_simp;rw [if_pos hz0,hz1];done)⟩) hS ?_
  refine take_E 9 27 (.int .i64 ((tk:Int)+k)) rfl (Or.inl ⟨by rfl,fun W' hW=>by obtain ⟨s0,s1,s2,s3,s4,s5,s6⟩:=hW;first | (go_simp;done) | (go_simp;exact hwr) | (go_simp;rw [hz1];done) | (go_simp;rw [if_pos hz0,hz1];done)⟩) hS ?_
  refine take_E 10 28 (.pointer (some ⟨b,o+(tk+k) * 5,none⟩)) rfl (Or.inl ⟨by rfl,fun W' hW=>by obtain ⟨s0,s1,s2,s3,s4,s5,s6⟩:=hW;first | (go_simp;done) | (go_simp;exact hwr) | (go_simp;rw [hz1];done) | (go_simp;rw [if_pos hz0,hz1];done)⟩) hS ?_
  refine take_E 11 29 (.agg #[.int .i64 t.kd,.string (S t.tx),.int .i64 t.nu,.int .i64 t.ln,.int .i64 t.co]) rfl (Or.inl ⟨by rfl,fun W' hW=>by obtain ⟨s0,s1,s2,s3,s4,s5,s6⟩:=hW;first | (go_simp;done) | (go_simp;exact hwr) | (go_simp;rw [hz1];done) | (go_simp;rw [if_pos hz0,hz1];done)⟩) hS ?_
  simp only [Act.put,lSI,lSZ,lSS]
  refine ready_E [12] ?_
  intro i him
  obtain rfl:=List.mem_singleton.1 him
  refine op_E fun K hK=>?_
  go_simp
  refine hK _ _ ⟨fun h=>absurd h (by omega),?_⟩
  clear hK K
  refine done_J (by kernel_rfl) ?_ _
  refine NoPanic.normal ?_
  go_wp2_with fail
  refine bodyPost_ret (v:=.agg (tkC t).toArray) (by simp only [results,Tryz.results114];go_simp;rfl) rfl ?_
  refine ⟨by rw [HT.out],?_⟩
  have hb0:Below w.heap.size w (w.alloc (.cells #[.int .i64 0,.string ⟨#[]⟩,.int .i64 0,.int .i64 0,.int .i64 0] 51)):=HB0.out
  have hset:∀ {W:World} {i:Nat} {v:Value},Below w.heap.size w W→Below w.heap.size w (W.setCell ⟨w.heap.size,i,none⟩ v):=fun h=>h.setCell (p:=⟨w.heap.size,_,none⟩) (Nat.le_refl _) _
  refine hset (hset (hset (hset (hset ?_))))
  exact hb0.trans ⟨rfl,rfl,rfl,Nat.le_refl _,fun _ _=>rfl⟩
 ·have h1:(tn:Int)≤(tk:Int)+k:=by omega
  have HT:Hid (tkAt l (tk+k)=tk0):=by
   show _=_
   unfold tkAt
   simp [List.getD,List.getElem?_eq_none (show l.length≤tk+k by rw [HN.out];omega)]
  go_enter Tryz.func114,Tryz.ntmps114
  go_wp2_with fail
  go_quiet (fail)
  go_wp2_with fail
  refine bodyPost_ret (v:=.agg (tkC tk0).toArray) (by simp only [results,Tryz.results114];go_simp;rfl) rfl ?_
  refine ⟨by rw [HT.out],?_⟩
  have hb0:Below w.heap.size w (w.alloc (.cells #[.int .i64 0,.string ⟨#[]⟩,.int .i64 0,.int .i64 0,.int .i64 0] 51)):=HB0.out
  have hset:∀ {W:World} {i:Nat} {v:Value},Below w.heap.size w W→Below w.heap.size w (W.setCell ⟨w.heap.size,i,none⟩ v):=fun h=>h.setCell (p:=⟨w.heap.size,_,none⟩) (Nat.le_refl _) _
  refine hset (hset (hset (hset (hset ?_))))
  exact hb0.trans ⟨rfl,rfl,rfl,Nat.le_refl _,fun _ _=>rfl⟩
def IdxQ (m:Prop) (w:World) (e:Ending) (w':World):Prop:=(∃ r:Int,e=.returned (.int .i64 r)∧(0≤r ↔ m)∧-1≤r)∧w'=w
def RowInt (w:World) (b:Nat) (L:List (Int)):Prop:=∀ (i:Nat) x,L[i]?=some x→w.cell? ⟨b,i,none⟩=some (.int .i64 x)
theorem indexInt {b n c:Nat} {L:List (Int)} {v:Int} {w:World} (hn:L.length=n) (hm:n≤1000) (hM:RowInt w b L) :
 Calls Tryz.prog 213 #[.slice (some ⟨b,0,none⟩) n c,.int .i64 v] w (IdxQ (v ∈ L) w):=by
 have HM:=zz hM
 have HN:=zz hn
 clear hM hn
 have HQ:Hid (∀ r:Int,(0≤r ↔ v ∈ L)→-1≤r→IdxQ (v ∈ L) w (.returned (.int .i64 r)) w):=fun r h1 h2=>⟨⟨r,rfl,h1,h2⟩,rfl⟩
 generalize hmm:(v ∈ L)=mm at *
 have HMM:=zz hmm
 clear hmm
 go_enter Tryz.func213,Tryz.ntmps213
 go_wp2_with fail
 go_loopg [8] n (fun k s8 wr=>∃ i:Nat,i≤n∧k=n - i∧s8=.int .i64 i∧w=wr∧v ∉ L.take i)
 case atStart=>exact ⟨0,Nat.zero_le _,by omega,rfl,rfl,by simp⟩
 case round=>
  obtain ⟨i,hi1,rfl,rfl,rfl,hno⟩:=hrel
  have HNO:=zz hno
  clear hno
  by_cases hlt:i<n
  ·have hil:i<L.length:=by rw [HN.out];exact hlt
   have a0:=HM.out i L[i] (by simp)
   have htk:L.take (i+1)=L.take i ++ [L[i]]:=List.take_succ_eq_append_getElem hil
   have hmem:L[i] ∈ L:=by simp
   have hii:(i:Int)<n:=by omega
   generalize L[i]=x at *
   have HTK:=zz htk
   have HMEM:=zz hmem
   clear htk hmem
   by_cases hxy:v=x
   ·have hq:(v == x)=true:=by simpa using hxy
    have HR:=zz (HQ.out (i:Int) ⟨fun _=>by rw [← HMM.out,hxy];exact HMEM.out,fun _=>by omega⟩ (by omega))
    clear hxy
    go_wp2_with fail
    go_ret
    exact HR.out
   ·have hq:(v == x)=false:=by simpa using hxy
    have HXY:=zz hxy
    clear hxy
    go_wp2_with fail
    go_roundg (n - (i+1))
    case measure=>omega
    case rel=>exact ⟨i+1,by omega,rfl,by go_num,rfl,by rw [HTK.out];simp only [List.mem_append,List.mem_singleton,not_or];exact ⟨HNO.out,HXY.out⟩⟩
  ·have HR:=zz (HQ.out (-1) ⟨fun h=>absurd h (by omega),fun h=>absurd (HMM.out ▸ h) (by have:=HNO.out;rw [List.take_of_length_le (by rw [HN.out];omega)] at this;exact this)⟩ (by omega))
   have hii:¬ (i:Int)<n:=by omega
   go_wp2_with fail
   go_ret
   exact HR.out
theorem containsInt {b n c:Nat} {L:List (Int)} {v:Int} {w:World} (hn:L.length=n) (hm:n≤1000) (hM:RowInt w b L) :
 Calls Tryz.prog 171 #[.slice (some ⟨b,0,none⟩) n c,.int .i64 v] w fun e w'=>e=.returned (.bool (decide (v ∈ L)))∧w'=w:=by
 have HI:=zz (indexInt (c:=c) (v:=v) hn hm hM)
 clear hM
 generalize hd:decide (v ∈ L)=d at *
 have HD:=zz hd
 clear hd
 go_enter Tryz.func171,Tryz.ntmps171
 go_wp2_with fail
 refine HI.out.mono ?_
 rintro e w' ⟨⟨r,rfl,h1,h2⟩,rfl⟩
 have HH:=zz h1
 clear h1
 go_wp2_with fail
 go_ret
 exact ⟨by rw [← HD.out,← decide_eq_decide.2 HH.out];rfl,rfl⟩
def RowStr (w:World) (b:Nat) (L:List (List UInt8)):Prop:=∀ (i:Nat) x,L[i]?=some x→w.cell? ⟨b,i,none⟩=some (.string (S x))
theorem indexStr {b n c:Nat} {L:List (List UInt8)} {v:List UInt8} {w:World} (hn:L.length=n) (hm:n≤1000) (hM:RowStr w b L) :
 Calls Tryz.prog 172 #[.slice (some ⟨b,0,none⟩) n c,.string (S v)] w (IdxQ (v ∈ L) w):=by
 have HM:=zz hM
 have HN:=zz hn
 clear hM hn
 have HQ:Hid (∀ r:Int,(0≤r ↔ v ∈ L)→-1≤r→IdxQ (v ∈ L) w (.returned (.int .i64 r)) w):=fun r h1 h2=>⟨⟨r,rfl,h1,h2⟩,rfl⟩
 generalize hmm:(v ∈ L)=mm at *
 have HMM:=zz hmm
 clear hmm
 go_enter Tryz.func172,Tryz.ntmps172
 go_wp2_with fail
 go_loopg [8] n (fun k s8 wr=>∃ i:Nat,i≤n∧k=n - i∧s8=.int .i64 i∧w=wr∧v ∉ L.take i)
 case atStart=>exact ⟨0,Nat.zero_le _,by omega,rfl,rfl,by simp⟩
 case round=>
  obtain ⟨i,hi1,rfl,rfl,rfl,hno⟩:=hrel
  have HNO:=zz hno
  clear hno
  by_cases hlt:i<n
  ·have hil:i<L.length:=by rw [HN.out];exact hlt
   have a0:=HM.out i L[i] (by simp)
   have htk:L.take (i+1)=L.take i ++ [L[i]]:=List.take_succ_eq_append_getElem hil
   have hmem:L[i] ∈ L:=by simp
   have hii:(i:Int)<n:=by omega
   generalize L[i]=x at *
   have HTK:=zz htk
   have HMEM:=zz hmem
   clear htk hmem
   by_cases hxy:v=x
   ·have hq:((S v).toList == (S x).toList)=true:=by rw [S_list,S_list,hxy];simp
    have HR:=zz (HQ.out (i:Int) ⟨fun _=>by rw [← HMM.out,hxy];exact HMEM.out,fun _=>by omega⟩ (by omega))
    clear hxy
    go_wp2_with fail
    go_ret
    exact HR.out
   ·have hq:((S v).toList == (S x).toList)=false:=by rw [S_list,S_list];simpa using hxy
    have HXY:=zz hxy
    clear hxy
    go_wp2_with fail
    go_roundg (n - (i+1))
    case measure=>omega
    case rel=>exact ⟨i+1,by omega,rfl,by go_num,rfl,by rw [HTK.out];simp only [List.mem_append,List.mem_singleton,not_or];exact ⟨HNO.out,HXY.out⟩⟩
  ·have HR:=zz (HQ.out (-1) ⟨fun h=>absurd h (by omega),fun h=>absurd (HMM.out ▸ h) (by have:=HNO.out;rw [List.take_of_length_le (by rw [HN.out];omega)] at this;exact this)⟩ (by omega))
   have hii:¬ (i:Int)<n:=by omega
   go_wp2_with fail
   go_ret
   exact HR.out
theorem containsStr {b n c:Nat} {L:List (List UInt8)} {v:List UInt8} {w:World} (hn:L.length=n) (hm:n≤1000) (hM:RowStr w b L) :
 Calls Tryz.prog 113 #[.slice (some ⟨b,0,none⟩) n c,.string (S v)] w fun e w'=>e=.returned (.bool (decide (v ∈ L)))∧w'=w:=by
 have HI:=zz (indexStr (c:=c) (v:=v) hn hm hM)
 clear hM
 generalize hd:decide (v ∈ L)=d at *
 have HD:=zz hd
 clear hd
 go_enter Tryz.func113,Tryz.ntmps113
 go_wp2_with fail
 refine HI.out.mono ?_
 rintro e w' ⟨⟨r,rfl,h1,h2⟩,rfl⟩
 have HH:=zz h1
 clear h1
 go_wp2_with fail
 go_ret
 exact ⟨by rw [← HD.out,← decide_eq_decide.2 HH.out];rfl,rfl⟩
end Go.Proofs.YtcnnlecjdkfdjaaGreatDoor
