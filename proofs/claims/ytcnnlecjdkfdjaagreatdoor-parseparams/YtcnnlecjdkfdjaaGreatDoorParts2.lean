/- Parts of the proof. -/
import Derived.Test.YtcnnlecjdkfdjaaGreatDoorRun4
set_option linter.unusedVariables false
set_option linter.unusedSimpArgs false
set_option maxRecDepth 100000
set_option maxHeartbeats 8000000
namespace Go.Proofs.YtcnnlecjdkfdjaaGreatDoor
def Fam (r:Ru):Prop:=(10≤r.k∧r.k≤24∧r.k≠13)∧(r.k=23→r.s≠sRight∧(r.j=11∨r.j=12))
def Fin (nd:Nat):List Ru→Nat→Prop
 | [],m=>m=nd
 | r :: q,m=>match r.k with
  | 14=>Fin nd q m
  | 16=>Fin nd q m
  | 18=>Fin nd q m
  | 20=>Fin nd q m
  | 22=>Fin nd q m
  | 23=>∀ m',m≤m'→Fin nd q m'
  | 24=>Fin nd q (r.n+1)
  | _=>Fin nd q (m+1)
theorem fam_r0 {j:Nat} (h:10≤j∧j≤21∧j≠13):Fam (r0 j):=⟨⟨h.1,by show j≤24;omega,h.2.2⟩,fun e=>by have e':j=23:=e;omega⟩
theorem fam_later (s:List UInt8):Fam (rLater s):=⟨⟨by show 10≤22;omega,by show 22≤24;omega,by show (22:Nat)≠13;omega⟩,fun e=>by have e':(22:Nat)=23:=e;omega⟩
theorem fam_make (t:Tr) (n:Nat):Fam (rMake t n):=⟨⟨by show 10≤24;omega,by show 24≤24;omega,by show (24:Nat)≠13;omega⟩,fun e=>by have e':(24:Nat)=23:=e;omega⟩
theorem fam_more {j:Nat} (h:j=11∨j=12):Fam (rMore sSemi j):=⟨⟨by show 10≤23;omega,by show 23≤24;omega,by show (23:Nat)≠13;omega⟩,fun _=>⟨by show sSemi≠sRight;decide,h⟩⟩
structure FamQ (nd:Nat) (r:Ru) (p q:Ps):Prop where
 ru:(∀ x ∈ p.ru,Fam x)→∀ x ∈ q.ru,Fam x
 sg:q.sg=p.sg
 fm:q.fm=p.fm
 ds:q.ds=p.ds
 fs:q.fs=p.fs
 fin:Fin nd (r :: p.ru) p.ex.length→Fin nd q.ru q.ex.length
theorem famQ_push {nd:Nat} {r:Ru} {p p' q:Ps} {rs:List Ru} (h:pushR rs p'=.inr q) (e:p'={ p with tk:=p'.tk }) (hf:∀ x ∈ rs,Fam x) (hn:Fin nd (r :: p.ru) p.ex.length→Fin nd (rs ++ p.ru) p.ex.length):FamQ nd r p q:=by
 cases h
 rw [e]
 refine ⟨fun hx x hm=>?_,rfl,rfl,rfl,rfl,hn⟩
 rcases List.mem_append.1 hm with h | h
 ·exact hf x h
 ·exact hx x h
theorem famQ_same {nd:Nat} {r:Ru} {p q:Ps} (h:(.inr p:Rs)=.inr q) (hn:Fin nd (r :: p.ru) p.ex.length→Fin nd p.ru p.ex.length):FamQ nd r p q:=by
 cases h
 exact ⟨fun hx=>hx,rfl,rfl,rfl,rfl,hn⟩
theorem expr_fam {nd:Nat} {r:Ru} {l:List Tk} {p q:Ps} (hr:Fin nd (r :: p.ru) p.ex.length→Fin nd p.ru (p.ex.length+1)) (h:exprR l p=.inr q):FamQ nd r p q:=by
 unfold exprR at h
 split at h
 ·unfold lamR at h
  obtain ⟨p1,h1,h2⟩:=then_inv h
  obtain ⟨hl,rfl⟩:=key_inv h1
  obtain ⟨hl2,h3⟩:=take_inv (by decide) h2
  obtain ⟨p2,h4,h5⟩:=then_inv h3
  obtain ⟨hl3,rfl⟩:=key_inv h4
  exact famQ_push h5 rfl (by simp [fam_r0,fam_make]) fun hn=>hr hn
 split at h
 ·unfold letR at h
  obtain ⟨p1,h1,h2⟩:=then_inv h
  obtain ⟨hl,rfl⟩:=key_inv h1
  obtain ⟨hl2,h3⟩:=take_inv (by decide) h2
  obtain ⟨p2,h4,h5⟩:=then_inv h3
  obtain ⟨hl3,rfl⟩:=key_inv h4
  exact famQ_push h5 rfl (by simp [fam_r0,fam_make,fam_later]) fun hn=>hr hn
 split at h
 ·unfold waysR at h
  obtain ⟨p1,h1,h2⟩:=then_inv h
  obtain ⟨hl,rfl⟩:=key_inv h1
  exact famQ_push h2 rfl (by simp [fam_r0,fam_make,fam_later,fam_more]) fun hn m' hm=>hr hn
 split at h
 ·unfold choiceR at h
  obtain ⟨p1,h1,h2⟩:=then_inv h
  obtain ⟨hl,rfl⟩:=key_inv h1
  exact famQ_push h2 rfl (by simp [fam_r0,fam_make,fam_later]) fun hn=>hr hn
 split at h
 ·unfold blockR at h
  obtain ⟨p1,h1,h2⟩:=then_inv h
  obtain ⟨hl,rfl⟩:=key_inv h1
  exact famQ_push h2 rfl (by simp [fam_r0,fam_make,fam_later,fam_more]) fun hn m' hm=>hr hn
 split at h
 ·unfold blockR at h
  obtain ⟨p1,h1,h2⟩:=then_inv h
  obtain ⟨hl,rfl⟩:=key_inv h1
  exact famQ_push h2 rfl (by simp [fam_r0,fam_make,fam_later,fam_more]) fun hn m' hm=>hr hn
 ·exact famQ_push h rfl (by simp [fam_r0]) fun hn=>hr hn
theorem fam_rule {nd:Nat} {r:Ru} {l:List Tk} {p q:Ps} (hr:Fam r) (hh:r.k=14∨r.k=16∨r.k=18∨r.k=20→1≤p.ex.length) (hk:r.k=24→r.n≤p.ex.length) (h:ruleR l r p=.inr q):FamQ nd r p q:=by
 obtain ⟨k,s,j,t,n,ns⟩:=r
 obtain ⟨⟨h10,h24,h13⟩,hm⟩:=hr
 simp only at h10 h24 h13 hm hh hk
 have hcases:k=10∨k=11∨k=12∨k=14∨k=15∨k=16∨k=17∨k=18∨k=19∨k=20∨k=21∨k=22∨k=23∨k=24:=by omega
 rcases hcases with rfl | rfl | rfl | rfl | rfl | rfl | rfl | rfl | rfl | rfl | rfl | rfl | rfl | rfl
 ·exact expr_fam (fun hn=>hn) h
 ·have h:altR l p=.inr q:=h
  obtain ⟨hl,h2⟩:=take_inv (by decide) h
  unfold namesR at h2
  simp only at h2
  obtain ⟨p2,h4,h5⟩:=then_inv h2
  obtain ⟨hl3,rfl⟩:=key_inv h4
  exact famQ_push h5 rfl (by simp [fam_r0,fam_make]) fun hn=>hn
 ·have h:lineR l p=.inr q:=h
  unfold lineR at h
  split at h
  ·obtain ⟨hl,h2⟩:=take_inv (by decide) h
   exact famQ_push h2 rfl (by simp [fam_r0,fam_make,fam_later]) fun hn=>hn
  ·exact expr_fam (fun hn=>hn) h
 ·have h:comparedR l p=.inr q:=h
  unfold comparedR at h
  split at h
  ·obtain ⟨hl,h2⟩:=take_inv (by decide) h
   refine famQ_push h2 rfl (by simp [fam_r0,fam_make]) fun hn=>?_
   show Fin nd p.ru (p.ex.length - 1+1)
   rw [Nat.sub_add_cancel (hh (.inl rfl))]
   exact hn
  ·exact famQ_same h fun hn=>hn
 ·exact famQ_push h rfl (by simp [fam_r0]) fun hn=>hn
 ·have h:addedR l p=.inr q:=h
  unfold addedR at h
  split at h
  ·obtain ⟨hl,h2⟩:=take_inv (by decide) h
   refine famQ_push h2 rfl (by simp [fam_r0,fam_make]) fun hn=>?_
   show Fin nd p.ru (p.ex.length - 1+1)
   rw [Nat.sub_add_cancel (hh (.inr (.inl rfl)))]
   exact hn
  ·exact famQ_same h fun hn=>hn
 ·exact famQ_push h rfl (by simp [fam_r0]) fun hn=>hn
 ·have h:multipliedR l p=.inr q:=h
  unfold multipliedR at h
  split at h
  ·obtain ⟨hl,h2⟩:=take_inv (by decide) h
   refine famQ_push h2 rfl (by simp [fam_r0,fam_make]) fun hn=>?_
   show Fin nd p.ru (p.ex.length - 1+1)
   rw [Nat.sub_add_cancel (hh (.inr (.inr (.inl rfl))))]
   exact hn
  ·exact famQ_same h fun hn=>hn
 ·exact famQ_push h rfl (by simp [fam_r0]) fun hn=>hn
 ·have h:appliedR l p=.inr q:=h
  unfold appliedR at h
  split at h
  ·refine famQ_push h rfl (by simp [fam_r0,fam_make]) fun hn=>?_
   show Fin nd p.ru (p.ex.length - 1+1)
   rw [Nat.sub_add_cancel (hh (.inr (.inr (.inr rfl))))]
   exact hn
  ·exact famQ_same h fun hn=>hn
 ·have h:atomR l p=.inr q:=h
  unfold atomR at h
  split at h
  ·obtain ⟨hl,h2⟩:=take_inv (by decide) h
   cases h2
   exact ⟨fun hx=>hx,rfl,rfl,rfl,rfl,fun hn=>by simp only [List.length_append,List.length_singleton];exact hn⟩
  split at h
  ·obtain ⟨hl,h2⟩:=take_inv (by decide) h
   cases h2
   exact ⟨fun hx=>hx,rfl,rfl,rfl,rfl,fun hn=>by simp only [List.length_append,List.length_singleton];exact hn⟩
  split at h
  ·obtain ⟨hl,h2⟩:=take_inv (by decide) h
   cases h2
   exact ⟨fun hx=>hx,rfl,rfl,rfl,rfl,fun hn=>by simp only [List.length_append,List.length_singleton];exact hn⟩
  ·obtain ⟨p1,h1,h2⟩:=then_inv h
   obtain ⟨hl,rfl⟩:=key_inv h1
   exact famQ_push h2 rfl (by simp [fam_r0,fam_later]) fun hn=>hn
 ·have h:keyR l s p=.inr q:=h
  obtain ⟨hl,rfl⟩:=key_inv h
  exact ⟨fun hx=>hx,rfl,rfl,rfl,rfl,fun hn=>hn⟩
 ·have h:moreR l s j p=.inr q:=h
  obtain ⟨hs,hj⟩:=hm rfl
  unfold moreR at h
  split at h
  ·obtain ⟨p1,h1,h2⟩:=then_inv h
   obtain ⟨hl,rfl⟩:=key_inv h1
   refine famQ_push h2 rfl (fun x hx=>?_) fun hn=>?_
   ·simp only [List.mem_cons,List.not_mem_nil,or_false] at hx
    rcases hx with rfl | rfl
    ·exact fam_r0 (by omega)
    ·exact ⟨⟨by show 10≤23;omega,by show 23≤24;omega,by show (23:Nat)≠13;omega⟩,fun _=>⟨hs,hj⟩⟩
   ·rcases hj with rfl | rfl
    ·show ∀ m',p.ex.length+1≤m'→Fin nd p.ru m'
     exact fun m' hm'=>hn m' (by omega)
    ·show ∀ m',p.ex.length+1≤m'→Fin nd p.ru m'
     exact fun m' hm'=>hn m' (by omega)
  ·exact famQ_same h fun hn=>hn _ (Nat.le_refl _)
 ·have h:makeR t n p=.inr q:=h
  cases h
  refine ⟨fun hx=>hx,rfl,rfl,rfl,rfl,fun hn=>?_⟩
  have hn':Fin nd p.ru (n+1):=hn
  have hnl:=hk rfl
  show Fin nd p.ru (p.ex.take n ++ [({ t with ks:=p.ex.drop n }:Tr)]).length
  rw [List.length_append,List.length_take,List.length_singleton,Nat.min_eq_left hnl]
  exact hn'
theorem good_make {nd:Nat} {r:Ru} {q:List Ru} {m s:Nat} (hg:Good nd (r :: q) m s) (h:r.k=24):r.n<m:=by
 obtain ⟨k,sx,j,t,n,ns⟩:=r
 simp only at h
 subst h
 exact hg.1
theorem run_keep {l:List Tk} {nd:Nat} (p:Ps):(∀ x ∈ p.ru,Fam x)→GoodP nd p→Fin nd p.ru p.ex.length→∀ q,run l p=.inr q→q.sg=p.sg∧q.fm=p.fm∧q.ds=p.ds∧q.fs=p.fs∧q.ex.length=nd:=by
 refine run_ind (l:=l) (M:=fun p=>(∀ x ∈ p.ru,Fam x)→GoodP nd p→Fin nd p.ru p.ex.length→∀ q,run l p=.inr q→q.sg=p.sg∧q.fm=p.fm∧q.ds=p.ds∧q.fs=p.fs∧q.ex.length=nd) (fun p ih hf hg hn q hq=>?_) p
 cases hru:p.ru with
 | nil=>
  rw [run_nil hru] at hq
  cases hq
  rw [hru] at hn
  exact ⟨rfl,rfl,rfl,rfl,hn⟩
 | cons r rest=>
  have hgd:Good nd (r :: rest) p.ex.length p.sg.length:=by unfold GoodP at hg;rw [hru] at hg;exact hg
  have hfr:=hf r (by rw [hru];exact List.mem_cons_self)
  have hfq:∀ x ∈ rest,Fam x:=fun x hx=>hf x (by rw [hru];exact List.mem_cons_of_mem _ hx)
  rw [run_cons hru] at hq
  rw [hru] at hn
  cases hx:ruleR l r { p with ru:=rest } with
  | inl n=>rw [hx] at hq;cases hq
  | inr p2=>
   rw [hx] at hq
   simp only at hq
   have hgp:=(rule_good (p:={ p with ru:=rest }) hgd hx).1
   obtain ⟨f1,f2,f3,f4,f5,f6⟩:=fam_rule (nd:=nd) (p:={ p with ru:=rest }) hfr (good_has hgd) (fun h=>Nat.le_of_lt (good_make hgd h)) hx
   obtain ⟨g1,g2,g3,g4,g5⟩:=ih r rest p2 hru hx (f1 hfq) hgp (f6 hn) q hq
   exact ⟨g1.trans f2,g2.trans f3,g3.trans f4,g4.trans f5,g5⟩
theorem expr_inv {l:List Tk} {q:Ps} (h:exprRun l=.inr q):∃ e,run l (ps0 [r0 10])=.inr ⟨l.length,[],[e],[],[],[],[]⟩∧q=⟨l.length,[],[e],[],[],[],[]⟩:=by
 have hb:=run_bot (l:=l) (nd:=1) [r0 0] (ps0 [r0 10]) (Nat.le_refl _) (Nat.zero_le _)
 have e:sft 0 [] [r0 0] (ps0 [r0 10])=ps0 [r0 10,r0 0]:=rfl
 have h':run l (ps0 [r0 10,r0 0])=.inr q:=h
 rw [e,h'] at hb
 have hps:=run_pos (l:=l) (nd:=1) (ps0 [r0 10]) (Nat.le_refl _) (Nat.zero_le _)
 cases hx:run l (ps0 [r0 10]) with
 | inl n=>rw [hx] at hb;cases hb
 | inr q1=>
  rw [hx] at hb hps
  simp only at hb
  have hend:=run_ended l (ps0 [r0 10])
  rw [hx] at hend
  have hru:q1.ru=[]:=hend
  obtain ⟨g1,g2,g3,g4,g5⟩:=run_keep (nd:=1) (ps0 [r0 10]) (fun x hx=>by
   have:x=r0 10:=by simpa [ps0] using hx
   rw [this];exact fam_r0 (by decide)) (Nat.le_refl _) rfl q1 hx
  have hs:(sft 0 [] [r0 0] q1).ru=[r0 0]:=by unfold sft;simp [hru]
  rw [run_cons hs] at hb
  have e3:ruleR l (r0 0) { sft 0 [] [r0 0] q1 with ru:=[] }=(if q1.tk<l.length then .inl q1.tk else .inr { q1 with ru:=[] }):=rfl
  rw [e3] at hb
  by_cases hq:q1.tk<l.length
  ·rw [if_pos hq] at hb;cases hb
  ·rw [if_neg hq] at hb
   simp only at hb
   rw [run_nil rfl] at hb
   have hle:q1.tk≤l.length:=hps.2
   have htk:q1.tk=l.length:=by omega
   obtain ⟨ex,hex⟩:∃ ex,q1.ex=[ex]:=by
    match he:q1.ex,g5 with
    | [ex],_=>exact ⟨ex,rfl⟩
   obtain ⟨tk,ru,exs,sg,fm,ds,fs⟩:=q1
   simp only at hru g1 g2 g3 g4 htk hex
   subst hru g1 g2 g3 g4 htk hex
   exact ⟨ex,rfl,Sum.inr.inj hb⟩
structure Stop (L:List Tk) (i:Nat):Prop where
 atm:isAtm L i=false
 mul:isK L i [42]=false
 div:isK L i [47]=false
 add:isK L i [43]=false
 sub:isK L i [45]=false
 eql:isK L i [61,61]=false
 lss:isK L i [60]=false
open Go.RowKit Go.Shelf
variable {α:Type}
def OwnB (B:Nat) (J:List α→World→Prop):Prop:=∀ s W W' row,J s W→W.grownBy W' row→(∀ r,row=some r→B≤r)→J s W'
theorem OwnB.obj {B:Nat} {J:List α→World→Prop} (h:OwnB B J) {s:List α} {W:World} {l:Nat} (o:Obj) (hs:J s W) (hl:B≤l):J s (W.putObj l o):=h s W _ (some l) hs (grownBy_putObj' W l o) (fun r e=>by cases e;exact hl)
theorem OwnB.new {B:Nat} {J:List α→World→Prop} (h:OwnB B J) {s:List α} {W:World} (o:Obj) (hs:J s W):J s (W.alloc o):=h s W _ none hs (World.grownBy_alloc W o none) (fun r e=>by cases e)
def ItC (n gf:Nat) (lb:Array Value) (encs:α→Array Value) (Kp:World→World→Prop) (S Sp:List α→Prop) (N:Nat) (w:World):Prop:=
 ∀ (l:Nat) (J Jx:List α→World→Prop) (W:World),Below w.heap.size w W→OwnB W.heap.size J→OwnB W.heap.size Jx →
  (∀ pre x W1,J pre W1→pre.length<N→YieldAt Fence.wide (n - 1) Tryz.prog l (encs x) W1 fun e W'=>(e=.returned (.bool true)∧J (pre ++ [x]) W'∧Kp W1 W')∨(e=.returned (.bool false)∧Jx (pre ++ [x]) W')) →
  J [] W→CallsIn Fence.wide n Tryz.prog gf (#[.func (.yield l) #[] #[]] ++ lb) W fun e W'=>(∃ v,e=.returned v)∧((∃ xs,S xs∧J xs W')∨(∃ pre,Sp pre∧Jx pre W'))
def leaves (B:Nat) (Kp:World→World→Prop) (I Ix:List α→World→Prop) (xs:List α) (W:World):Exit→Act→World→Prop
 | .normal,_,W'=>KeepsFrom B W W'∧Kp W W'∧I xs W'
 | .ret,_,W'=>KeepsFrom B W W'∧Ix xs W'
 | _,_,_=>False
theorem range_cells {n gf N:Nat} {lb:Array Value} {encs:α→Array Value} {Kp:World→World→Prop} {S Sp:List α→Prop} {g:Operand} {ps:Array Tmp} {assign body:Code} {Q:Exit→Act→World→Prop} {a:Act} {w:World} (h1:1≤n)
 (hg:a.eval g=.func (.func gf) #[] lb) (eg:∀ args w,(callFunc gf args).run Tryz.prog w=.ok (.enter gf args) w) (hit:ItC (n - 1) gf lb encs Kp S Sp N w)
 (hKt:∀ {A B C:World},Kp A B→Kp B C→Kp A C) (hKb:∀ (W:World) (l:Nat) (o o':Obj),w.heap.size≤l→W.heap[l]?=some o→o.isCells=false→o.isWalk=false→Kp W (W.putObj l o')) (hps:∀ x,(encs x).size=ps.size)
 (I Ix:List α→World→Prop) (hI:OwnB w.heap.size I) (hIx:OwnB w.heap.size Ix) (h0:I [] w) (a₁:α→World→Act) (w₁:α→World→World) (hw₁:∀ x W,w.heap.size+2≤W.heap.size→W.grownBy (w₁ x W) none∧Kp W (w₁ x W))
 (hassign:∀ (l:Nat) (x:α) (W:World) (K:Act→World→Prop),K (a₁ x W) (w₁ x W)→assign.wpIn (Fence.wide.inRound l) (n - 1 - 1) Tryz.prog (Exit.then K (fun _ _ _=>False)) { tmps:=(ps.zip (encs x)).foldl (fun t (p,v)=>t.setIfInBounds p v) a.tmps,defers:=[] } W)
 (hbody:∀ (l:Nat) (pre:List α) (x:α) (W X:World),w.heap.size+2≤W.heap.size→X.heap.size=(w₁ x W).heap.size→(∀ k,k≠w.heap.size+1→X.heap[k]?=(w₁ x W).heap[k]?)→I pre X→pre.length<N→body.wpIn (Fence.wide.inRound l) (n - 1 - 1) Tryz.prog (leaves w.heap.size Kp I Ix (pre ++ [x]) X) (a₁ x W) X)
 (hdone:∀ (xs:List α) (W:World),S xs→I xs W→W.heap[w.heap.size]?=some (.deferred (some []))→Q .normal { a with defers:={ target:=.collected w.heap.size,args:=#[] } :: a.defers } W)
 (hstop:∀ (pre:List α) (W:World),Sp pre→Ix pre W→W.heap[w.heap.size]?=some (.deferred (some []))→Code.ret.wpIn Fence.wide n Tryz.prog Q { a with defers:={ target:=.collected w.heap.size,args:=#[] } :: a.defers } W) :
 (Code.rangeFunc g ps assign body).wpIn Fence.wide n Tryz.prog Q a w:=by
 refine wpIn_rangeFunc fun fn hfn=>?_
 obtain ⟨R,hR⟩:∃ R:LoopState→Option Code→Loop,R=fun st pe=>{ state:=st,pending:=pe,fn,tmps:=a.tmps,params:=ps,assign,body,defers:=w.heap.size }:=⟨_,rfl⟩
 obtain ⟨V,hV⟩:∃ V,V=(w.alloc (.deferred (some []))).alloc (.loop (R .ready none)):=⟨_,rfl⟩
 have vs:V.heap.size=w.heap.size+2:=by rw [hV];simp
 have vl:V.heap[w.heap.size+1]?=some (.loop (R .ready none)):=by
  rw [hV];have:=World.alloc_heap_new (w.alloc (.deferred (some []))) (.loop (R .ready none));rwa [World.size_alloc] at this
 have vd:V.heap[w.heap.size]?=some (.deferred (some [])):=by
  rw [hV];exact (Below.heap_alloc _ _ _ (by simp)).trans (World.alloc_heap_new w _)
 have vi:I [] V:=by rw [hV];exact hI.new _ (hI.new _ h0)
 have vb:Below w.heap.size w V:=by rw [hV];exact ((Below.refl _ w).alloc (Nat.le_refl _) _).alloc (by simp) _
 have stay:∀ {A B:World} {row:Option Nat} {k:Nat} {o:Obj},A.grownBy B row→(∀ r,row=some r→V.heap.size≤r)→k<w.heap.size+2→A.heap[k]?=some o→B.heap[k]?=some o:=by
  intro A B row k o hgr hr hk ho
  exact (hgr.block k (Array.getElem?_eq_some_iff.1 ho).1 (fun e=>by have:=hr k e.symm;omega)).trans ho
 refine ⟨w.heap.size+1,[{ target:=.collected w.heap.size,args:=#[] }],V,{ target:=.fn (.func gf) lb,args:=#[.func (.yield (w.heap.size+1)) #[] #[]] },V,gf,#[.func (.yield (w.heap.size+1)) #[] #[]] ++ lb,V,?_,?_,?_,?_,fun _=>h1,?_⟩
 ·rw [hV,hR];exact run_enterLoop_outer _ _ _ _ _
 ·simp only [resolve,hg]
  simp [go_sem]
 ·exact fun _ _=>trivial
 ·simp [invoke,go_sem,eg]
 ·refine (hit (w.heap.size+1) (fun pre W=>I pre W∧W.heap[w.heap.size+1]?=some (.loop (R .ready none))∧W.heap[w.heap.size]?=some (.deferred (some [])))
   (fun pre W=>Ix pre W∧W.heap[w.heap.size+1]?=some (.loop (R .done (some .ret)))∧W.heap[w.heap.size]?=some (.deferred (some []))) V vb
   (fun s A B row hs hgr hr=>⟨hI s A B row hs.1 hgr (fun r e=>by have:=hr r e;omega),stay hgr hr (by omega) hs.2.1,stay hgr hr (by omega) hs.2.2⟩)
   (fun s A B row hs hgr hr=>⟨hIx s A B row hs.1 hgr (fun r e=>by have:=hr r e;omega),stay hgr hr (by omega) hs.2.1,stay hgr hr (by omega) hs.2.2⟩) ?_ ⟨vi,vl,vd⟩).mono ?_
  ·rintro pre x W0 ⟨hi0,hl0,hk0⟩ hlen
   have hlt0:w.heap.size+1<W0.heap.size:=(Array.getElem?_eq_some_iff.1 hl0).1
   have hgr:=(hw₁ x W0 (by omega)).1
   obtain ⟨W,hWe⟩:∃ W,W=w₁ x W0:=⟨_,rfl⟩
   have hi:I pre W:=by rw [hWe];exact hI _ _ _ none hi0 hgr (fun r e=>by cases e)
   have hl:W.heap[w.heap.size+1]?=some (.loop (R .ready none)):=by rw [hWe];exact (hgr.block _ hlt0 (by simp)).trans hl0
   have hk:W.heap[w.heap.size]?=some (.deferred (some [])):=by rw [hWe];exact (hgr.block _ (by omega) (by simp)).trans hk0
   have hkp0:Kp W0 W:=by rw [hWe];exact (hw₁ x W0 (by omega)).2
   have hlt:w.heap.size+1<W.heap.size:=(Array.getElem?_eq_some_iff.1 hl).1
   have hy:=run_yield (P:=Tryz.prog) (args:=encs x) hl0 (by rw [hR];exact hps x)
   rw [hR] at hy
   refine ⟨fn,_,assign,body,hy,roundIn_of_wpIn hfn (hassign _ x W0 _ ⟨_,by rw [← hWe];exact run_beginRound hl (by rw [hR]),?_⟩)⟩
   obtain ⟨X,hX⟩:∃ X,X=W.putObj (w.heap.size+1) (.loop { R .ready none with state:=.busy }):=⟨_,rfl⟩
   have xl:X.heap[w.heap.size+1]?=some (.loop { R .ready none with state:=.busy }):=by rw [hX];exact World.putObj_heap_same hlt
   have xk:X.heap[w.heap.size]?=some (.deferred (some [])):=by rw [hX];exact (World.putObj_heap_other (by omega)).trans hk
   have xp:Kp W X:=by rw [hX];exact hKb _ _ _ _ (by omega) hl rfl rfl
   have xi:I pre X:=by rw [hX];exact hI.obj _ hi (by omega)
   rw [← hX]
   refine wpIn_mono (hbody _ pre x W0 X (by omega) (by rw [hX,← hWe];simp [World.putObj]) (fun k hk'=>by rw [hX,← hWe];exact World.putObj_heap_other hk') xi hlen) ?_
   intro e a3 Y hp
   have last:∀ (jump:Option Code),KeepsFrom w.heap.size X Y→(Instr.endRound (w.heap.size+1) jump).run Tryz.prog Y=.ok (.bool jump.isNone) (Y.putObj (w.heap.size+1) (.loop (R (if jump.isNone then .ready else .done) jump)))∧Y.heap[w.heap.size+1]?=some (.loop { R .ready none with state:=.busy }) ∧
    (Y.putObj (w.heap.size+1) (.loop (R (if jump.isNone then .ready else .done) jump))).heap[w.heap.size+1]?=some (.loop (R (if jump.isNone then .ready else .done) jump))∧(Y.putObj (w.heap.size+1) (.loop (R (if jump.isNone then .ready else .done) jump))).heap[w.heap.size]?=some (.deferred (some [])):=by
    intro jump hkf
    have yl:=hkf.same _ _ (by omega) xl rfl
    have ye:=run_endRound (P:=Tryz.prog) jump yl
    rw [hR] at ye ⊢
    exact ⟨ye,by rw [hR] at yl;exact yl,World.putObj_heap_same (Array.getElem?_eq_some_iff.1 yl).1,(World.putObj_heap_other (by omega)).trans (hkf.same _ _ (Nat.le_refl _) xk rfl)⟩
   cases e with
   | normal=>
    obtain ⟨hkf,hkp,hi3⟩:=hp
    obtain ⟨l1,l2,l3,l4⟩:=last none hkf
    exact ⟨_,_,l1,.inl ⟨rfl,⟨hI.obj _ hi3 (by omega),l3,l4⟩,hKt hkp0 (hKt (hKt xp hkp) (hKb _ _ _ _ (by omega) l2 rfl rfl))⟩⟩
   | ret=>
    obtain ⟨hkf,hi3⟩:=hp
    obtain ⟨l1,l2,l3,l4⟩:=last (some .ret) hkf
    exact ⟨_,_,l1,.inr ⟨rfl,hIx.obj _ hi3 (by omega),l3,l4⟩⟩
   | exit id=>exact hp.elim
   | goto t=>exact hp.elim
   | panic ch=>exact hp.elim
   | outgrown=>exact hp.elim
  ·rintro e Z ⟨⟨v,rfl⟩,⟨xs,hS,hi,hl,hk⟩ | ⟨pre,hSp,hi,hl,hk⟩⟩
   ·refine ⟨none,_,(by have:=run_endLoop (P:=Tryz.prog) hl (by rw [hR];simp);rw [hR] at this;exact this),hdone xs _ hS (hI.obj _ hi (by omega)) ((World.putObj_heap_other (by omega)).trans hk)⟩
   ·refine ⟨some .ret,_,(by have:=run_endLoop (P:=Tryz.prog) hl (by rw [hR];simp);rw [hR] at this;exact this),hstop pre _ hSp (hIx.obj _ hi (by omega)) ((World.putObj_heap_other (by omega)).trans hk)⟩
attribute [local go_sem] Oper.semAt_some
theorem info23:(Tryz.prog.info? 25).map (fun i=>(i.zero,i.size,i.bytes))=some (some (.slice none 0 0),1,24):=by kernel_rfl
theorem row_setP {W:World} {base n cap g i:Nat} {e:TypeId} {xs:List Value} (h:W.ownsRow base e 1 (.slice (some ⟨g,0,none⟩) n cap) n xs) (hi:i<n) (v:Value):(W.setCell ⟨g,i,none⟩ v).ownsRow base e 1 (.slice (some ⟨g,0,none⟩) n cap) n (xs.set i v):=by
 rcases h with ⟨h1,⟨h2,_⟩ | ⟨g',cap',cur,hv,hb,hg,r1,r2,r3,r4⟩⟩
 ·cases h2
 ·cases hv
  have hH:Hold g (cur.setIfInBounds i v) e (W.setCell ⟨g,i,none⟩ v):=Hold.set (show Hold g cur e W from hg) i v
  refine ⟨by rw [List.length_set];exact h1,.inr ⟨g,cap,cur.setIfInBounds i v,rfl,hb,hH,r1,r2,by simpa using r3,?_⟩⟩
  rw [← r4,Array.toList_setIfInBounds,List.take_set]
theorem row_some {W:World} {base n cap:Nat} {p:Option Addr} {e:TypeId} {xs:List Value} (h:W.ownsRow base e 1 (.slice p n cap) n xs) (hn:0<n):∃ g,p=some ⟨g,0,none⟩∧base≤g∧g<W.heap.size∧n≤cap∧(∀ i,W.frozen? ⟨g,i,none⟩=false)∧∃ cur,Hold g cur e W:=by
 rcases h with ⟨h1,⟨h2,h3⟩ | ⟨g',cap',cur,hv,hb,hg,r1,r2,r3,r4⟩⟩
 ·omega
 ·cases hv
  exact ⟨g',rfl,hb,(Array.getElem?_eq_some_iff.1 hg).1,r1,fun i=>Hold.frozen (show Hold g' cur e W from hg) i,cur,hg⟩
theorem kp_row {n b base s:Nat} {W W':World} {e:TypeId} {size k:Nat} {v:Value} {xs:List Value} (h:KpB n b s W W') (hbb:b≤base) (hr:W.ownsRow base e size v k xs):W'.ownsRow base e size v k xs:=by
 rcases hr with ⟨h1,h2 | ⟨g,cap,cur,hv,hb,hg,r⟩⟩
 ·exact ⟨h1,.inl h2⟩
 ·exact ⟨h1,.inr ⟨g,cap,cur,hv,hb,h.2.2 g cur e (0,0) (by omega) hg,r⟩⟩
theorem base_mono {w:World} {B B' e size n:Nat} {v:Value} {xs:List Value} (h:w.ownsRow B e size v n xs) (hb:B'≤B):w.ownsRow B' e size v n xs:=by
 obtain ⟨h1,h2⟩:=h
 refine ⟨h1,?_⟩
 rcases h2 with h2 | ⟨g,cap,cur,e1,e2,e3⟩
 ·exact .inl h2
 ·exact .inr ⟨g,cap,cur,e1,by omega,e3⟩
theorem EM.tl {P:Nat→Prop} {w:World} {b o:Nat} {k0:Tr} {r:List Tr} (h:EM P w (some ⟨b,o,none⟩) (k0 :: r)):EM P w (some ⟨b,o+5,none⟩) r:=by
 rcases h with h | ⟨b',o',hp,hb,hm⟩
 ·cases h
 ·cases hp
  refine .inr ⟨b,o+5,rfl,hb,fun i t ht=>?_⟩
  obtain ⟨ds,h1,h2,h3⟩:=hm (i+1) t (by simpa using ht)
  exact ⟨ds,h1,fun j d hd=>by rw [← h2 j d hd];congr 2;omega,h3⟩
def ptR (P:Nat→Prop) (we:World) (e:Tr) (B:Nat) (J:List (PN P we)→World→Prop) (k:Nat) (v:Value) (wr:World):Prop:=∃ (pre:List (PN P we)) (st:List SE) (p:Option Addr) (c:Nat),k=2 * (remS st).length+st.length∧v=.slice p st.length c∧wr.ownsRow B 25 1 (.slice p st.length c) st.length (st.reverse.map seV)∧(∀ s ∈ st,seOK P we s)∧pre.map bareP ++ remS st=po e 1∧J pre wr∧Below we.heap.size we wr∧B≤wr.heap.size∧st.length≤1000001
theorem ghost {R:Nat→Value→World→Prop}:∃ μ:Value→World→Nat,∀ v w,(∃ k,R k v w)→R (μ v w) v w∧∀ m,R m v w→μ v w≤m:=by
 have h:∀ v w,∃ n,(∃ k,R k v w)→R n v w∧∀ m,R m v w→n≤m:=by
  intro v w
  by_cases hx:∃ k,R k v w
  ·obtain ⟨n,h1,h2⟩:=least_of hx;exact ⟨n,fun _=>⟨h1,h2⟩⟩
  ·exact ⟨0,fun h=>absurd h hx⟩
 exact ⟨fun v w=>Classical.choose (h v w),fun v w=>Classical.choose_spec (h v w)⟩
theorem parts_it {n:Nat} (hn:1≤n) {P:Nat→Prop} {we w:World} {e:Tr} {pn:Option Addr} {cn:Nat} {pk:Option Addr} {ck Bs:Nat} (hP:∀ b,P b→b<we.heap.size) (hE:TrIn P we e [.int .i64 e.kd,.string (S e.nm),.int .i64 e.nu,.slice pn e.ns.length cn,.slice pk e.ks.length ck]) (hD:∀ x ∈ po e 1,x.1≤1000000∧x.2.ks.length≤1000000)
 (hBs:Bs<w.heap.size) (hbx:Hold Bs (cs5 e pn cn pk ck) 27 w) (hwe:Below we.heap.size we w) :
 ItC n 181 #[.pointer (some ⟨Bs,0,none⟩)] (encP (P:=P) (w:=we)) (KpB we.heap.size w.heap.size Bs) (fun xs=>xs.map bareP=po e 1) (fun pre=>∃ r,pre.map bareP ++ r=po e 1) ((po e 1).length+1) w:=by
 intro ld J Jx W hW hJ hJx hY h0
 obtain ⟨i0,hi,hz0,hz1,hz2⟩:=info_parts info23
 have hbW:Hold Bs (cs5 e pn cn pk ck) 27 W:=hbx.below hW hBs
 have b0:=hbW.cell 0;have b1:=hbW.cell 1;have b2:=hbW.cell 2;have b3:=hbW.cell 3;have b4:=hbW.cell 4
 have hx0:okX P we ⟨1,e,pn,cn,pk,ck⟩:=⟨hE,by show (1:Nat)≤2147483647;omega,(hD (1,e) (by rw [po_eq];simp)).2⟩
 have hpo:=po_eq e 1
 have HY:=zz hY
 have HJ:=zz hJ
 have h00:=HY.out [] ⟨_,hx0⟩ W h0 (by simp)
 clear hY
 show CallsIn Fence.wide n Tryz.prog 181 #[.func (.yield ld) #[] #[],.pointer (some ⟨Bs,0,none⟩)] W _
 refine callsIn_of_wp Tryz.func181 rfl trivial ?_ rfl
 simp only [Tryz.ntmps181,List.size_toArray,List.length_cons,List.length_nil,Nat.reduceAdd,Nat.reduceSub,Array.replicate_succ,Array.replicate_zero,List.push_toArray,List.append_toArray,List.nil_append,List.cons_append]
 unfold cs5 at b0 b1 b2 b3 b4
 simp only [lGA,lGS,lGZ] at b0 b1 b2 b3 b4
 obtain ⟨fn,tmps,assign,body,hy,hR⟩:=h00
 simp only [encP,cs5] at hy
 have hy1:((1:Nat):Int)=1:=rfl
 rw [hy1] at hy
 have HR:=zz hR
 have HBW:=zz hbW
 clear hR hbW
 gi_wp2_with fail
 refine HR.out.mono ?_
 rintro e' W3 (⟨rfl,hJ3,hk3⟩ | ⟨rfl,hJx3⟩)
 ·have d4:=(hk3.holdS HBW.out).cell 4
  unfold cs5 at d4
  simp only [lGA,lGS,lGZ] at d4
  have hkW:W.heap.size≤W3.heap.size:=hk3.1.size
  have hBW3:Below we.heap.size we W3:=(hwe.trans (hW.mono hwe.size)).trans hk3.1
  obtain ⟨pn',cn',pk',ck',hcs,_,_,_,hsk,_,hEM⟩:=(TrIn_iff _ _ _ _).1 hE
  obtain ⟨rfl,rfl⟩:pk=pk'∧ck=ck':=by simp at hcs;exact ⟨hcs.2.1,hcs.2.2⟩
  obtain ⟨μ,hμ⟩:=ghost (R:=ptR P we e W.heap.size J)
  have HMU:=zz hμ
  have hstart:ptR P we e W.heap.size J (2 * (remS [(pk,ck,e.ks)]).length+1) (.slice (some ⟨W3.heap.size,0,none⟩) 1 1) (W3.alloc (.cells #[.slice pk e.ks.length ck] 25)):=by
   refine ⟨[⟨_,hx0⟩],[(pk,ck,e.ks)],_,_,rfl,rfl,?_,?_,?_,?_,?_,?_,by simp⟩
   ·exact ⟨rfl,.inr ⟨W3.heap.size,1,_,rfl,hkW,Hold.new W3 _ 25,Nat.le_refl _,by unfold maxLen;omega,rfl,rfl⟩⟩
   ·intro s hs
    simp at hs;subst hs
    exact ⟨hsk,hEM⟩
   ·rw [hpo];simp [remS,bareP]
   ·exact HJ.out _ _ _ none hJ3 (World.grownBy_alloc W3 _ none) (fun r e=>by cases e)
   ·exact hBW3.alloc hBW3.size _
   ·simp;omega
  have HSTART:=zz hstart
  clear hstart hJ3 hk3 hcs hsk hEM hx0 hy HR b0 b1 b2 b3 b4 hE hBW3 hμ
  gi_wp2_with fail
  gi_loopw [3] (fun s3 wr=>∃ k,ptR P we e W.heap.size J k s3 wr) (fun s3 wr=>μ s3 wr)
  case atStart=>exact ⟨_,HSTART.out⟩
  case round=>
   obtain ⟨pre,st,p,c,hk,rfl,hown,hok,hpre,hJp,hB,hsz,hstl⟩:=(HMU.out _ _ hrel).1
   have hgh:=(HMU.out _ _ hrel).2
   generalize hmu:μ (.slice p st.length c) wr=mu at *
   cases st with
   | nil=>
    simp only [remS,List.append_nil] at hpre
    have HPRE:=zz hpre
    have HJP:=zz hJp
    clear hpre hJp hown hok hgh hmu hk hrel
    gi_wp2_with fail
    go_end0
    exact ⟨⟨_,rfl⟩,.inl ⟨pre,HPRE.out,HJP.out⟩⟩
   | cons s r=>
    obtain ⟨g,rfl,hgB,hgl,hnc,hfz,cur,hcur⟩:=row_some hown (by simp)
    have hlst:(s :: r).reverse.map seV=r.reverse.map seV ++ [seV s]:=by simp
    have hcell:wr.cell? ⟨g,r.length,none⟩=some (seV s):=row_cell hown (by rw [hlst,List.getElem?_append_right (by simp)];simp)
    have hfzr:=hfz r.length
    have hsok:=hok s (by simp)
    obtain ⟨ps,cs,ls⟩:=s
    simp only [seV] at hcell
    have hl1:((ps,cs,ls) :: r).length=r.length+1:=rfl
    simp only [hl1] at *
    have HOK:=zz hok
    have HPRE:=zz hpre
    have HJP:=zz hJp
    have HB:=zz hB
    have HGH:=zz hgh
    have HMM:=zz hmu
    have HKK:=zz hk
    have HOWN:=zz hown
    have HLST:=zz hlst
    have HCUR:=zz hcur
    cases ls with
    | nil=>
     simp only [List.length_nil] at hcell
     have hq1:(r.length:Int)+1 - 1=r.length:=by omega
     clear hok hpre hJp hB hgh hmu hk hown hlst hrel hsok hcur hfz
     generalize hq:r.length=q at *
     have HQ:=zz hq
     clear hq
     gi_wp2_with fail
     have hR:ptR P we e W.heap.size J (2 * (remS r).length+r.length) (.slice (some ⟨g,0,none⟩) q c) wr:=by
      refine ⟨pre,r,_,_,rfl,by rw [HQ.out],?_,fun x hx=>HOK.out x (List.mem_cons_of_mem _ hx),?_,HJP.out,HB.out,hsz,by rw [HQ.out];omega⟩
      ·have h1:=row_cut HOWN.out (j:=q) (by omega)
       rw [HLST.out,List.take_append_of_le_length (by simp [HQ.out]),List.take_of_length_le (by simp [HQ.out])] at h1
       rw [HQ.out];exact h1
      ·have:=HPRE.out;simpa [remS] using this
     refine ⟨⟨_,hR⟩,?_⟩
     have h1:=(HMU.out _ _ ⟨_,hR⟩).2 _ hR
     have h2:=HKK.out
     have h3:=HMM.out
     have h4:(remS ((ps,cs,[]) :: r)).length=(remS r).length:=by simp [remS]
     rw [h4] at h2
     rw [h3,h2,HQ.out] at *
     omega
    | cons t ts=>
     obtain ⟨hslo,hem⟩:=hsok
     simp only [List.length_cons] at hslo hcell
     obtain ⟨b,o,hps,hPb,hmm⟩:∃ b o,ps=some ⟨b,o,none⟩∧P b∧∀ i k,(t :: ts)[i]?=some k→∃ pn cn pk' ck,TrIn P we k [.int .i64 k.kd,.string (S k.nm),.int .i64 k.nu,.slice pn k.ns.length cn,.slice pk' k.ks.length ck]∧we.cell? ⟨b,o+i * 5,none⟩=some (.int .i64 k.kd)∧we.cell? ⟨b,o+i * 5+1,none⟩=some (.string (S k.nm))∧we.cell? ⟨b,o+i * 5+2,none⟩=some (.int .i64 k.nu)∧we.cell? ⟨b,o+i * 5+3,none⟩=some (.slice pn k.ns.length cn)∧we.cell? ⟨b,o+i * 5+4,none⟩=some (.slice pk' k.ks.length ck):=by
      rcases hem with h | ⟨b,o,hp,hb,hm⟩
      ·cases h
      ·refine ⟨b,o,hp,hb,fun i k hk=>?_⟩
       obtain ⟨ds,h1,h2,h3⟩:=hm i k hk
       obtain ⟨pn,cn,pk',ck,rfl,_⟩:=(TrIn_iff _ _ _ _).1 h3
       exact ⟨pn,cn,pk',ck,h3,h2 0 _ rfl,h2 1 _ rfl,h2 2 _ rfl,h2 3 _ rfl,h2 4 _ rfl⟩
     subst hps
     obtain ⟨qn,dn,qk,dk,hIn,a0,a1,a2,a3,a4⟩:=hmm 0 t rfl
     have hcc:∀ x,wr.cell? ⟨b,x,none⟩=we.cell? ⟨b,x,none⟩:=fun x=>hB.cell (p:=⟨b,x,none⟩) (hP b hPb)
     simp only [Nat.zero_mul,Nat.add_zero] at a0 a1 a2 a3 a4
     rw [← hcc] at a0 a1 a2 a3 a4
     have hbg:¬ b=g:=by have:=hP b hPb;have:=hwe.size;have:=hW.size;omega
     have hbl:b<wr.heap.size:=by have:=hP b hPb;have:=hB.size;omega
     have HIN:=zz hIn
     have HEM:=zz hem
     have HSLO:=zz hslo
     have hcs1:1≤cs:=by have:=hslo.1;omega
     clear hok hpre hJp hB hgh hmu hk hown hlst hrel hcur hfz hmm hcc hem hIn hslo
     generalize hnt:ts.length=nt at *
     generalize hq:r.length=q at *
     have HQ:=zz hq
     have HNT:=zz hnt
     have hq1:(q:Int)+1 - 1=q:=by omega
     clear hq hnt
     by_cases hcs:cs=1
     ·subst hcs
      have hnt0:ts=[]:=by have:=HSLO.out.1;have:=HNT.out;exact List.length_eq_zero_iff.1 (by omega)
      have HN0:=zz hnt0
      clear hnt0
      have hmem:(q+2,t) ∈ po e 1:=by
       rw [← HPRE.out]
       simp only [remS,List.flatMap_cons,po_eq t,HQ.out]
       simp
      have hx:okX P we ⟨q+2,t,qn,dn,qk,dk⟩:=⟨HIN.out,by show q+2≤2147483647;omega,(hD _ hmem).2⟩
      have hg1:wr.grownBy (wr.setCell ⟨g,q,none⟩ (.slice (some ⟨b,o,none⟩) nt (0))) (some g):=⟨rfl,rfl,rfl,by simp,fun k hk hne=>Below.heap_setCell _ _ _ k (fun h=>hne (by rw [h]))⟩
      have hJV:J pre ((wr.setCell ⟨g,q,none⟩ (.slice (some ⟨b,o,none⟩) nt (0))).alloc (.cells #[.int .i64 t.kd,.string (S t.nm),.int .i64 t.nu,.slice qn t.ns.length dn,.slice qk t.ks.length dk] 27)):=HJ.out _ _ _ none (HJ.out _ _ _ (some g) HJP.out hg1 (fun r e=>by cases e;exact hgB)) (World.grownBy_alloc _ _ none) (fun r e=>by cases e)
      have hlen:pre.length<(po e 1).length+1:=by
       have:=congrArg List.length HPRE.out
       simp at this;omega
      have rowV:World.ownsRow ((wr.setCell ⟨g,q,none⟩ (.slice (some ⟨b,o,none⟩) nt (0))).alloc (.cells #[.int .i64 t.kd,.string (S t.nm),.int .i64 t.nu,.slice qn t.ns.length dn,.slice qk t.ks.length dk] 27)) W.heap.size 25 1 (.slice (some ⟨g,0,none⟩) (q+1) c) (q+1) ((((some ⟨b,o,none⟩,1,t :: ts) :: r).reverse.map seV).set q (.slice (some ⟨b,o,none⟩) nt (0))):=(row_setP HOWN.out (by omega) _).alloc _
      have boxV:Hold wr.heap.size #[.int .i64 t.kd,.string (S t.nm),.int .i64 t.nu,.slice qn t.ns.length dn,.slice qk t.ks.length dk] 27 ((wr.setCell ⟨g,q,none⟩ (.slice (some ⟨b,o,none⟩) nt (0))).alloc (.cells #[.int .i64 t.kd,.string (S t.nm),.int .i64 t.nu,.slice qn t.ns.length dn,.slice qk t.ks.length dk] 27)):=by have:=Hold.new (wr.setCell ⟨g,q,none⟩ (.slice (some ⟨b,o,none⟩) nt (0))) #[.int .i64 t.kd,.string (S t.nm),.int .i64 t.nu,.slice qn t.ns.length dn,.slice qk t.ks.length dk] 27;simpa using this
      have BV:Below we.heap.size we ((wr.setCell ⟨g,q,none⟩ (.slice (some ⟨b,o,none⟩) nt (0))).alloc (.cells #[.int .i64 t.kd,.string (S t.nm),.int .i64 t.nu,.slice qn t.ns.length dn,.slice qk t.ks.length dk] 27)):=(HB.out.setCell (p:=⟨g,q,none⟩) (by have:=hwe.size;have:=hW.size;show we.heap.size≤g;omega) _).alloc (by have:=HB.out.size;simpa using this) _
      obtain ⟨fn',tmps',assign',body',hy,hR⟩:=HY.out pre ⟨_,hx⟩ _ hJV hlen
      simp only [encP,cs5] at hy
      rw [show ((q+2:Nat):Int)=(q:Int)+1+1 by omega] at hy
      have HR2:=zz hR
      have HRV:=zz rowV
      have HXV:=zz boxV
      have HBV:=zz BV
      clear hR rowV boxV BV hJV hg1
      gi_wp2_with fail
      refine HR2.out.mono ?_
      rintro e' Z (⟨rfl,hJZ,hkZ⟩ | ⟨rfl,hJxZ⟩)
      ·have rowZ:=kp_row hkZ hW.size HRV.out
       have boxZ:=hkZ.hold (k:=wr.heap.size) (by have:=hW.size;omega) HXV.out
       have d4:=boxZ.cell 4
       simp only [lGA,lGS,lGZ] at d4
       have hZs:wr.heap.size+1≤Z.heap.size:=by have:=hkZ.1.size;simpa using this
       have BZ:=HBV.out.trans hkZ.1
       have HJZ:=zz hJZ
       have HRZ:=zz rowZ
       have HBZ:=zz BZ
       clear hkZ boxZ BZ hJZ
       gi_wp2_with (gi_at_builtin;refine wpListIn_append_own _ rfl _ _ 193 rfl W.heap.size 25 i0 (.slice none 0 0) 1 24 Tryz.underlying193 hi hz0 hz1 hz2 rfl (by decide) _ _ _ rfl (rowZ.alloc _) ⟨Z.heap.size,0,none⟩ 1 1 [.slice qk t.ks.length dk] rfl rfl (cell_one_new _ _ _) (by simp [Value.oneCell']) (by unfold maxLen;omega) (by omega) (by simp;omega) ?_;intro v' w2 hown2 hgrow0 _;have hgrow:(Z.alloc (.cells #[.slice qk t.ks.length dk] 25)).grownBy w2 (Value.slice (some ⟨g,0,none⟩) (q+1) c).ownBlock:=hgrow0;clear hgrow0;obtain ⟨ao,cc,rfl⟩:=slice_of hown2)
       have hR:ptR P we e W.heap.size J (2 * (remS ((qk,dk,t.ks) :: ((some ⟨b,o,none⟩:Option Addr),0,ts) :: r)).length+(r.length+2)) (.slice ao (q+1+1) cc) w2:=by
        refine ⟨pre ++ [⟨_,hx⟩],(qk,dk,t.ks) :: ((some ⟨b,o,none⟩:Option Addr),0,ts) :: r,ao,cc,rfl,by rw [← HQ.out];rfl,?_,?_,?_,?_,?_,?_,?_⟩
        ·have e1:((qk,dk,t.ks) :: ((some ⟨b,o,none⟩:Option Addr),0,ts) :: r).length=q+1+1:=by rw [← HQ.out];rfl
         have e2:((qk,dk,t.ks) :: ((some ⟨b,o,none⟩:Option Addr),0,ts) :: r).reverse.map seV=((((some ⟨b,o,none⟩,1,t :: ts) :: r).reverse.map seV).set q (.slice (some ⟨b,o,none⟩) nt (0))) ++ [.slice qk t.ks.length dk]:=by
          have e3:(r.reverse.map seV).length=q:=by rw [← HQ.out];simp
          simp only [List.reverse_cons,List.map_append,List.map_cons,List.map_nil,List.append_assoc,List.cons_append,List.nil_append]
          rw [List.set_append,if_neg (by omega),e3,Nat.sub_self]
          simp [seV,HNT.out]
         rw [e1,e2];exact hown2
        ·intro x hx'
         rcases List.mem_cons.1 hx' with rfl | hx'
         ·obtain ⟨_,_,pk2,ck2,hc2,_,_,_,h5,_,h7⟩:=(TrIn_iff _ _ _ _).1 HIN.out
          simp at hc2
          obtain ⟨rfl,rfl⟩:qk=pk2∧dk=ck2:=⟨hc2.2.1,hc2.2.2⟩
          exact ⟨h5,h7⟩
         ·rcases List.mem_cons.1 hx' with rfl | hx'
          ·exact ⟨⟨by rw [HN0.out];exact Nat.le_refl _,Nat.zero_le _,fun h=>rfl⟩,.inl HN0.out⟩
          ·exact HOK.out x (List.mem_cons_of_mem _ hx')
        ·have h1:=HPRE.out
         simp only [remS,List.flatMap_cons,List.length_cons] at h1 ⊢
         rw [po_eq t,HQ.out] at h1
         rw [HQ.out,← h1]
         simp [bareP]
        ·refine HJ.out _ _ _ _ (HJ.out _ _ _ none HJZ.out (World.grownBy_alloc Z _ none) (fun r e=>by cases e)) hgrow (fun r e=>?_)
         have e2:g=r:=by simpa [Value.ownBlock] using e
         omega
        ·exact (HBZ.out.alloc (by have:=HBZ.out.size;omega) _).trans (below_row (base_mono (rowZ.alloc _) (by have:=hwe.size;have:=hW.size;omega)) (by simp;have:=HBZ.out.size;omega) hgrow)
        ·have:=hgrow.size;simp at this;omega
        ·show r.length+2≤1000001
         rw [HQ.out]
         have:=(hD _ hmem).1
         simp at this;omega
       refine ⟨⟨_,hR⟩,?_⟩
       have h1:=(HMU.out _ _ ⟨_,hR⟩).2 _ hR
       have h2:=HKK.out
       have h3:=HMM.out
       have h4:(remS ((some ⟨b,o,none⟩,1,t :: ts) :: r)).length=(remS ((qk,dk,t.ks) :: ((some ⟨b,o,none⟩:Option Addr),0,ts) :: r)).length+1:=by
        simp only [remS,List.flatMap_cons,po_eq t,List.length_append,List.length_cons,Nat.add_assoc,Nat.reduceAdd]
        omega
       rw [h4] at h2
       rw [HQ.out] at h1
       rw [h3,h2]
       omega
      ·have HJX:=zz hJxZ
       clear hJxZ
       gi_wp2_with fail
       refine bodyPost_ret (results_none rfl _ _ _) rfl ?_
       refine ⟨⟨_,rfl⟩,.inr ⟨_,?_,HJX.out⟩⟩
       refine ⟨(t.ks.flatMap fun k=>po k (q+3)) ++ ((ts.flatMap fun k=>po k (q+2)) ++ remS r),?_⟩
       rw [← HPRE.out]
       simp only [remS,List.flatMap_cons,po_eq t,HQ.out]
       simp [bareP]
     ·have HCS:=zz hcs
      have hmem:(q+2,t) ∈ po e 1:=by
       rw [← HPRE.out]
       simp only [remS,List.flatMap_cons,po_eq t,HQ.out]
       simp
      have hx:okX P we ⟨q+2,t,qn,dn,qk,dk⟩:=⟨HIN.out,by show q+2≤2147483647;omega,(hD _ hmem).2⟩
      have hg1:wr.grownBy (wr.setCell ⟨g,q,none⟩ (.slice (some ⟨b,o+5,none⟩) nt (cs - 1))) (some g):=⟨rfl,rfl,rfl,by simp,fun k hk hne=>Below.heap_setCell _ _ _ k (fun h=>hne (by rw [h]))⟩
      have hJV:J pre ((wr.setCell ⟨g,q,none⟩ (.slice (some ⟨b,o+5,none⟩) nt (cs - 1))).alloc (.cells #[.int .i64 t.kd,.string (S t.nm),.int .i64 t.nu,.slice qn t.ns.length dn,.slice qk t.ks.length dk] 27)):=HJ.out _ _ _ none (HJ.out _ _ _ (some g) HJP.out hg1 (fun r e=>by cases e;exact hgB)) (World.grownBy_alloc _ _ none) (fun r e=>by cases e)
      have hlen:pre.length<(po e 1).length+1:=by
       have:=congrArg List.length HPRE.out
       simp at this;omega
      have rowV:World.ownsRow ((wr.setCell ⟨g,q,none⟩ (.slice (some ⟨b,o+5,none⟩) nt (cs - 1))).alloc (.cells #[.int .i64 t.kd,.string (S t.nm),.int .i64 t.nu,.slice qn t.ns.length dn,.slice qk t.ks.length dk] 27)) W.heap.size 25 1 (.slice (some ⟨g,0,none⟩) (q+1) c) (q+1) ((((some ⟨b,o,none⟩,cs,t :: ts) :: r).reverse.map seV).set q (.slice (some ⟨b,o+5,none⟩) nt (cs - 1))):=(row_setP HOWN.out (by omega) _).alloc _
      have boxV:Hold wr.heap.size #[.int .i64 t.kd,.string (S t.nm),.int .i64 t.nu,.slice qn t.ns.length dn,.slice qk t.ks.length dk] 27 ((wr.setCell ⟨g,q,none⟩ (.slice (some ⟨b,o+5,none⟩) nt (cs - 1))).alloc (.cells #[.int .i64 t.kd,.string (S t.nm),.int .i64 t.nu,.slice qn t.ns.length dn,.slice qk t.ks.length dk] 27)):=by have:=Hold.new (wr.setCell ⟨g,q,none⟩ (.slice (some ⟨b,o+5,none⟩) nt (cs - 1))) #[.int .i64 t.kd,.string (S t.nm),.int .i64 t.nu,.slice qn t.ns.length dn,.slice qk t.ks.length dk] 27;simpa using this
      have BV:Below we.heap.size we ((wr.setCell ⟨g,q,none⟩ (.slice (some ⟨b,o+5,none⟩) nt (cs - 1))).alloc (.cells #[.int .i64 t.kd,.string (S t.nm),.int .i64 t.nu,.slice qn t.ns.length dn,.slice qk t.ks.length dk] 27)):=(HB.out.setCell (p:=⟨g,q,none⟩) (by have:=hwe.size;have:=hW.size;show we.heap.size≤g;omega) _).alloc (by have:=HB.out.size;simpa using this) _
      obtain ⟨fn',tmps',assign',body',hy,hR⟩:=HY.out pre ⟨_,hx⟩ _ hJV hlen
      simp only [encP,cs5] at hy
      rw [show ((q+2:Nat):Int)=(q:Int)+1+1 by omega] at hy
      have HR2:=zz hR
      have HRV:=zz rowV
      have HXV:=zz boxV
      have HBV:=zz BV
      clear hR rowV boxV BV hJV hg1
      gi_wp2_with fail
      refine HR2.out.mono ?_
      rintro e' Z (⟨rfl,hJZ,hkZ⟩ | ⟨rfl,hJxZ⟩)
      ·have rowZ:=kp_row hkZ hW.size HRV.out
       have boxZ:=hkZ.hold (k:=wr.heap.size) (by have:=hW.size;omega) HXV.out
       have d4:=boxZ.cell 4
       simp only [lGA,lGS,lGZ] at d4
       have hZs:wr.heap.size+1≤Z.heap.size:=by have:=hkZ.1.size;simpa using this
       have BZ:=HBV.out.trans hkZ.1
       have HJZ:=zz hJZ
       have HRZ:=zz rowZ
       have HBZ:=zz BZ
       clear hkZ boxZ BZ hJZ
       gi_wp2_with (gi_at_builtin;refine wpListIn_append_own _ rfl _ _ 193 rfl W.heap.size 25 i0 (.slice none 0 0) 1 24 Tryz.underlying193 hi hz0 hz1 hz2 rfl (by decide) _ _ _ rfl (rowZ.alloc _) ⟨Z.heap.size,0,none⟩ 1 1 [.slice qk t.ks.length dk] rfl rfl (cell_one_new _ _ _) (by simp [Value.oneCell']) (by unfold maxLen;omega) (by omega) (by simp;omega) ?_;intro v' w2 hown2 hgrow0 _;have hgrow:(Z.alloc (.cells #[.slice qk t.ks.length dk] 25)).grownBy w2 (Value.slice (some ⟨g,0,none⟩) (q+1) c).ownBlock:=hgrow0;clear hgrow0;obtain ⟨ao,cc,rfl⟩:=slice_of hown2)
       have hR:ptR P we e W.heap.size J (2 * (remS ((qk,dk,t.ks) :: ((some ⟨b,o+5,none⟩:Option Addr),cs - 1,ts) :: r)).length+(r.length+2)) (.slice ao (q+1+1) cc) w2:=by
        refine ⟨pre ++ [⟨_,hx⟩],(qk,dk,t.ks) :: ((some ⟨b,o+5,none⟩:Option Addr),cs - 1,ts) :: r,ao,cc,rfl,by rw [← HQ.out];rfl,?_,?_,?_,?_,?_,?_,?_⟩
        ·have e1:((qk,dk,t.ks) :: ((some ⟨b,o+5,none⟩:Option Addr),cs - 1,ts) :: r).length=q+1+1:=by rw [← HQ.out];rfl
         have e2:((qk,dk,t.ks) :: ((some ⟨b,o+5,none⟩:Option Addr),cs - 1,ts) :: r).reverse.map seV=((((some ⟨b,o,none⟩,cs,t :: ts) :: r).reverse.map seV).set q (.slice (some ⟨b,o+5,none⟩) nt (cs - 1))) ++ [.slice qk t.ks.length dk]:=by
          have e3:(r.reverse.map seV).length=q:=by rw [← HQ.out];simp
          simp only [List.reverse_cons,List.map_append,List.map_cons,List.map_nil,List.append_assoc,List.cons_append,List.nil_append]
          rw [List.set_append,if_neg (by omega),e3,Nat.sub_self]
          simp [seV,HNT.out]
         rw [e1,e2];exact hown2
        ·intro x hx'
         rcases List.mem_cons.1 hx' with rfl | hx'
         ·obtain ⟨_,_,pk2,ck2,hc2,_,_,_,h5,_,h7⟩:=(TrIn_iff _ _ _ _).1 HIN.out
          simp at hc2
          obtain ⟨rfl,rfl⟩:qk=pk2∧dk=ck2:=⟨hc2.2.1,hc2.2.2⟩
          exact ⟨h5,h7⟩
         ·rcases List.mem_cons.1 hx' with rfl | hx'
          ·exact ⟨⟨by have h1:=HSLO.out.1;have h2:=HNT.out;show ts.length≤cs - 1;omega,by have h1:=HSLO.out.2.1;show cs - 1≤_;omega,fun h=>by cases h⟩,EM.tl HEM.out⟩
          ·exact HOK.out x (List.mem_cons_of_mem _ hx')
        ·have h1:=HPRE.out
         simp only [remS,List.flatMap_cons,List.length_cons] at h1 ⊢
         rw [po_eq t,HQ.out] at h1
         rw [HQ.out,← h1]
         simp [bareP]
        ·refine HJ.out _ _ _ _ (HJ.out _ _ _ none HJZ.out (World.grownBy_alloc Z _ none) (fun r e=>by cases e)) hgrow (fun r e=>?_)
         have e2:g=r:=by simpa [Value.ownBlock] using e
         omega
        ·exact (HBZ.out.alloc (by have:=HBZ.out.size;omega) _).trans (below_row (base_mono (rowZ.alloc _) (by have:=hwe.size;have:=hW.size;omega)) (by simp;have:=HBZ.out.size;omega) hgrow)
        ·have:=hgrow.size;simp at this;omega
        ·show r.length+2≤1000001
         rw [HQ.out]
         have:=(hD _ hmem).1
         simp at this;omega
       refine ⟨⟨_,hR⟩,?_⟩
       have h1:=(HMU.out _ _ ⟨_,hR⟩).2 _ hR
       have h2:=HKK.out
       have h3:=HMM.out
       have h4:(remS ((some ⟨b,o,none⟩,cs,t :: ts) :: r)).length=(remS ((qk,dk,t.ks) :: ((some ⟨b,o+5,none⟩:Option Addr),cs - 1,ts) :: r)).length+1:=by
        simp only [remS,List.flatMap_cons,po_eq t,List.length_append,List.length_cons,Nat.add_assoc,Nat.reduceAdd]
        omega
       rw [h4] at h2
       rw [HQ.out] at h1
       rw [h3,h2]
       omega
      ·have HJX:=zz hJxZ
       clear hJxZ
       gi_wp2_with fail
       refine bodyPost_ret (results_none rfl _ _ _) rfl ?_
       refine ⟨⟨_,rfl⟩,.inr ⟨_,?_,HJX.out⟩⟩
       refine ⟨(t.ks.flatMap fun k=>po k (q+3)) ++ ((ts.flatMap fun k=>po k (q+2)) ++ remS r),?_⟩
       rw [← HPRE.out]
       simp only [remS,List.flatMap_cons,po_eq t,HQ.out]
       simp [bareP]
 ·have HJX:=zz hJx3
  clear hJx3
  gi_wp2_with fail
  refine bodyPost_ret (results_none rfl _ _ _) rfl ?_
  exact ⟨⟨_,rfl⟩,.inr ⟨_,⟨_,by rw [hpo];rfl⟩,HJX.out⟩⟩
end Go.Proofs.YtcnnlecjdkfdjaaGreatDoor
