/- RegInv: the texts of these names, of which the claim is made. -/
import Derived.Test.YtcnnlecjdkfdjaaGreatDoorArms
import Derived.Test.YtcnnlecjdkfdjaaGreatDoorAl
set_option linter.unusedVariables false
set_option linter.unusedSimpArgs false
set_option maxRecDepth 100000
set_option maxHeartbeats 8000000
namespace Go.Proofs.YtcnnlecjdkfdjaaGreatDoor
open Go.RowKit
theorem undone_zero {ls:Array Bool} (h:ls.toList.count false=0) (i:Nat) (hi:i<ls.size):ls.getD i true=true:=by
 have h1:false ∉ ls.toList:=List.count_eq_zero.1 h
 rw [Array.getD_eq_getD_getElem?,Array.getElem?_eq_getElem hi,Option.getD_some]
 cases hx:ls[i]
 ·exact absurd (hx ▸ (by simp:ls[i] ∈ ls.toList)) h1
 ·rfl
theorem undone_set {ls:Array Bool} {i:Nat} (h:ls.getD i true=false):(ls.setIfInBounds i true).toList.count false+1=ls.toList.count false:=by
 have hi:i<ls.size:=by
  apply Classical.byContradiction
  intro hn
  rw [Array.getD_eq_getD_getElem?,Array.getElem?_eq_none (by omega)] at h
  cases h
 obtain ⟨l⟩:=ls
 simp only [lSI]
 simp only [List.size_toArray] at hi
 have hx:l[i]=false:=by
  rw [Array.getD_eq_getD_getElem?] at h
  simpa [List.getElem?_eq_getElem hi] using h
 clear h
 induction l generalizing i with
 | nil=>simp at hi
 | cons a r ih=>
  cases i with
  | zero=>
   simp only [List.getElem_cons_zero] at hx
   subst hx
   simp
  | succ i=>
   simp only [List.getElem_cons_succ] at hx
   simp only [List.length_cons] at hi
   have:=ih (i:=i) (by omega) hx
   simp only [lSS,List.count_cons]
   omega
def waitsBack (ops:Array Oper):Bool:=(List.range ops.size).all fun i=>((ops[i]?).map fun o=>o.after.all fun e=>!Region.binds .any e || decide (e.on<i)).getD true
theorem back_some {ops:Array Oper} (hb:waitsBack ops=true) {ls:Array Bool} (hs:ls.size=ops.size) (hr:Region.ready .any ops ls=[]):∀ i,i<ops.size→ls.getD i false=true:=by
 intro i
 induction i using Nat.strongRecOn with
 | _ i ih=>
  intro hi
  cases hx:ls.getD i false with
  | true=>rfl
  | false=>
   exfalso
   have h1:ls.getD i true=false:=by
    rw [Array.getD_eq_getD_getElem?,Array.getElem?_eq_getElem (by omega),Option.getD_some] at hx ⊢
    exact hx
   have h2:i ∈ Region.ready .any ops ls:=by
    refine mem_ready.2 ⟨h1,ops[i],Array.getElem?_eq_getElem hi,fun e he hbe=>?_⟩
    have h3:=List.all_eq_true.1 hb i (List.mem_range.2 hi)
    rw [Array.getElem?_eq_getElem hi,Option.map_some,Option.getD_some,Array.all_eq_true_iff_forall_mem] at h3
    have h4:=h3 e he
    rw [hbe] at h4
    have h5:e.on<i:=by simpa using h4
    exact ih e.on h5 (by omega)
   rw [hr] at h2
   cases h2
theorem region_inv (n:Nat) {P:Program} {ops:Array Oper} {Q:Exit→Act→World→Prop} {id:Nat} {a:Act} {w:World} (I:Array Bool→Act→World→Prop)
 (hm:P.follows .mixedOrders=true) (hn:ops.size=n) (hb:waitsBack ops=true) (hz:∀ ls a w,I ls a w→ls.size=n)
 (h0:I (Array.replicate n false) a w.drew)
 (hend:∀ ls a w,I ls a w→(∀ i,i<n→ls.getD i false=true)→Q .normal a w)
 (hstep:∀ (ls:Array Bool) (a:Act) (w:World),I ls a w→∀ i o,ops[i]?=some o→ls.getD i true=false→(∀ e ∈ o.after,Region.binds .any e=true→ls.getD e.on false=true)→wpOp P ops Q i (I (ls.setIfInBounds i true)) a w) :
 (Code.region id ops true).wp P Q a w:=by
 have key:∀ (k:Nat) (ls:Array Bool) (a:Act) (w:World),I ls a w→ls.toList.count false≤k→wpAny P .any ops Q k ls a w:=by
  intro k
  induction k with
  | zero=>
   intro ls a w hI hk
   have hall:∀ i,i<n→ls.getD i false=true:=fun i hi=>by
    have h1:=undone_zero (ls:=ls) (by omega) i (by have:=hz _ _ _ hI;omega)
    rw [Array.getD_eq_getD_getElem?,Array.getElem?_eq_getElem (by have:=hz _ _ _ hI;omega),Option.getD_some] at h1 ⊢
    exact h1
   refine ⟨?_,hend _ _ _ hI hall⟩
   cases hr:Region.ready .any ops ls with
   | nil=>rfl
   | cons i r=>
    have hi:i ∈ Region.ready .any ops ls:=by rw [hr];exact List.mem_cons_self
    obtain ⟨h1,o,h2,_⟩:=mem_ready.1 hi
    have h3:i<ops.size:=(Array.getElem?_eq_some_iff.1 h2).1
    have:=undone_zero (ls:=ls) (by omega) i (by have:=hz _ _ _ hI;omega)
    rw [h1] at this
    cases this
  | succ k ih=>
   intro ls a w hI hk
   refine ⟨fun hr=>hend _ _ _ hI fun i hi=>back_some hb (by rw [hz _ _ _ hI,hn]) hr i (by omega),fun i hi=>?_⟩
   obtain ⟨h1,o,h2,h3⟩:=mem_ready.1 hi
   refine wpOp_mono (fun a' w' h=>ih _ _ _ h ?_) (hstep ls a w hI i o h2 h1 h3)
   have:=undone_set h1
   omega
 exact wp_region_any hm (key _ _ _ _ (by rw [hn];exact h0) (by
  rw [hn]
  simp))
def putsA (a0:Act):List (Option Tmp × Value)→Act
 | []=>a0
 | x :: r=>putsA (a0.put x.1 x.2) r
structure DF (ops:Array Oper) (a0:Act) (val:Nat→Option Value) (a:Act):Prop where
 size:a.tmps.size=a0.tmps.size
 rest:{ a with tmps:=a0.tmps }=a0
 done:∀ i o t v,ops[i]?=some o→o.dst=some t→val i=some v→a.eval (.tmp t)=v
 other:∀ t,(∀ i o v,ops[i]?=some o→val i=some v→o.dst≠some t)→a.tmps[t]?=a0.tmps[t]?
def setV (val:Nat→Option Value) (i:Nat) (v:Value):Nat→Option Value:=fun j=>if j=i then some v else val j
theorem setV_at (val:Nat→Option Value) (i:Nat) (v:Value):setV val i v i=some v:=if_pos rfl
theorem setV_ne (val:Nat→Option Value) {i j:Nat} (v:Value) (h:j≠i):setV val i v j=val j:=if_neg h
def dstsOwn (ops:Array Oper) (n:Nat):Bool:=decide ((ops.toList.filterMap fun o=>o.dst).Nodup) && ops.all fun o=>match o.dst with | some t=>decide (t<n) | none=>true
theorem dst_inj {ops:Array Oper} {n:Nat} (h:dstsOwn ops n=true) {i j:Nat} {o o':Oper} {t:Tmp} (hi:ops[i]?=some o) (hj:ops[j]?=some o') (h1:o.dst=some t) (h2:o'.dst=some t):i=j:=by
 unfold dstsOwn at h
 rw [Bool.and_eq_true,decide_eq_true_eq] at h
 have hn:=h.1
 clear h
 obtain ⟨l⟩:=ops
 simp only [lGA] at hi hj
 simp only at hn
 induction l generalizing i j with
 | nil=>cases hi
 | cons x r ih=>
  have mem:∀ {k:Nat} {q:Oper},r[k]?=some q→q.dst=some t→t ∈ r.filterMap fun o=>o.dst:=fun hk hq=>List.mem_filterMap.2 ⟨_,List.mem_of_getElem? hk,hq⟩
  cases i with
  | zero=>
   cases j with
   | zero=>rfl
   | succ j=>
    cases hi
    rw [List.filterMap_cons,h1] at hn
    exact absurd (mem hj h2) (List.nodup_cons.1 hn).1
  | succ i=>
   cases j with
   | zero=>
    cases hj
    rw [List.filterMap_cons,h2] at hn
    exact absurd (mem hi h1) (List.nodup_cons.1 hn).1
   | succ j=>
    refine congrArg (·+1) (ih ?_ hi hj)
    cases hx:x.dst with
    | none=>rw [List.filterMap_cons,hx] at hn;exact hn
    | some y=>rw [List.filterMap_cons,hx] at hn;exact (List.nodup_cons.1 hn).2
theorem DF.put {ops:Array Oper} {a0 a:Act} {val:Nat→Option Value} (hd:dstsOwn ops a0.tmps.size=true) (h:DF ops a0 val a) {i:Nat} {o:Oper} (hi:ops[i]?=some o) (v:Value):DF ops a0 (setV val i v) (a.put o.dst v):=by
 cases hx:o.dst with
 | none=>
  refine ⟨h.size,h.rest,fun j o' t u hj ht hu=>?_,fun t ht=>h.other t fun j o' u hj hu=>?_⟩
  ·by_cases hji:j=i
   ·subst hji
    rw [hi] at hj
    cases hj
    rw [hx] at ht
    cases ht
   ·rw [setV_ne _ _ hji] at hu
    exact h.done j o' t u hj ht hu
  ·by_cases hji:j=i
   ·subst hji
    rw [hi] at hj
    cases hj
    rw [hx]
    simp
   ·exact ht j o' u hj (by rw [setV_ne _ _ hji];exact hu)
 | some t0=>
  have hlt:t0<a.tmps.size:=by
   rw [h.size]
   unfold dstsOwn at hd
   rw [Bool.and_eq_true] at hd
   have h1:=Array.all_eq_true_iff_forall_mem.1 hd.2 o (Array.mem_of_getElem? hi)
   rw [hx] at h1
   simpa using h1
  refine ⟨by simp [Act.put,h.size],h.rest,fun j o' t u hj ht hu=>?_,fun t ht=>?_⟩
  ·by_cases hji:j=i
   ·subst hji
    rw [hi] at hj
    cases hj
    rw [hx] at ht
    cases ht
    rw [setV_at] at hu
    cases hu
    simp [Act.put,Act.eval,hlt]
   ·rw [setV_ne _ _ hji] at hu
    have h1:=h.done j o' t u hj ht hu
    have hne:t0≠t:=fun e=>hji (dst_inj hd hj hi ht (by rw [hx,e]))
    unfold Act.eval at h1 ⊢
    simp only [Act.put,Array.getD_eq_getD_getElem?,Array.getElem?_setIfInBounds_ne hne] at h1 ⊢
    exact h1
  ·have hne:t0≠t:=fun e=>ht i o v hi (setV_at _ _ _) (by rw [hx,e])
   simp only [Act.put,Array.getElem?_setIfInBounds_ne hne]
   refine h.other t fun j o' u hj hu=>?_
   by_cases hji:j=i
   ·subst hji
    rw [hi] at hj
    cases hj
    rw [hx]
    simpa using hne
   ·exact ht j o' u hj (by rw [setV_ne _ _ hji];exact hu)
theorem putsA_size (l:List (Option Tmp × Value)):∀ a0:Act,(putsA a0 l).tmps.size=a0.tmps.size:=by
 induction l with
 | nil=>intro a0;rfl
 | cons x r ih=>
  intro a0
  show (putsA (a0.put x.1 x.2) r).tmps.size=_
  rw [ih]
  unfold Act.put
  cases x.1 <;> simp
theorem putsA_rest (l:List (Option Tmp × Value)):∀ a0:Act,{ putsA a0 l with tmps:=a0.tmps }=a0:=by
 induction l with
 | nil=>intro a0;rfl
 | cons x r ih=>
  intro a0
  have h:=ih (a0.put x.1 x.2)
  show { putsA (a0.put x.1 x.2) r with tmps:=a0.tmps }=_
  unfold Act.put at h ⊢
  cases hx:x.1 with
  | none=>rw [hx] at h;exact h
  | some t=>
   rw [hx] at h
   simp only at h ⊢
   have:=congrArg (fun a:Act=>{ a with tmps:=a0.tmps }) h
   exact this
theorem putsA_other (l:List (Option Tmp × Value)) (t:Tmp):∀ a0:Act,(∀ x ∈ l,x.1≠some t)→(putsA a0 l).tmps[t]?=a0.tmps[t]?:=by
 induction l with
 | nil=>intro a0 _;rfl
 | cons x r ih=>
  intro a0 h
  show (putsA (a0.put x.1 x.2) r).tmps[t]?=_
  rw [ih _ fun y hy=>h y (List.mem_cons_of_mem _ hy)]
  have h1:=h x List.mem_cons_self
  unfold Act.put
  cases hx:x.1 with
  | none=>rfl
  | some s=>
   rw [hx] at h1
   have hne:s≠t:=fun e=>h1 (by rw [e])
   simp [Array.getElem?_setIfInBounds_ne hne]
theorem putsA_at (l:List (Option Tmp × Value)) (t:Tmp) (v:Value):∀ a0:Act,t<a0.tmps.size→(∃ x ∈ l,x.1=some t)→(∀ x ∈ l,x.1=some t→x.2=v)→(putsA a0 l).tmps[t]?=some v:=by
 induction l with
 | nil=>intro a0 _ ⟨x,hx,_⟩;cases hx
 | cons x r ih=>
  intro a0 hlt hex hv
  show (putsA (a0.put x.1 x.2) r).tmps[t]?=_
  have hs:t<(a0.put x.1 x.2).tmps.size:=by unfold Act.put;cases x.1 <;> simpa using hlt
  by_cases hr:∃ y ∈ r,y.1=some t
  ·exact ih _ hs hr fun y hy=>hv y (List.mem_cons_of_mem _ hy)
  ·rw [putsA_other r t _ fun y hy he=>hr ⟨y,hy,he⟩]
   obtain ⟨y,hy,he⟩:=hex
   rcases List.mem_cons.1 hy with rfl | hy
   ·rw [← hv y List.mem_cons_self he,he]
    simp [Act.put,hlt]
   ·exact absurd ⟨y,hy,he⟩ hr
theorem DF.all {ops:Array Oper} {a0 a:Act} {val:Nat→Option Value} (hd:dstsOwn ops a0.tmps.size=true) (h:DF ops a0 val a) (vs:List Value) (hn:vs.length=ops.size) (hv:∀ i,i<ops.size→val i=vs[i]?):a=putsA a0 ((ops.toList.map fun o=>o.dst).zip vs):=by
 have hz:∀ x ∈ (ops.toList.map fun o=>o.dst).zip vs,∃ i o,ops[i]?=some o∧o.dst=x.1∧val i=some x.2:=by
  intro x hx
  obtain ⟨i,hi,e⟩:=List.mem_iff_getElem.1 hx
  have hlen:((ops.toList.map fun o=>o.dst).zip vs).length=ops.size:=by simp [hn]
  have hi2:i<ops.size:=by omega
  rw [List.getElem_zip] at e
  refine ⟨i,ops[i],Array.getElem?_eq_getElem hi2,?_,?_⟩
  ·rw [← e];simp
  ·rw [hv i hi2,← e]
   exact List.getElem?_eq_getElem _
 have hzz:∀ i o,ops[i]?=some o→∀ v,val i=some v→(o.dst,v) ∈ (ops.toList.map fun o=>o.dst).zip vs:=by
  intro i o hi v hval
  have hi2:i<ops.size:=(Array.getElem?_eq_some_iff.1 hi).1
  rw [hv i hi2] at hval
  refine List.mem_iff_getElem?.2 ⟨i,?_⟩
  rw [List.getElem?_zip_eq_some]
  refine ⟨?_,hval⟩
  rw [List.getElem?_map,Array.getElem?_toList,hi]
  rfl
 have hsz:(putsA a0 ((ops.toList.map fun o=>o.dst).zip vs)).tmps.size=a.tmps.size:=by rw [putsA_size,h.size]
 have ht:a.tmps=(putsA a0 ((ops.toList.map fun o=>o.dst).zip vs)).tmps:=by
  apply Array.ext_getElem?
  intro t
  by_cases hx:∃ i o v,ops[i]?=some o∧val i=some v∧o.dst=some t
  ·obtain ⟨i,o,v,h1,h2,h3⟩:=hx
   have h4:=h.done i o t v h1 h3 h2
   have hlt:t<a0.tmps.size:=by
    unfold dstsOwn at hd
    rw [Bool.and_eq_true] at hd
    have h1:=Array.all_eq_true_iff_forall_mem.1 hd.2 o (Array.mem_of_getElem? h1)
    rw [h3] at h1
    simpa using h1
   rw [putsA_at _ t v a0 hlt ⟨(o.dst,v),hzz i o h1 v h2,h3⟩ fun x hx hxt=>?_]
   ·unfold Act.eval at h4
    simp only at h4
    rw [Array.getD_eq_getD_getElem?,Array.getElem?_eq_getElem (by rw [h.size];exact hlt),Option.getD_some] at h4
    rw [Array.getElem?_eq_getElem (by rw [h.size];exact hlt),h4]
   ·obtain ⟨j,o',k1,k2,k3⟩:=hz x hx
    have:j=i:=dst_inj hd k1 h1 (k2.trans hxt) h3
    subst this
    rw [h2] at k3
    exact (Option.some.inj k3).symm
  ·rw [putsA_other _ t a0 fun x hxm hxt=>?_]
   ·exact h.other t fun i o v h1 h2 h3=>hx ⟨i,o,v,h1,h2,h3⟩
   ·obtain ⟨j,o',k1,k2,k3⟩:=hz x hxm
    exact hx ⟨j,o',x.2,k1,k3,k2.trans hxt⟩
 have h1:=h.rest
 have h2:=putsA_rest ((ops.toList.map fun o=>o.dst).zip vs) a0
 cases a
 generalize putsA a0 ((ops.toList.map fun o=>o.dst).zip vs)=b at *
 cases b
 simp only at ht
 subst ht
 have h3:=h1.trans h2.symm
 simp only [Act.mk.injEq,true_and] at h3 ⊢
 first | exact h3 | (simp_all)
def waitsFor (ops:Array Oper) (i j:Nat):Bool:=((ops[i]?).map fun o=>o.after.any fun e=>Region.binds .any e && e.on == j).getD false
theorem DF.at {ops:Array Oper} {a0 a:Act} {val:Nat→Option Value} (h:DF ops a0 val a) (i:Nat) {v:Value} (hv:val i=some v) (t:Tmp) (ht:(ops[i]?).bind (·.dst)=some t:=by kernel_rfl):a.eval (.tmp t)=v:=by
 obtain ⟨o,h1,h2⟩:=Option.bind_eq_some_iff.1 ht
 exact h.done i o t v h1 h2 hv
theorem DF.was {ops:Array Oper} {a0 a:Act} {val:Nat→Option Value} (h:DF ops a0 val a) (t:Tmp) (ht:(ops.all fun o=>o.dst != some t)=true:=by kernel_rfl):a.eval (.tmp t)=a0.eval (.tmp t):=by
 have:=h.other t fun i o v hi _ e=>by
  have h1:=Array.all_eq_true_iff_forall_mem.1 ht o (Array.mem_of_getElem? hi)
  rw [e] at h1
  simp at h1
 unfold Act.eval
 simp only [Array.getD_eq_getD_getElem?,this]
theorem region_df (n:Nat) {P:Program} {ops:Array Oper} {Q:Exit→Act→World→Prop} {id:Nat} {a0:Act} {w:World} (F:(Nat→Option Value)→World→Prop)
 (hm:P.follows .mixedOrders=true) (hn:ops.size=n) (hb:waitsBack ops=true) (hd:dstsOwn ops a0.tmps.size=true)
 (h0:F (fun _=>none) w.drew)
 (hend:∀ (vs:List Value) (w':World),vs.length=n→F (fun i=>vs[i]?) w'→Q .normal (putsA a0 ((ops.toList.map fun o=>o.dst).zip vs)) w')
 (hstep:∀ (i:Nat),i<n→∀ (val:Nat→Option Value) (w:World) (a:Act),F val w→val i=none→(∀ j,waitsFor ops i j=true→∃ v,val j=some v)→DF ops a0 val a→wpOp P ops Q i (fun a' w'=>∃ v,a'=a.put ((ops[i]?).bind (·.dst)) v∧F (setV val i v) w') a w)
 (hfar:∀ val w,F val w→∀ val',(∀ i,i<n→val' i=val i)→F val' w) :
 (Code.region id ops true).wp P Q a0 w:=by
 refine region_inv n (fun ls a w=>ls.size=n∧∃ val:Nat→Option Value,(∀ i,ls.getD i false=(val i).isSome)∧DF ops a0 val a∧F val w) hm hn hb (fun _ _ _ h=>h.1) ?_ ?_ ?_
 ·refine ⟨by simp,fun _=>none,fun i=>?_,⟨rfl,rfl,fun i o t v _ _ h=>(by cases h),fun t _=>rfl⟩,h0⟩
  rw [Array.getD_eq_getD_getElem?,Array.getElem?_replicate]
  split <;> rfl
 ·rintro ls a w ⟨hs,val,hv,hD,hF⟩ hall
  have hsome:∀ i,i<n→(val i).isSome=true:=fun i hi=>by rw [← hv];exact hall i hi
  have hvv:∀ i,i<n→val i=((List.range n).map fun i=>(val i).getD undef)[i]?:=fun i hi=>by
   rw [List.getElem?_map,List.getElem?_range hi]
   obtain ⟨v,hx⟩:=Option.isSome_iff_exists.1 (hsome i hi)
   rw [Option.map_some,hx]
   rfl
  rw [hD.all hd ((List.range n).map fun i=>(val i).getD undef) (by simp [hn]) fun i hi=>hvv i (by omega)]
  exact hend _ _ (by simp) (hfar _ _ hF _ fun i hi=>(hvv i hi).symm)
 ·rintro ls a w ⟨hs,val,hv,hD,hF⟩ i o hi h1 h2
  have hin:i<ls.size:=by rw [hs,← hn];exact (Array.getElem?_eq_some_iff.1 hi).1
  have hnone:val i=none:=by
   have h3:ls.getD i false=false:=by
    rw [Array.getD_eq_getD_getElem?,Array.getElem?_eq_getElem hin,Option.getD_some] at h1 ⊢
    exact h1
   have:=hv i
   rw [h3] at this
   cases hx:val i with
   | none=>rfl
   | some v=>rw [hx] at this;cases this
  have hdep:∀ j,waitsFor ops i j=true→∃ v,val j=some v:=fun j hj=>by
   unfold waitsFor at hj
   rw [hi,Option.map_some,Option.getD_some] at hj
   obtain ⟨k,hk,e⟩:=Array.any_eq_true.1 hj
   rw [Bool.and_eq_true,beq_iff_eq] at e
   obtain ⟨e1,e2⟩:=e
   have:=h2 _ (Array.getElem_mem hk) e1
   rw [e2,hv] at this
   exact Option.isSome_iff_exists.1 this
  refine wpOp_mono (fun a' w' h=>?_) (hstep i (by omega) val w a hF hnone hdep hD)
  obtain ⟨v,rfl,h4⟩:=h
  refine ⟨by simpa using hs,setV val i v,fun j=>?_,by rw [hi];exact hD.put hd hi v,h4⟩
  by_cases hji:j=i
  ·subst hji
   rw [setV_at]
   simp [Array.getD_eq_getD_getElem?,hin]
  ·rw [setV_ne _ _ hji,← hv]
   simp [Array.getD_eq_getD_getElem?,Array.getElem?_setIfInBounds_ne (Ne.symm hji)]
end Go.Proofs.YtcnnlecjdkfdjaaGreatDoor
