/- Parts of the proof. -/
import Derived.Test.YtcnnlecjdkfdjaaGreatDoorParts2
import Derived.Test.YtcnnlecjdkfdjaaGreatDoorWhole
set_option linter.unusedVariables false
set_option linter.unusedSimpArgs false
set_option maxRecDepth 100000
set_option maxHeartbeats 8000000
namespace Go.Proofs.YtcnnlecjdkfdjaaGreatDoor
open Go.RowKit Go.Shelf
attribute [local go_sem] Oper.semAt_some
def kidsN (l:List (Nat × Tr)):Nat:=(l.map fun x=>x.2.ks.length).sum
def goC:Nat→List (Nat × Tr)→Bool
 | _,[]=>true
 | z,x :: r=>decide (x.1≤30) && decide (z+x.2.ks.length≤1000) && soundM x.2 && goC (z+x.2.ks.length) r
theorem goC_app (l:List (Nat × Tr)):∀ z r,goC z (l ++ r)=(goC z l && goC (z+kidsN l) r):=by
 induction l with
 | nil=>intro z r;simp [goC,kidsN]
 | cons x l ih=>
  intro z r
  simp only [List.cons_append,goC,ih,kidsN,List.map_cons,List.sum_cons]
  rw [show z+(x.2.ks.length+(l.map fun x=>x.2.ks.length).sum)=z+x.2.ks.length+(l.map fun x=>x.2.ks.length).sum by omega]
  simp only [Bool.and_assoc]
theorem goC_bad (l r:List (Nat × Tr)) (z:Nat) (h:goC z l=false):goC z (l ++ r)=false:=by rw [goC_app,h];rfl
theorem goC_le {l:List (Nat × Tr)} {z:Nat} (h:goC z l=true):kidsN l≤1000:=by
 have key:∀ (l:List (Nat × Tr)) z,goC z l=true→l=[]∨z+kidsN l≤1000:=by
  intro l
  induction l with
  | nil=>intro z _;exact .inl rfl
  | cons x r ih=>
   intro z h
   simp only [goC,Bool.and_eq_true,decide_eq_true_eq] at h
   right
   rcases ih _ h.2 with rfl | h2
   ·simp [kidsN];omega
   ·simp only [kidsN,List.map_cons,List.sum_cons] at h2 ⊢;omega
 rcases key l z h with rfl | h2
 ·simp [kidsN]
 ·omega
def checkM (e:Tr):Bool:=!(e.kd == 8 || e.kd == 13) && goC 1 (po e 1)
theorem parts_call (n:Nat) (e:Tr) (pn:Option Addr) (cn:Nat) (pk:Option Addr) (ck:Nat) (w:World):CallsIn Fence.wide n Tryz.prog 123 #[.agg (cs5 e pn cn pk ck)] w fun r w'=>r=.returned (.func (.func 181) #[] #[.pointer (some ⟨w.heap.size,0,none⟩)])∧w'=w.alloc (.cells (cs5 e pn cn pk ck) 27):=by
 refine callsIn_of_wp Tryz.func123 rfl trivial ?_ rfl
 simp only [Tryz.ntmps123,List.size_toArray,List.length_cons,List.length_nil,Nat.reduceAdd,Nat.reduceSub,Array.replicate_succ,Array.replicate_zero,List.push_toArray,List.append_toArray,List.nil_append,List.cons_append]
 unfold cs5
 gi_wp2
 go_ret
 exact ⟨rfl,rfl⟩
theorem yes_any (k:Int) (w:World):Calls Tryz.prog 65 #[.int .i64 k] w fun r w'=>r=.returned (.bool true)∧w'=w:=by
 go_enter Tryz.func65,Tryz.ntmps65
 go_wp2
 go_ret
 exact ⟨rfl,rfl⟩
theorem own_hold {k B:Nat} {C:Array Value} {t:TypeId} {W W':World} {row:Option Nat} (h:Hold k C t W) (hg:W.grownBy W' row) (hr:∀ r,row=some r→B≤r) (hk:k<B):Hold k C t W':=(hg.block k h.lt (fun e=>by have:=hr k e.symm;omega)).trans h
theorem own_below {n B:Nat} {w W W':World} {row:Option Nat} (h:Below n w W) (hg:W.grownBy W' row) (hr:∀ r,row=some r→B≤r) (hn:n≤B) (hs:n≤W.heap.size):Below n w W':=h.trans ⟨hg.os,hg.tape,hg.output,hg.size,fun k hk=>hg.block k (by omega) (fun e=>by have:=hr k e.symm;omega)⟩
theorem hold_putP {k l:Nat} {C:Array Value} {t:TypeId} {W:World} {o:Obj} (h:Hold k C t W) (o':Obj) (hl:W.heap[l]?=some o) (ho:o.isCells=false):Hold k C t (W.putObj l o'):=by
 refine ((grownBy_putObj' W l o').block k h.lt (fun e=>?_)).trans h
 have e':k=l:=by simpa using e
 subst e'
 rw [show W.heap[k]?=_ from h] at hl
 cases hl
 simp [Obj.isCells] at ho
theorem kf_of {B:Nat} {X Y:World} {Q:Nat→Prop} (h:KP (fun k=>k<X.heap.size∧¬ Q k) X Y) (hQ:∀ k,Q k→k<B):KeepsFrom B X Y:=⟨h.size,fun k o hB hk ho=>(h.block k ⟨(Array.getElem?_eq_some_iff.1 hk).1,fun hq=>by have:=hQ k hq;omega⟩).trans hk⟩
theorem kp_of {n B s:Nat} {X Y:World} {Q:Nat→Prop} (h:KP (fun k=>k<X.heap.size∧¬ Q k) X Y) (hQ:∀ k,Q k→k<B∧n≤k∧k≠s) (hn:n≤X.heap.size) (hs:s<X.heap.size):KpB n B s X Y:=
 ⟨⟨h.os,h.tape,h.output,h.size,fun k hk=>h.block k ⟨by omega,fun hq=>by have:=(hQ k hq).2.1;omega⟩⟩,h.block s ⟨hs,fun hq=>(hQ s hq).2.2 rfl⟩,fun k C t f hb hk=>(h.block k ⟨(Array.getElem?_eq_some_iff.1 hk).1,fun hq=>by have:=(hQ k hq).1;omega⟩).trans hk⟩
theorem may_in {n:Nat} (hn:8≤n) {P:Nat→Prop} {w:World} {e:Tr} {pn:Option Addr} {cn:Nat} {pk:Option Addr} {ck:Nat} (hP:∀ b,P b→b<w.heap.size) (hE:TrIn P w e [.int .i64 e.kd,.string (S e.nm),.int .i64 e.nu,.slice pn e.ns.length cn,.slice pk e.ks.length ck]) (hD:∀ x ∈ po e 1,x.1≤1000000∧x.2.ks.length≤1000000) :
 CallsIn Fence.wide n Tryz.prog 64 #[.agg (cs5 e pn cn pk ck),.func (.func 65) #[] #[]] w fun r w'=>r=.returned (.bool (checkM e))∧Below w.heap.size w w':=by
 have h1:1≤n:=by omega
 refine callsIn_of_wp_marks Tryz.func64 rfl trivial ?_ rfl
 simp only [Tryz.ntmps64,List.size_toArray,List.length_cons,List.length_nil,Nat.reduceAdd,Nat.reduceSub,Array.replicate_succ,Array.replicate_zero,List.push_toArray,List.append_toArray,List.nil_append,List.cons_append]
 cases hk:(e.kd == 8 || e.kd == 13)
 ·have hk8:¬ e.kd=8:=by simp at hk;exact hk.1
  have hk13:¬ e.kd=13:=by simp at hk;exact hk.2
  unfold cs5
  gi_wp2_with fail
  refine ⟨trivial,(parts_call (n - 1) e pn cn pk ck _).mono ?_⟩
  rintro r w' ⟨rfl,rfl⟩
  unfold cs5
  gi_wp2_with fail
  have A1:=(((Hold.new (w.alloc (.cells #[.int .i64 e.kd,.string (S e.nm),.int .i64 e.nu,.slice pn e.ns.length cn,.slice pk e.ks.length ck] 27)) #[.func (.func 65) #[] #[]] 103).alloc (.cells #[.bool false] 4)).alloc (.cells #[.int .i64 1] 3)).alloc (.cells #[.int .i64 e.kd,.string (S e.nm),.int .i64 e.nu,.slice pn e.ns.length cn,.slice pk e.ks.length ck] 27)
  have A2:=((Hold.new ((w.alloc (.cells #[.int .i64 e.kd,.string (S e.nm),.int .i64 e.nu,.slice pn e.ns.length cn,.slice pk e.ks.length ck] 27)).alloc (.cells #[.func (.func 65) #[] #[]] 103)) #[.bool false] 4).alloc (.cells #[.int .i64 1] 3)).alloc (.cells #[.int .i64 e.kd,.string (S e.nm),.int .i64 e.nu,.slice pn e.ns.length cn,.slice pk e.ks.length ck] 27)
  have A3:=(Hold.new (((w.alloc (.cells #[.int .i64 e.kd,.string (S e.nm),.int .i64 e.nu,.slice pn e.ns.length cn,.slice pk e.ks.length ck] 27)).alloc (.cells #[.func (.func 65) #[] #[]] 103)).alloc (.cells #[.bool false] 4)) #[.int .i64 1] 3).alloc (.cells #[.int .i64 e.kd,.string (S e.nm),.int .i64 e.nu,.slice pn e.ns.length cn,.slice pk e.ks.length ck] 27)
  have A4:=Hold.new ((((w.alloc (.cells #[.int .i64 e.kd,.string (S e.nm),.int .i64 e.nu,.slice pn e.ns.length cn,.slice pk e.ks.length ck] 27)).alloc (.cells #[.func (.func 65) #[] #[]] 103)).alloc (.cells #[.bool false] 4)).alloc (.cells #[.int .i64 1] 3)) #[.int .i64 e.kd,.string (S e.nm),.int .i64 e.nu,.slice pn e.ns.length cn,.slice pk e.ks.length ck] 27
  have AB:Below w.heap.size w (((((w.alloc (.cells #[.int .i64 e.kd,.string (S e.nm),.int .i64 e.nu,.slice pn e.ns.length cn,.slice pk e.ks.length ck] 27)).alloc (.cells #[.func (.func 65) #[] #[]] 103)).alloc (.cells #[.bool false] 4)).alloc (.cells #[.int .i64 1] 3)).alloc (.cells #[.int .i64 e.kd,.string (S e.nm),.int .i64 e.nu,.slice pn e.ns.length cn,.slice pk e.ks.length ck] 27)):=(((((Below.refl _ w).alloc (Nat.le_refl _) _).alloc (by simp) _).alloc (by simp;omega) _).alloc (by simp;omega) _).alloc (by simp;omega) _
  have AZ:((((((w.alloc (.cells #[.int .i64 e.kd,.string (S e.nm),.int .i64 e.nu,.slice pn e.ns.length cn,.slice pk e.ks.length ck] 27)).alloc (.cells #[.func (.func 65) #[] #[]] 103)).alloc (.cells #[.bool false] 4)).alloc (.cells #[.int .i64 1] 3)).alloc (.cells #[.int .i64 e.kd,.string (S e.nm),.int .i64 e.nu,.slice pn e.ns.length cn,.slice pk e.ks.length ck] 27))).heap.size=w.heap.size+1+1+1+1+1:=by simp
  simp only [World.size_alloc] at A1 A2 A3 A4
  generalize (((((w.alloc (.cells #[.int .i64 e.kd,.string (S e.nm),.int .i64 e.nu,.slice pn e.ns.length cn,.slice pk e.ks.length ck] 27)).alloc (.cells #[.func (.func 65) #[] #[]] 103)).alloc (.cells #[.bool false] 4)).alloc (.cells #[.int .i64 1] 3)).alloc (.cells #[.int .i64 e.kd,.string (S e.nm),.int .i64 e.nu,.slice pn e.ns.length cn,.slice pk e.ks.length ck] 27))=W0 at *
  obtain ⟨bA,hbA⟩:∃ b,b=w.heap.size+1:=⟨_,rfl⟩
  obtain ⟨bR,hbR⟩:∃ b,b=w.heap.size+1+1:=⟨_,rfl⟩
  obtain ⟨bS,hbS⟩:∃ b,b=w.heap.size+1+1+1:=⟨_,rfl⟩
  obtain ⟨bP,hbP⟩:∃ b,b=w.heap.size+1+1+1+1:=⟨_,rfl⟩
  rw [← hbA] at A1
  rw [← hbR] at A2
  rw [← hbS] at A3
  rw [← hbP] at A4
  rw [← hbP,← hbS,← hbR,← hbA]
  have o1:w.heap.size<bA:=by omega
  have o2:bA<bR:=by omega
  have o3:bR<bS:=by omega
  have o4:bS<bP:=by omega
  have o5:bP<W0.heap.size:=by omega
  clear hbA hbR hbS hbP AZ
  have HWE:=zz AB
  refine range_cells h1 (gf:=181) (lb:=#[.pointer (some ⟨bP,0,none⟩)]) rfl (enters_of Tryz.func181 (by kernel_rfl) rfl)
   (parts_it (n:=n - 1) (by omega) hP hE hD A4.lt A4 AB) KpB.trans (KpB.put AB.size A4.lt) (fun _=>rfl)
   (fun pre W=>goC 1 (pre.map bareP)=true∧Hold bS #[.int .i64 ((1+kidsN (pre.map bareP):Nat):Int)] 3 W∧Hold bR #[.bool false] 4 W∧Hold bA #[.func (.func 65) #[] #[]] 103 W∧Below w.heap.size w W∧W0.heap.size≤W.heap.size)
   (fun pre W=>goC 1 (pre.map bareP)=false∧Hold bR #[.bool false] 4 W∧Below w.heap.size w W∧W0.heap.size≤W.heap.size)
   (fun s A B row hs hg hr=>⟨hs.1,own_hold hs.2.1 hg hr (by omega),own_hold hs.2.2.1 hg hr (by omega),own_hold hs.2.2.2.1 hg hr (by omega),own_below hs.2.2.2.2.1 hg hr (by omega) (by omega),Nat.le_trans hs.2.2.2.2.2 hg.size⟩)
   (fun s A B row hs hg hr=>⟨hs.1,own_hold hs.2.1 hg hr (by omega),own_below hs.2.2.1 hg hr (by omega) (by omega),Nat.le_trans hs.2.2.2 hg.size⟩)
   ⟨rfl,A3,A2,A1,AB,Nat.le_refl _⟩
   (fun x W=>{ tmps:=#[.agg #[.int .i64 e.kd,.string (S e.nm),.int .i64 e.nu,.slice pn e.ns.length cn,.slice pk e.ks.length ck],.func (.func 65) #[] #[],.pointer (some ⟨w.heap.size,0,none⟩),.pointer (some ⟨bA,0,none⟩),.pointer (some ⟨bR,0,none⟩),.pointer (some ⟨bS,0,none⟩),.int .i64 x.1.lv,.pointer (some ⟨W.heap.size,0,none⟩),.pointer (some ⟨w.heap.size,0,none⟩),.int .i64 e.kd,.bool (e.kd == 8),.bool (e.kd == 8),.pointer (some ⟨w.heap.size,0,none⟩),.int .i64 e.kd,.bool (e.kd == 13),.bool false,.agg #[.int .i64 e.kd,.string (S e.nm),.int .i64 e.nu,.slice pn e.ns.length cn,.slice pk e.ks.length ck],.func (.func 181) #[] #[.pointer (some ⟨bP,0,none⟩)],.int .i64 x.1.lv,.agg #[.int .i64 x.1.t.kd,.string (S x.1.t.nm),.int .i64 x.1.t.nu,.slice x.1.pn x.1.t.ns.length x.1.cn,.slice x.1.pk x.1.t.ks.length x.1.ck],undef,undef,undef,undef,undef,undef,undef,undef,undef,undef,undef,undef,undef,undef,undef,undef,undef,undef,undef,undef,undef,undef,undef],defers:=[] })
   (fun x W=>W.alloc (.cells #[.int .i64 x.1.t.kd,.string (S x.1.t.nm),.int .i64 x.1.t.nu,.slice x.1.pn x.1.t.ns.length x.1.cn,.slice x.1.pk x.1.t.ks.length x.1.ck] 27))
   (fun x W hWs=>⟨World.grownBy_alloc W _ none,?_⟩) ?_ ?_ ?_ ?_
  ·exact ⟨(Below.refl _ W).alloc (by omega) _,Below.heap_alloc W _ bP (by omega),fun k C t f hb hk=>(Below.heap_alloc W _ k (Array.getElem?_eq_some_iff.1 hk).1).trans hk⟩
  ·intro ld x W K hK
   unfold encP cs5
   gi_wp2
   exact hK
  ·rintro ld pre ⟨⟨lv,t,qn,dn,qk,dk⟩,hx⟩ W X hWs hXs hXb ⟨hgo,hS,hR,hA,hB,hsz⟩ hlen
   obtain ⟨hIn,hlv9,hbn⟩:=hx
   dsimp only at hIn hlv9 hbn hXs hXb ⊢
   have hpt:Hold W.heap.size #[.int .i64 t.kd,.string (S t.nm),.int .i64 t.nu,.slice qn t.ns.length dn,.slice qk t.ks.length dk] 27 X:=(hXb W.heap.size (by omega)).trans (Hold.new W _ 27)
   have c0:=hpt.cell 0;have c1:=hpt.cell 1;have c2:=hpt.cell 2;have c3:=hpt.cell 3;have c4:=hpt.cell 4
   simp only [lGA,lGS,lGZ] at c0 c1 c2 c3 c4
   have hkn:kidsN (pre.map bareP)≤1000:=goC_le hgo
   have sS:=hS.cell 0
   have fS:=hS.frozen 0
   have sA:=hA.cell 0
   have sR:=hR.cell 0
   have fR:=hR.frozen 0
   simp only [lGA,lGS,lGZ] at sS sA sR
   have HGO:Hid (∀ y:PN P w,bareP y=(lv,t)→goC 1 ((pre ++ [y]).map bareP)=(decide (lv≤30) && decide (1+kidsN (pre.map bareP)+t.ks.length≤1000) && soundM t)∧kidsN ((pre ++ [y]).map bareP)=kidsN (pre.map bareP)+t.ks.length):=by
    intro y hy
    rw [List.map_append,List.map_cons,List.map_nil,hy,goC_app,hgo]
    simp [goC,kidsN]
   obtain ⟨Y,hY⟩:∃ Y,Y=X.setCell ⟨bS,0,none⟩ (.int .i64 (1+(kidsN (pre.map bareP):Int)+(t.ks.length:Int))):=⟨_,rfl⟩
   have kY:KP (fun k=>k<X.heap.size∧¬ (k=bS∨k=bR)) X Y:=by rw [hY];exact KP.setCell _ _ _ _ (fun h=>h.2 (.inl rfl))
   have bY:Below w.heap.size w Y:=by rw [hY];exact hB.setCell (p:=⟨bS,0,none⟩) (by show w.heap.size≤bS;omega) _
   have hSY:Hold bS #[.int .i64 (1+(kidsN (pre.map bareP):Int)+(t.ks.length:Int))] 3 Y:=by rw [hY];have:=hS.set 0 (.int .i64 (1+(kidsN (pre.map bareP):Int)+(t.ks.length:Int)));simpa using this
   have hRY:Hold bR #[.bool false] 4 Y:=by rw [hY];exact hR.other (by omega) _ _
   have hAY:Hold bA #[.func (.func 65) #[] #[]] 103 Y:=by rw [hY];exact hA.other (by omega) _ _
   have hPY:Hold W.heap.size #[.int .i64 t.kd,.string (S t.nm),.int .i64 t.nu,.slice qn t.ns.length dn,.slice qk t.ks.length dk] 27 Y:=by rw [hY];exact hpt.other (by omega) _ _
   have HSO:=zz (sound_any (P:=P) (w:=Y) (fun b hb=>Nat.lt_of_lt_of_le (hP b hb) bY.size) (TrIn.keep (KP.of_below bY hP) (fun b hb=>hb) t _ hIn))
   have HYS:=zz fun k=>yes_any k Y
   have HKY:=zz kY
   have HBY:=zz bY
   have HSY:=zz hSY
   have HRY:=zz hRY
   have HAY:=zz hAY
   have HPY:=zz hPY
   clear kY bY hSY hRY hAY hPY hgo hS hR hA hpt hXb
   have hii:=HGO.out ⟨⟨lv,t,qn,dn,qk,dk⟩,hIn,hlv9,hbn⟩ rfl
   have HII:=zz hii
   have HXS:Hid (W0.heap.size≤X.heap.size):=hsz
   clear hii HGO
   by_cases hc1:lv≤30
   ·by_cases hc2:1+kidsN (pre.map bareP)+t.ks.length≤1000
    ·have hc1i:¬ (30:Int)<lv:=by omega
     have hc2i:¬ (1000:Int)<1+(kidsN (pre.map bareP):Int)+t.ks.length:=by omega
     gi_wp2_with fail
     rw [← hY]
     refine ⟨trivial,fun _=>by omega,(CallsIn.inRound ld (callsIn_wide.2 (HYS.out _))).mono ?_⟩
     rintro r w5 ⟨rfl,rfl⟩
     clear hY
     have e0:=HPY.out.cell 0;have e1:=HPY.out.cell 1;have e2:=HPY.out.cell 2;have e3:=HPY.out.cell 3;have e4:=HPY.out.cell 4
     simp only [lGA,lGS,lGZ] at e0 e1 e2 e3 e4
     unfold cs5 at HSO
     cases hsd:soundM t
     ·rw [hsd] at HSO
      have HSD:=zz hsd
      clear hsd
      gi_wp2_with fail
      refine ⟨trivial,fun _=>by omega,(CallsIn.inRound ld (callsIn_wide.2 HSO.out)).mono ?_⟩
      rintro r w6 ⟨rfl,hb6⟩
      have hR6:=HRY.out.below hb6 HRY.out.lt
      have s6:=hR6.cell 0
      have f6:=hR6.frozen 0
      simp only [lGA,lGS,lGZ] at s6
      have HB6:=zz hb6
      have HR6:=zz hR6
      clear hb6 hR6
      gi_wp2_with fail
      have kW:KP (fun k=>k<X.heap.size∧¬ (k=bS∨k=bR)) X w6:=HKY.out.trans (KP.of_below HB6.out (fun b hb=>Nat.lt_of_lt_of_le hb.1 HKY.out.size))
      have kZ:=kW.trans (KP.setCell (P:=fun k=>k<X.heap.size∧¬ (k=bS∨k=bR)) w6 bR 0 (.bool false) (fun h=>h.2 (.inr rfl)))
      refine ⟨kf_of kZ (fun k h=>by omega),?_,?_,?_,?_⟩
      ·rw [HII.out.1];rw [HSD.out];simp
      ·have:=(HR6.out).set 0 (.bool false);simpa using this
      ·exact (HBY.out.trans (HB6.out.mono HBY.out.size)).setCell (p:=⟨bR,0,none⟩) (by show w.heap.size≤bR;omega) _
      ·have:=kZ.size;have:=HXS.out;omega
     ·rw [hsd] at HSO
      have HSD:=zz hsd
      clear hsd
      gi_wp2_with fail
      refine ⟨trivial,fun _=>by omega,(CallsIn.inRound ld (callsIn_wide.2 HSO.out)).mono ?_⟩
      rintro r w6 ⟨rfl,hb6⟩
      have HB6:=zz hb6
      clear hb6
      gi_wp2_with fail
      have kW:KP (fun k=>k<X.heap.size∧¬ (k=bS∨k=bR)) X w6:=HKY.out.trans (KP.of_below HB6.out (fun b hb=>Nat.lt_of_lt_of_le hb.1 HKY.out.size))
      refine ⟨kf_of kW (fun k h=>by omega),kp_of kW (fun k h=>by omega) (by have:=HXS.out;have:=HWE.out.size;omega) (by have:=HXS.out;omega),?_,?_,?_,?_,?_,?_⟩
      ·rw [HII.out.1,HSD.out];simp [hc1,hc2]
      ·have h1:=HSY.out.below HB6.out HSY.out.lt
       have h2:((1+kidsN (List.map bareP (pre ++ [⟨⟨lv,t,qn,dn,qk,dk⟩,hIn,hlv9,hbn⟩])):Nat):Int)=1+(kidsN (pre.map bareP):Int)+t.ks.length:=by rw [HII.out.2];omega
       rw [h2];exact h1
      ·exact HRY.out.below HB6.out HRY.out.lt
      ·exact HAY.out.below HB6.out HAY.out.lt
      ·exact HBY.out.trans (HB6.out.mono HBY.out.size)
      ·have:=kW.size;have:=HXS.out;omega
    ·have hc1i:¬ (30:Int)<lv:=by omega
     have hc2i:(1000:Int)<1+(kidsN (pre.map bareP):Int)+t.ks.length:=by omega
     have gR:(X.setCell ⟨bS,0,none⟩ (.int .i64 (1+(kidsN (pre.map bareP):Int)+(t.ks.length:Int)))).frozen? ⟨bR,0,none⟩=false:=by rw [← hY];exact HRY.out.frozen 0
     have gS:(X.setCell ⟨bS,0,none⟩ (.int .i64 (1+(kidsN (pre.map bareP):Int)+(t.ks.length:Int)))).cell? ⟨bR,0,none⟩=some (.bool false):=by rw [← hY];exact HRY.out.cell 0
     gi_wp2_with fail
     refine ⟨fun f h=>(by cases h),?_⟩
     gi_wp2_with fail
     refine ⟨trivial,?_⟩
     gi_wp2_with fail
     rw [← hY]
     have kW:=HKY.out
     have kZ:=kW.trans (KP.setCell (P:=fun k=>k<X.heap.size∧¬ (k=bS∨k=bR)) Y bR 0 (.bool false) (fun h=>h.2 (.inr rfl)))
     refine ⟨kf_of kZ (fun k h=>by omega),?_,?_,?_,?_⟩
     ·rw [HII.out.1];simp [hc2]
     ·have:=(HRY.out).set 0 (.bool false);simpa using this
     ·exact (HBY.out).setCell (p:=⟨bR,0,none⟩) (by show w.heap.size≤bR;omega) _
     ·have:=kZ.size;have:=HXS.out;omega
   ·have hc1i:(30:Int)<lv:=by omega
    have gR:(X.setCell ⟨bS,0,none⟩ (.int .i64 (1+(kidsN (pre.map bareP):Int)+(t.ks.length:Int)))).frozen? ⟨bR,0,none⟩=false:=by rw [← hY];exact HRY.out.frozen 0
    have gS:(X.setCell ⟨bS,0,none⟩ (.int .i64 (1+(kidsN (pre.map bareP):Int)+(t.ks.length:Int)))).cell? ⟨bR,0,none⟩=some (.bool false):=by rw [← hY];exact HRY.out.cell 0
    gi_wp2_with fail
    refine ⟨fun f h=>(by cases h),?_⟩
    gi_wp2_with fail
    refine ⟨trivial,?_⟩
    gi_wp2_with fail
    rw [← hY]
    have kW:=HKY.out
    have kZ:=kW.trans (KP.setCell (P:=fun k=>k<X.heap.size∧¬ (k=bS∨k=bR)) Y bR 0 (.bool false) (fun h=>h.2 (.inr rfl)))
    refine ⟨kf_of kZ (fun k h=>by omega),?_,?_,?_,?_⟩
    ·rw [HII.out.1];simp [hc1]
    ·have:=(HRY.out).set 0 (.bool false);simpa using this
    ·exact (HBY.out).setCell (p:=⟨bR,0,none⟩) (by show w.heap.size≤bR;omega) _
    ·have:=kZ.size;have:=HXS.out;omega
  ·rintro ys W hS ⟨hgo,hSz,hR,hA,hB,hsz⟩ hK
   have c2:=hR.cell 0
   have f2:=hR.frozen 0
   gi_wp2
   have hK':=(KeepsOthers.setCell W ⟨bR,0,none⟩ (.bool true)).same W0.heap.size _ hK rfl
   have H2:=hold_putP (hR.set 0 (.bool true)) (.deferred none) hK' rfl
   have B2:=(hB.setCell (p:=⟨bR,0,none⟩) (by show w.heap.size≤bR;omega) (.bool true)).trans (belowK_b (w:=w) (Nat.le_refl _) _ W0.heap.size _ (.deferred none) (by omega) hK' rfl rfl)
   have e1:=H2.cell 0
   simp at e1
   refine ⟨by simp,.inl ⟨_,_,rfl,run_takeDeferred hK',?_⟩⟩
   refine ⟨.bool true,?_,?_⟩
   ·simp [results,Tryz.f64,go_sem,e1]
   ·exact ⟨by unfold checkM;rw [hk,← hS,hgo];rfl,B2⟩
  ·rintro pre W ⟨r,hr⟩ ⟨hgo,hR,hB,hsz⟩ hK
   gi_wp2
   have e1:=(hold_putP hR (.deferred none) hK rfl).cell 0
   simp at e1
   have B2:=hB.trans (belowK_b (w:=w) (Nat.le_refl _) _ W0.heap.size _ (.deferred none) (by omega) hK rfl rfl)
   refine ⟨by simp,.inl ⟨_,_,rfl,run_takeDeferred hK,?_⟩⟩
   refine ⟨.bool false,?_,?_⟩
   ·simp [results,Tryz.f64,go_sem,e1]
   ·exact ⟨by unfold checkM;rw [← hr,goC_bad _ _ _ hgo,Bool.and_false],B2⟩
 ·unfold cs5
  have hk':(e.kd == 8)=true∨(e.kd == 8)=false∧(e.kd == 13)=true:=by
   cases h8:(e.kd == 8)
   ·rw [h8] at hk;exact .inr ⟨rfl,by simpa using hk⟩
   ·exact .inl rfl
  rcases hk' with h8 | ⟨h8,h13⟩
  ·gi_wp2_with fail
   have A2:=Hold.new ((w.alloc (.cells #[.int .i64 e.kd,.string (S e.nm),.int .i64 e.nu,.slice pn e.ns.length cn,.slice pk e.ks.length ck] 27)).alloc (.cells #[.func (.func 65) #[] #[]] 103)) #[.bool false] 4
   simp only [World.size_alloc] at A2
   have e1:=A2.cell 0
   simp only [lGA,lGS,lGZ] at e1
   refine ⟨.bool false,?_,?_⟩
   ·simp [results,Tryz.f64,go_sem,e1]
   ·exact ⟨by unfold checkM;rw [hk];rfl,(((Below.refl _ w).alloc (Nat.le_refl _) _).alloc (by simp) _).alloc (by simp;omega) _⟩
  ·gi_wp2_with fail
   have A2:=Hold.new ((w.alloc (.cells #[.int .i64 e.kd,.string (S e.nm),.int .i64 e.nu,.slice pn e.ns.length cn,.slice pk e.ks.length ck] 27)).alloc (.cells #[.func (.func 65) #[] #[]] 103)) #[.bool false] 4
   simp only [World.size_alloc] at A2
   have e1:=A2.cell 0
   simp only [lGA,lGS,lGZ] at e1
   refine ⟨.bool false,?_,?_⟩
   ·simp [results,Tryz.f64,go_sem,e1]
   ·exact ⟨by unfold checkM;rw [hk];rfl,(((Below.refl _ w).alloc (Nat.le_refl _) _).alloc (by simp) _).alloc (by simp;omega) _⟩
theorem check_tree {P:Nat→Prop} {w:World} {e:Tr} {pn:Option Addr} {cn:Nat} {pk:Option Addr} {ck:Nat} (hP:∀ b,P b→b<w.heap.size) (hE:TrIn P w e [.int .i64 e.kd,.string (S e.nm),.int .i64 e.nu,.slice pn e.ns.length cn,.slice pk e.ks.length ck]) (hD:∀ x ∈ po e 1,x.1≤1000000∧x.2.ks.length≤1000000) :
 Calls Tryz.prog 28 #[.agg (cs5 e pn cn pk ck)] w fun r w'=>r=.returned (.bool (checkM e))∧Below w.heap.size w w':=by
 have hB:Below w.heap.size w (w.alloc (.cells (cs5 e pn cn pk ck) 27)):=(Below.refl _ w).alloc (Nat.le_refl _) _
 have HC:=zz (callsIn_wide.1 (may_in (n:=8) (Nat.le_refl _) (fun b hb=>Nat.lt_of_lt_of_le (hP b hb) hB.size) (TrIn.keep (KP.of_below hB hP) (fun b hb=>hb) e _ hE) hD))
 have HB:=zz hB
 clear hB hE hD
 unfold cs5 at *
 go_enter Tryz.func28,Tryz.ntmps28
 go_wp2_with fail
 refine HC.out.mono ?_
 rintro r w1 ⟨rfl,hb1⟩
 have HB1:=zz hb1
 clear hb1
 go_wp2_with fail
 go_ret
 exact ⟨rfl,HB.out.trans (HB1.out.mono HB.out.size)⟩
end Go.Proofs.YtcnnlecjdkfdjaaGreatDoor
namespace Go.Proofs.YtcnnlecjdkfdjaaGreatDoor
open Go.RowKit
def exprM (l:List Tk):Tr × (Int × Int) × Int:=match exprRun l with
 | .inl n=>(t0,plM l n,60)
 | .inr q=>if checkM (q.ex.headD t0) then (q.ex.headD t0,(0,0),0) else (t0,plM l 0,61)
def colB (B b:Nat):Nat:=if b=B then 1 else 0
theorem pm_start {w:World} {B:Nat} {tp:Option Addr} {n tc:Nat} {l:List Tk} {P:Nat→Prop} (hB:Hold B (psC tp n tc 0 (.slice none 0 0) (.slice none 0 0) (.slice none 0 0) (.slice none 0 0) (.slice none 0 0) (.slice none 0 0)) 63 w) (hn:l.length=n) (hm:n≤10000) (hK:KM P w tp l) (hP:∀ b,P b→b<w.heap.size∧b≠B):PM (colB B) B l (ps0 []) w:=by
 subst hn
 exact ⟨tp,tc,_,_,_,_,_,_,hB,by simp [colB],hK.keep (KP.refl _ w) (fun b hb=>⟨(hP b hb).1,by simp [colB,(hP b hb).2]⟩) (fun _ _ h=>h),by omega,by simp [ps0],RowOf.nil _ _ _ _ _ _,RowOf.nil _ _ _ _ _ _,RowOf.nil _ _ _ _ _ _,RowOf.nil _ _ _ _ _ _,RowOf.nil _ _ _ _ _ _,RowOf.nil _ _ _ _ _ _⟩
theorem start_bound (l:List Tk) (k:Nat) (hm:l.length≤10000) (hk:k=10∨k=1):tot (ps0 [])+wtP l { ps0 [] with ru:=[r0 k,r0 0] }≤900000000:=by
 have h1:=topW_le l { ps0 [] with ru:=[r0 k,r0 0] }
 unfold tot wtP
 have h2:(({ ps0 [] with ru:=[r0 k,r0 0] }:Ps).ru.map wtR).sum≤20:=by rcases hk with rfl | rfl <;> decide
 have h3:tot (ps0 [])=0:=rfl
 unfold tot at h3
 omega
def put5 (w:World) (b:Nat) (v0 v1 v2 v3 v4 p0 p1:Value):World:=((((((w.setCell ⟨b,0,none⟩ v0).setCell ⟨b,1,none⟩ v1).setCell ⟨b,2,none⟩ v2).setCell ⟨b,3,none⟩ v3).setCell ⟨b,4,none⟩ v4).setCell ⟨b+1,0,none⟩ p0).setCell ⟨b+1,1,none⟩ p1
theorem put5_hold {w0 w:World} {b:Nat} {C D:Array Value} (v0 v1 v2 v3 v4 p0 p1:Value) (hC:C.size=5) (hD:D.size=2) (hR:Hold b C 27 w) (hQ:Hold (b+1) D 29 w) (hB:Below b w0 w):(put5 w b v0 v1 v2 v3 v4 p0 p1).cell? ⟨b,0,none⟩=some v0∧(put5 w b v0 v1 v2 v3 v4 p0 p1).cell? ⟨b,1,none⟩=some v1∧(put5 w b v0 v1 v2 v3 v4 p0 p1).cell? ⟨b,2,none⟩=some v2∧(put5 w b v0 v1 v2 v3 v4 p0 p1).cell? ⟨b,3,none⟩=some v3∧(put5 w b v0 v1 v2 v3 v4 p0 p1).cell? ⟨b,4,none⟩=some v4∧(put5 w b v0 v1 v2 v3 v4 p0 p1).cell? ⟨b+1,0,none⟩=some p0∧(put5 w b v0 v1 v2 v3 v4 p0 p1).cell? ⟨b+1,1,none⟩=some p1∧Below b w0 (put5 w b v0 v1 v2 v3 v4 p0 p1)∧KP (fun x=>x≠b∧x≠b+1) w (put5 w b v0 v1 v2 v3 v4 p0 p1):=by
 have n1:b≠b+1:=by omega
 have n2:b+1≠b:=by omega
 match C,hC with
 | ⟨[c0,c1,c2,c3,c4]⟩,_=>
 match D,hD with
 | ⟨[d0,d1]⟩,_=>
  have h1:=((((((hR.set 0 v0).set 1 v1).set 2 v2).set 3 v3).set 4 v4).other n1 0 p0).other n1 1 p1
  have h2:=((((((hQ.other n2 0 v0).other n2 1 v1).other n2 2 v2).other n2 3 v3).other n2 4 v4).set 0 p0).set 1 p1
  simp only [lSI,lSZ,lSS] at h1 h2
  have hx:∀ x:Nat,b≤b+x:=fun x=>by omega
  refine ⟨h1.cell 0,h1.cell 1,h1.cell 2,h1.cell 3,h1.cell 4,h2.cell 0,h2.cell 1,?_,?_⟩
  ·exact ((((((hB.setCell (Nat.le_refl _) _).setCell (Nat.le_refl _) _).setCell (Nat.le_refl _) _).setCell (Nat.le_refl _) _).setCell (Nat.le_refl _) _).setCell (hx 1) _).setCell (hx 1) _
  ·exact ((((((KP.setCell w b 0 v0 (fun h=>h.1 rfl)).trans (KP.setCell _ b 1 v1 (fun h=>h.1 rfl))).trans (KP.setCell _ b 2 v2 (fun h=>h.1 rfl))).trans (KP.setCell _ b 3 v3 (fun h=>h.1 rfl))).trans (KP.setCell _ b 4 v4 (fun h=>h.1 rfl))).trans (KP.setCell _ (b+1) 0 p0 (fun h=>h.2 rfl))).trans (KP.setCell _ (b+1) 1 p1 (fun h=>h.2 rfl))
theorem t0_in (P:Nat→Prop) (w:World):TrIn P w t0 [.int .i64 0,.string ⟨#[]⟩,.int .i64 0,.slice none 0 0,.slice none 0 0]:=by
 rw [TrIn_iff]
 exact ⟨none,0,none,0,rfl,by simp [t0],by simp [t0],⟨Nat.le_refl _,by omega,fun _=>rfl⟩,⟨Nat.le_refl _,by omega,fun _=>rfl⟩,.inl rfl,.inl rfl⟩
theorem pexpr_any {P:Nat→Prop} {w:World} {tp:Option Addr} {n tc:Nat} {l:List Tk} (hP:∀ b,P b→b<w.heap.size) (hn:l.length=n) (hK:KM P w tp l) (hm:n≤10000) :
 Calls Tryz.prog 11 #[.slice tp n tc] w fun r w'=>∃ pn cn pk ck,r=.returned (.tuple #[.agg (cs5 (exprM l).1 pn cn pk ck),.agg #[.int .i64 (exprM l).2.1.1,.int .i64 (exprM l).2.1.2],.int .i64 (exprM l).2.2])∧TrIn (fun b=>b<w'.heap.size) w' (exprM l).1 [.int .i64 (exprM l).1.kd,.string (S (exprM l).1.nm),.int .i64 (exprM l).1.nu,.slice pn (exprM l).1.ns.length cn,.slice pk (exprM l).1.ks.length ck]∧Below w.heap.size w w':=by
 have hmf:=mkf
 obtain ⟨W1,hW1⟩:∃ W1,W1=((w.alloc (.cells #[.int .i64 0,.string ⟨#[]⟩,.int .i64 0,.slice none 0 0,.slice none 0 0] 27)).alloc (.cells #[.int .i64 0,.int .i64 0] 29)).alloc (.cells (psC tp n tc 0 (.slice none 0 0) (.slice none 0 0) (.slice none 0 0) (.slice none 0 0) (.slice none 0 0) (.slice none 0 0)) 63):=⟨_,rfl⟩
 have hB1:Below w.heap.size w W1:=by rw [hW1];exact (((Below.refl _ w).alloc (Nat.le_refl _) _).alloc (by simp) _).alloc (by simp;omega) _
 have hs1:W1.heap.size=w.heap.size+3:=by rw [hW1];simp
 have hR:Hold w.heap.size #[.int .i64 0,.string ⟨#[]⟩,.int .i64 0,.slice none 0 0,.slice none 0 0] 27 W1:=by rw [hW1];exact ((Hold.new w _ 27).alloc _).alloc _
 have hQ:Hold (w.heap.size+1) #[.int .i64 0,.int .i64 0] 29 W1:=by rw [hW1];have:=(Hold.new (w.alloc (.cells #[.int .i64 0,.string ⟨#[]⟩,.int .i64 0,.slice none 0 0,.slice none 0 0] 27)) #[.int .i64 0,.int .i64 0] 29).alloc (.cells (psC tp n tc 0 (.slice none 0 0) (.slice none 0 0) (.slice none 0 0) (.slice none 0 0) (.slice none 0 0) (.slice none 0 0)) 63);simpa using this
 have hBB:Hold (w.heap.size+2) (psC tp n tc 0 (.slice none 0 0) (.slice none 0 0) (.slice none 0 0) (.slice none 0 0) (.slice none 0 0) (.slice none 0 0)) 63 W1:=by rw [hW1];have:=Hold.new ((w.alloc (.cells #[.int .i64 0,.string ⟨#[]⟩,.int .i64 0,.slice none 0 0,.slice none 0 0] 27)).alloc (.cells #[.int .i64 0,.int .i64 0] 29)) (psC tp n tc 0 (.slice none 0 0) (.slice none 0 0) (.slice none 0 0) (.slice none 0 0) (.slice none 0 0) (.slice none 0 0)) 63;simpa using this
 have hP1:=pm_start hBB hn hm (hK.keep (KP.of_below hB1 hP) (fun b hb=>hb) (fun _ _ h=>h)) (fun b hb=>by have:=hP b hb;omega)
 have hwh:=whole_any (nd:=1) (k0:=10) hP1 (by decide) rfl (Nat.le_refl _) (start_bound l 10 (by omega) (.inl rfl))
 have hEX:exprM l=(match exprRun l with | .inl n=>(t0,plM l n,60) | .inr q=>if checkM (q.ex.headD t0) then (q.ex.headD t0,(0,0),0) else (t0,plM l 0,61)):=rfl
 have hrunE:run l { ps0 [] with ru:=[r0 10,r0 0] }=exprRun l:=rfl
 rw [hrunE] at hwh
 have hkeep:∀ w2:World,KP (Imm (colB (w.heap.size+2)) W1) W1 w2→Below w.heap.size w w2∧Hold w.heap.size #[.int .i64 0,.string ⟨#[]⟩,.int .i64 0,.slice none 0 0,.slice none 0 0] 27 w2∧Hold (w.heap.size+1) #[.int .i64 0,.int .i64 0] 29 w2:=fun w2 hk=>by
  have hcl:∀ b,b<w.heap.size+2→Imm (colB (w.heap.size+2)) W1 b:=fun b hb=>⟨by omega,by unfold colB;rw [if_neg (by omega)]⟩
  exact ⟨hB1.trans (hk.below fun b hb=>hcl b (by omega)),(hk.block _ (hcl _ (by omega))).trans hR,(hk.block _ (hcl _ (by omega))).trans hQ⟩
 have HKEEP:=zz hkeep
 have HWH:=zz hwh
 have HEX:=zz hEX
 clear hwh hP1 hrunE hkeep hR hQ hBB hB1 hEX
 subst hW1
 generalize exprM l=E at *
 unfold psC at HWH
 go_enter Tryz.func11,Tryz.ntmps11
 go_wp2_with fail
 refine HWH.out.mono ?_
 intro e w2 hq
 cases hx:exprRun l with
 | inl k=>
  rw [hx] at hq HEX
  obtain ⟨rfl,⟨tp',tc',vr,ve,vs,vf,vd,vp,hB2,hK2⟩,hk2⟩:=hq
  have hEe:E=(t0,plM l k,60):=HEX.out
  have hkl:k≤l.length:=by
   have h:=(run_pos (l:=l) (nd:=1) (ps0 [r0 10,r0 0]) good_expr (Nat.zero_le _)).2
   have h2:run l (ps0 [r0 10,r0 0])=.inl k:=hx
   rw [h2] at h
   exact h
  obtain ⟨b2,r2,q2⟩:=HKEEP.out _ hk2
  have hpl:=place_any (k:=k) hB2 (fun b hb=>hb) rfl hK2 (by omega) (by omega)
  have c1:=hB2.cell 1
  simp only [lGA,lGS,lGZ] at c1
  subst hEe
  have HPL:=zz hpl
  have HB2:=zz b2
  have HR2:=zz r2
  have HQ2:=zz q2
  have hs2:w.heap.size+1<w2.heap.size:=q2.lt
  clear hB2 hK2 hk2 hpl b2 r2 q2 HEX HKEEP HWH
  obtain ⟨pl,hple⟩:∃ pl,pl=plM l k:=⟨_,rfl⟩
  rw [← hple] at HPL
  have HPLE:=zz hple
  clear hple
  go_wp2_with fail
  refine HPL.out.mono ?_
  rintro r w3 ⟨rfl,hb3⟩
  have HR3:=zz (HR2.out.below hb3 HR2.out.lt)
  have HQ3:=zz (HQ2.out.below hb3 HQ2.out.lt)
  have HB3:=zz (HB2.out.trans (hb3.mono HB2.out.size))
  clear hb3
  have a0:=HR3.out.cell 0
  have a1:=HR3.out.cell 1
  have a2:=HR3.out.cell 2
  have a3:=HR3.out.cell 3
  have a4:=HR3.out.cell 4
  have d0:=HQ3.out.cell 0
  have d1:=HQ3.out.cell 1
  have f0:=HR3.out.frozen 0
  have f1:=HR3.out.frozen 1
  have f2:=HR3.out.frozen 2
  have f3:=HR3.out.frozen 3
  have f4:=HR3.out.frozen 4
  have g0:=HQ3.out.frozen 0
  have g1:=HQ3.out.frozen 1
  simp only [lGA,lGS,lGZ] at a0 a1 a2 a3 a4 d0 d1
  go_wp2_with fail
  obtain ⟨q0,q1,q2,q3,q4,q5,q6,qB,qK⟩:=put5_hold (.int .i64 0) (.string ⟨#[]⟩) (.int .i64 0) (.slice none 0 0) (.slice none 0 0) (.int .i64 pl.1) (.int .i64 pl.2) rfl rfl HR3.out HQ3.out HB3.out
  unfold put5 at q0 q1 q2 q3 q4 q5 q6 qB qK
  obtain rfl:=HPLE.out
  exact bodyPost_ret (v:=.tuple #[.agg #[.int .i64 0,.string ⟨#[]⟩,.int .i64 0,.slice none 0 0,.slice none 0 0],.agg #[.int .i64 (plM l k).1,.int .i64 (plM l k).2],.int .i64 60]) (by simp only [results,Tryz.results11];go_simp) rfl ⟨none,0,none,0,rfl,t0_in _ _,qB⟩
 | inr q=>
  rw [hx] at hq HEX
  obtain ⟨e,hrun,rfl⟩:=expr_inv hx
  obtain ⟨rfl,c',⟨tp',tc',vr,ve,vs,vf,vd,vp,hS⟩,hi,hk2⟩:=hq
  have hEe:E=(if checkM e then (e,(0,0),0) else (t0,plM l 0,61)):=HEX.out
  have hms:=run_mass (l:=l) (nd:=1) (ps0 [r0 10,r0 0]) good_expr (Nat.zero_le _) _ hx
  have hme:mass e≤900000:=by
   unfold massP at hms
   simp only [List.map_cons,List.map_nil,List.sum_cons,List.sum_nil] at hms
   omega
  obtain ⟨qa,cap,rfl,hcap,_,hnil,hsome⟩:=hS.exs.slice
  cases qa with
  | none=>exact absurd (hnil rfl).2 (by simp)
  | some a=>
  obtain ⟨g,rfl,hgl,hcg⟩:=hsome a rfl
  obtain ⟨ds,e1,e2,hE⟩:=hS.exs.cell (i:=0) (t:=e) rfl
  have hE':=hE
  rw [TrIn_iff] at hE'
  obtain ⟨pn,cn,pk,ck,rfl,_⟩:=hE'
  obtain ⟨b2,r2,q2⟩:=HKEEP.out _ hk2
  have hck:=check_tree (P:=ImB (w.heap.size+2) c' w2) (fun b hb=>hb.1.1) hE (mass_D hme)
  have hpl:=place_any (k:=0) hS.hold (fun b hb=>hb.1) rfl hS.toks (by omega) (by omega)
  have m0:=e2 0 _ rfl
  have m1:=e2 1 _ rfl
  have m2:=e2 2 _ rfl
  have m3:=e2 3 _ rfl
  have m4:=e2 4 _ rfl
  simp only [Nat.zero_mul,Nat.zero_add,Nat.add_zero] at m0 m1 m2 m3 m4
  have c3:=hS.hold.cell 3
  simp only [lGA,lGS,lGZ,List.length_singleton] at c3
  have HCK:=zz hck
  have HS:=zz hS
  have HB2:=zz b2
  have HR2:=zz r2
  have HQ2:=zz q2
  have HE:=zz hE
  have HEE:=zz hEe
  have hs2:w.heap.size+1<w2.heap.size:=q2.lt
  have hi1:(0:Int)<1:=by omega
  unfold cs5 at HCK
  clear hS hk2 hpl b2 r2 q2 HEX HKEEP HWH hck hE hEe hms hme hi e2 hnil hsome hx hrun
  go_wp2_with fail
  refine HCK.out.mono ?_
  rintro r w3 ⟨rfl,hb3⟩
  have HR3:=zz (HR2.out.below hb3 HR2.out.lt)
  have HQ3:=zz (HQ2.out.below hb3 HQ2.out.lt)
  have HB3:=zz (HB2.out.trans (hb3.mono HB2.out.size))
  have HS3:=zz (HS.out.below hb3 (c':=c') fun _ _=>rfl)
  have HE3:=zz (TrIn.keep (P:=fun b=>b<w2.heap.size∧w.heap.size+2<b) (KP.of_below hb3 fun b hb=>hb.1) (fun b hb=>hb) _ _ (TrIn.keep (KP.refl _ w2) (fun b hb=>⟨hb.1.1,hb.2⟩) _ _ HE.out))
  have k0:=(hb3.cell (p:=⟨g,0,none⟩) hgl).trans m0
  have k1:=(hb3.cell (p:=⟨g,1,none⟩) hgl).trans m1
  have k2:=(hb3.cell (p:=⟨g,2,none⟩) hgl).trans m2
  have k3:=(hb3.cell (p:=⟨g,3,none⟩) hgl).trans m3
  have k4:=(hb3.cell (p:=⟨g,4,none⟩) hgl).trans m4
  have c3':=HS3.out.hold.cell 3
  simp only [lGA,lGS,lGZ,List.length_singleton] at c3'
  have HSZ:=zz hb3.size
  clear hb3 m0 m1 m2 m3 m4 c3
  cases hc:checkM e
  ·rw [hc] at HEE
   obtain rfl:E=(t0,plM l 0,61):=HEE.out
   have hpl:=place_any (k:=0) HS3.out.hold (fun b hb=>hb.1) rfl HS3.out.toks (by omega) (by omega)
   have HPL:=zz hpl
   clear hpl hc k0 k1 k2 k3 k4
   obtain ⟨pl,hple⟩:∃ pl,pl=plM l 0:=⟨_,rfl⟩
   rw [← hple] at HPL
   have HPLE:=zz hple
   clear hple
   go_wp2_with fail
   refine HPL.out.mono ?_
   rintro r w4 ⟨rfl,hb4⟩
   have HR4:=zz (HR3.out.below hb4 HR3.out.lt)
   have HQ4:=zz (HQ3.out.below hb4 HQ3.out.lt)
   have HB4:=zz (HB3.out.trans (hb4.mono HB3.out.size))
   clear hb4
   have a0:=HR4.out.cell 0
   have a1:=HR4.out.cell 1
   have a2:=HR4.out.cell 2
   have a3:=HR4.out.cell 3
   have a4:=HR4.out.cell 4
   have d0:=HQ4.out.cell 0
   have d1:=HQ4.out.cell 1
   have f0:=HR4.out.frozen 0
   have f1:=HR4.out.frozen 1
   have f2:=HR4.out.frozen 2
   have f3:=HR4.out.frozen 3
   have f4:=HR4.out.frozen 4
   have g0:=HQ4.out.frozen 0
   have g1:=HQ4.out.frozen 1
   simp only [lGA,lGS,lGZ] at a0 a1 a2 a3 a4 d0 d1
   go_wp2_with fail
   obtain ⟨q0,q1,q2,q3,q4,q5,q6,qB,qK⟩:=put5_hold (.int .i64 0) (.string ⟨#[]⟩) (.int .i64 0) (.slice none 0 0) (.slice none 0 0) (.int .i64 pl.1) (.int .i64 pl.2) rfl rfl HR4.out HQ4.out HB4.out
   unfold put5 at q0 q1 q2 q3 q4 q5 q6 qB qK
   obtain rfl:=HPLE.out
   exact bodyPost_ret (v:=.tuple #[.agg #[.int .i64 0,.string ⟨#[]⟩,.int .i64 0,.slice none 0 0,.slice none 0 0],.agg #[.int .i64 (plM l 0).1,.int .i64 (plM l 0).2],.int .i64 61]) (by simp only [results,Tryz.results11];go_simp) rfl ⟨none,0,none,0,rfl,t0_in _ _,qB⟩
  ·rw [hc] at HEE
   obtain rfl:E=(e,(0,0),0):=HEE.out
   clear hc
   have a0:=HR3.out.cell 0
   have a1:=HR3.out.cell 1
   have a2:=HR3.out.cell 2
   have a3:=HR3.out.cell 3
   have a4:=HR3.out.cell 4
   have d0:=HQ3.out.cell 0
   have d1:=HQ3.out.cell 1
   have f0:=HR3.out.frozen 0
   have f1:=HR3.out.frozen 1
   have f2:=HR3.out.frozen 2
   have f3:=HR3.out.frozen 3
   have f4:=HR3.out.frozen 4
   have g0:=HQ3.out.frozen 0
   have g1:=HQ3.out.frozen 1
   simp only [lGA,lGS,lGZ] at a0 a1 a2 a3 a4 d0 d1
   go_wp2_with fail
   obtain ⟨q0,q1,q2,q3,q4,q5,q6,qB,qK⟩:=put5_hold (.int .i64 e.kd) (.string (S e.nm)) (.int .i64 e.nu) (.slice pn e.ns.length cn) (.slice pk e.ks.length ck) (.int .i64 0) (.int .i64 0) rfl rfl HR3.out HQ3.out HB3.out
   have hin:=TrIn.keep (Q:=fun b=>b<(put5 w3 w.heap.size (.int .i64 e.kd) (.string (S e.nm)) (.int .i64 e.nu) (.slice pn e.ns.length cn) (.slice pk e.ks.length ck) (.int .i64 0) (.int .i64 0)).heap.size) (qK.mono fun b (hb:b<w2.heap.size∧w.heap.size+2<b)=>⟨by omega,by omega⟩) (fun b hb=>Nat.lt_of_lt_of_le hb.1 (Nat.le_trans HSZ.out qK.size)) _ _ HE3.out
   unfold put5 at q0 q1 q2 q3 q4 q5 q6 qB qK hin
   exact bodyPost_ret (v:=.tuple #[.agg #[.int .i64 e.kd,.string (S e.nm),.int .i64 e.nu,.slice pn e.ns.length cn,.slice pk e.ks.length ck],.agg #[.int .i64 0,.int .i64 0],.int .i64 0]) (by simp only [results,Tryz.results11];go_simp) rfl ⟨pn,cn,pk,ck,rfl,hin,qB⟩
def headsM (s:Sg):Bool:=if cn s.nm then true else if nm s.nm then decide (s.ar.length=0) else (s.nm == [45,62]) && decide (s.ar.length=2)
theorem heads_any {s:Sg} {pk:Option Addr} {ck:Nat} {w:World} (hn:s.nm.length≤281474976710656) (ha:s.ar.length≤9223372036854775807) :
 Calls Tryz.prog 192 #[.agg #[.string (S s.nm),.slice pk s.ar.length ck]] w fun r w'=>r=.returned (.bool (headsM s))∧Below w.heap.size w w':=by
 have HC:=zz fun W=>con_any s.nm W hn
 have HN:=zz fun W=>name_any s.nm W hn
 have hB:Below w.heap.size w (w.alloc (.cells #[.string (S s.nm),.slice pk s.ar.length ck] 175)):=(Below.refl _ w).alloc (Nat.le_refl _) _
 have HB:=zz hB
 unfold headsM
 obtain ⟨snm,ar⟩:=s
 simp only at *
 generalize ar.length=n at *
 have hq:(S snm).toList=snm:=S_list snm
 have e0:Hid (((n:Int) == 0)=decide (n=0)):=by show _=_;rw [Bool.eq_iff_iff];simp
 have e2:Hid (((n:Int) == 2)=decide (n=2)):=by show _=_;rw [Bool.eq_iff_iff];simp;omega
 clear hB
 cases hc:cn snm
 ·rw [hc] at HC
  cases hm:nm snm
  ·rw [hm] at HN
   rw [if_neg (by simp),if_neg (by simp)]
   have HQ:=zz hq
   cases ht:(snm == [45,62])
   ·have h2:((S snm).toList == [45,62])=false:=by rw [hq];exact ht
    clear ht hq
    generalize S snm=sb at *
    go_enter Tryz.func192,Tryz.ntmps192
    go_wp2_with fail
    refine (HC.out _).mono ?_
    rintro r w' ⟨rfl,rfl⟩
    go_wp2_with fail
    refine (HN.out _).mono ?_
    rintro r w' ⟨rfl,rfl⟩
    go_wp2_with fail
    go_ret
    exact ⟨rfl,HB.out⟩
   ·have h2:((S snm).toList == [45,62])=true:=by rw [hq];exact ht
    clear ht hq
    generalize S snm=sb at *
    go_enter Tryz.func192,Tryz.ntmps192
    go_wp2_with fail
    refine (HC.out _).mono ?_
    rintro r w' ⟨rfl,rfl⟩
    go_wp2_with fail
    refine (HN.out _).mono ?_
    rintro r w' ⟨rfl,rfl⟩
    go_wp2_with fail
    go_ret
    refine ⟨?_,HB.out⟩
    show Ending.returned (Value.bool _)=Ending.returned (Value.bool _)
    refine congrArg (fun b=>Ending.returned (Value.bool b)) ?_
    rw [Bool.true_and]
    exact e2.out
  ·rw [hm] at HN
   rw [if_neg (by simp),if_pos rfl]
   go_enter Tryz.func192,Tryz.ntmps192
   go_wp2_with fail
   refine (HC.out _).mono ?_
   rintro r w' ⟨rfl,rfl⟩
   go_wp2_with fail
   refine (HN.out _).mono ?_
   rintro r w' ⟨rfl,rfl⟩
   go_wp2_with fail
   go_ret
   refine ⟨?_,HB.out⟩
   show Ending.returned (Value.bool _)=Ending.returned (Value.bool _)
   refine congrArg (fun b=>Ending.returned (Value.bool b)) ?_
   rw [Bool.eq_iff_iff]
   simp
 ·rw [hc] at HC
  rw [if_pos rfl]
  go_enter Tryz.func192,Tryz.ntmps192
  go_wp2_with fail
  refine (HC.out _).mono ?_
  rintro r w' ⟨rfl,rfl⟩
  go_wp2_with fail
  go_ret
  exact ⟨rfl,HB.out⟩
theorem same_ne {p q:Option Addr} {n m c d:Nat} {w:World} (h:n≠m) (hn:n≤9223372036854775807) (hm:m≤9223372036854775807):Calls Tryz.prog 191 #[.slice p n c,.slice q m d] w fun r w'=>r=.returned (.bool false)∧∃ k,w'=w.drewN k:=by
 have h1:¬ (n:Int)=m:=by omega
 have h2:((n:Int) == m)=false:=by simp;omega
 go_enter Tryz.func191,Tryz.ntmps191
 go_wp2_with fail
 go_quiet (fail)
 go_wp2_with fail
 go_ret
 exact ⟨rfl,_,rfl⟩
theorem same_nil {p q:Option Addr} {c d:Nat} {w:World}:Calls Tryz.prog 191 #[.slice p 0 c,.slice q 0 d] w fun r w'=>r=.returned (.bool true)∧∃ k,w'=w.drewN k:=by
 go_enter Tryz.func191,Tryz.ntmps191
 go_wp2_with fail
 go_quiet (fail)
 go_wp2_with fail
 go_ret
 exact ⟨rfl,_,rfl⟩
theorem und117:Tryz.prog.underlying 228=some (.pointer 175):=by kernel_rfl
theorem inf46:∃ j,Tryz.prog.info? 175=some j∧j.size≠0:=by
 have h:((Tryz.prog.info? 175).map fun j=>decide (j.size≠0))=some true:=by kernel_rfl
 obtain ⟨j,hj,h2⟩:=Option.map_eq_some_iff.1 h
 exact ⟨j,hj,by simpa using h2⟩
theorem same_at {b o b' o' n c d:Nat} {w:World} {ca cb:Array Value} {ta tb:TypeId} (ha:w.heap[b]?=some (.cells ca ta (0,0))) (hb:w.heap[b']?=some (.cells cb tb (0,0))) (hn:n≤9223372036854775807) (h0:0<n):Calls Tryz.prog 191 #[.slice (some ⟨b,o,none⟩) n c,.slice (some ⟨b',o',none⟩) n d] w fun r w'=>r=.returned (.bool (decide ((⟨b,o,none⟩:Addr)=⟨b',o',none⟩)))∧∃ k,w'=w.drewN k:=by
 have h1:¬ (n:Int)=0:=by omega
 have h2:(0:Int)<n:=by omega
 have h3:((n:Int) == 0)=false:=by simp;omega
 obtain ⟨j,hj,hjs⟩:=inf46
 have he:∀ k,(binOp .eql 228 (.pointer (some ⟨b,o,none⟩)) (.pointer (some ⟨b',o',none⟩))).run Tryz.prog (w.drewN k)=.ok (.bool (decide ((⟨b,o,none⟩:Addr)=⟨b',o',none⟩))) (w.drewN k):=by
  intro k
  by_cases hab:(⟨b,o,none⟩:Addr)=⟨b',o',none⟩
  ·rw [← hab,run_eql_ptr_same _ _ und117 hj];simp
  ·rw [run_eql_ptr_other (ca:=ca) (cb:=cb) (ta:=ta) (tb:=tb) (w.drewN k) und117 hj hjs hab (by simpa using ha) (by simpa using hb)];simp [hab]
 clear hj hjs
 generalize decide ((⟨b,o,none⟩:Addr)=⟨b',o',none⟩)=r at *
 clear ha hb
 go_enter Tryz.func191,Tryz.ntmps191
 go_wp2_with fail
 go_quiet (fail)
 go_wp2_with fail
 go_ret
 exact ⟨rfl,_,rfl⟩
end Go.Proofs.YtcnnlecjdkfdjaaGreatDoor
