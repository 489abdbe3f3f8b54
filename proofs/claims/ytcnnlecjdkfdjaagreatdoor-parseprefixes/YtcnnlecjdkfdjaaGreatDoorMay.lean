/- May: the texts of these names, of which the claim is made. -/
import Derived.Test.YtcnnlecjdkfdjaaGreatDoorParts2
set_option linter.unusedVariables false
set_option linter.unusedSimpArgs false
set_option maxRecDepth 100000
set_option maxHeartbeats 8000000
namespace Go.Proofs.YtcnnlecjdkfdjaaGreatDoor
open Go.RowKit Go.Shelf
attribute [local go_sem] Oper.semAt_some
def kidsN (l:List (Nat × Tr)):Nat:=(l.map fun x=>x.2.ks.length).sum
def goC:Nat→List (Nat × Tr)→Bool
 | _,[]=>true
 | z,x :: r=>decide (x.1≤30) && decide (z+x.2.ks.length≤1000) && soundM x.2 && goC (z+x.2.ks.length) r
theorem goC_app (l:List (Nat × Tr)):∀ z r,goC z (l ++ r)=(goC z l && goC (z+kidsN l) r):=by
 induction l with
 | nil=>intro z r;simp [goC,kidsN]
 | cons x l ih=>
  intro z r
  simp only [List.cons_append,goC,ih,kidsN,List.map_cons,List.sum_cons]
  rw [show z+(x.2.ks.length+(l.map fun x=>x.2.ks.length).sum)=z+x.2.ks.length+(l.map fun x=>x.2.ks.length).sum by omega]
  simp only [Bool.and_assoc]
theorem goC_bad (l r:List (Nat × Tr)) (z:Nat) (h:goC z l=false):goC z (l ++ r)=false:=by rw [goC_app,h];rfl
theorem goC_le {l:List (Nat × Tr)} {z:Nat} (h:goC z l=true):kidsN l≤1000:=by
 have key:∀ (l:List (Nat × Tr)) z,goC z l=true→l=[]∨z+kidsN l≤1000:=by
  intro l
  induction l with
  | nil=>intro z _;exact .inl rfl
  | cons x r ih=>
   intro z h
   simp only [goC,Bool.and_eq_true,decide_eq_true_eq] at h
   right
   rcases ih _ h.2 with rfl | h2
   ·simp [kidsN];omega
   ·simp only [kidsN,List.map_cons,List.sum_cons] at h2 ⊢;omega
 rcases key l z h with rfl | h2
 ·simp [kidsN]
 ·omega
def checkM (e:Tr):Bool:=!(e.kd == 8 || e.kd == 13) && goC 1 (po e 1)
theorem parts_call (n:Nat) (e:Tr) (pn:Option Addr) (cn:Nat) (pk:Option Addr) (ck:Nat) (w:World):CallsIn Fence.wide n Tryz.prog 123 #[.agg (cs5 e pn cn pk ck)] w fun r w'=>r=.returned (.func (.func 181) #[] #[.pointer (some ⟨w.heap.size,0,none⟩)])∧w'=w.alloc (.cells (cs5 e pn cn pk ck) 27):=by
 refine callsIn_of_wp Tryz.func123 rfl trivial ?_ rfl
 simp only [Tryz.ntmps123,List.size_toArray,List.length_cons,List.length_nil,Nat.reduceAdd,Nat.reduceSub,Array.replicate_succ,Array.replicate_zero,List.push_toArray,List.append_toArray,List.nil_append,List.cons_append]
 unfold cs5
 gi_wp2
 go_ret
 exact ⟨rfl,rfl⟩
theorem yes_any (k:Int) (w:World):Calls Tryz.prog 65 #[.int .i64 k] w fun r w'=>r=.returned (.bool true)∧w'=w:=by
 go_enter Tryz.func65,Tryz.ntmps65
 go_wp2
 go_ret
 exact ⟨rfl,rfl⟩
theorem own_hold {k B:Nat} {C:Array Value} {t:TypeId} {W W':World} {row:Option Nat} (h:Hold k C t W) (hg:W.grownBy W' row) (hr:∀ r,row=some r→B≤r) (hk:k<B):Hold k C t W':=(hg.block k h.lt (fun e=>by have:=hr k e.symm;omega)).trans h
theorem own_below {n B:Nat} {w W W':World} {row:Option Nat} (h:Below n w W) (hg:W.grownBy W' row) (hr:∀ r,row=some r→B≤r) (hn:n≤B) (hs:n≤W.heap.size):Below n w W':=h.trans ⟨hg.os,hg.tape,hg.output,hg.size,fun k hk=>hg.block k (by omega) (fun e=>by have:=hr k e.symm;omega)⟩
theorem hold_putP {k l:Nat} {C:Array Value} {t:TypeId} {W:World} {o:Obj} (h:Hold k C t W) (o':Obj) (hl:W.heap[l]?=some o) (ho:o.isCells=false):Hold k C t (W.putObj l o'):=by
 refine ((grownBy_putObj' W l o').block k h.lt (fun e=>?_)).trans h
 have e':k=l:=by simpa using e
 subst e'
 rw [show W.heap[k]?=_ from h] at hl
 cases hl
 simp [Obj.isCells] at ho
theorem kf_of {B:Nat} {X Y:World} {Q:Nat→Prop} (h:KP (fun k=>k<X.heap.size∧¬ Q k) X Y) (hQ:∀ k,Q k→k<B):KeepsFrom B X Y:=⟨h.size,fun k o hB hk ho=>(h.block k ⟨(Array.getElem?_eq_some_iff.1 hk).1,fun hq=>by have:=hQ k hq;omega⟩).trans hk⟩
theorem kp_of {n B s:Nat} {X Y:World} {Q:Nat→Prop} (h:KP (fun k=>k<X.heap.size∧¬ Q k) X Y) (hQ:∀ k,Q k→k<B∧n≤k∧k≠s) (hn:n≤X.heap.size) (hs:s<X.heap.size):KpB n B s X Y:=
 ⟨⟨h.os,h.tape,h.output,h.size,fun k hk=>h.block k ⟨by omega,fun hq=>by have:=(hQ k hq).2.1;omega⟩⟩,h.block s ⟨hs,fun hq=>(hQ s hq).2.2 rfl⟩,fun k C t f hb hk=>(h.block k ⟨(Array.getElem?_eq_some_iff.1 hk).1,fun hq=>by have:=(hQ k hq).1;omega⟩).trans hk⟩
theorem may_in {n:Nat} (hn:8≤n) {P:Nat→Prop} {w:World} {e:Tr} {pn:Option Addr} {cn:Nat} {pk:Option Addr} {ck:Nat} (hP:∀ b,P b→b<w.heap.size) (hE:TrIn P w e [.int .i64 e.kd,.string (S e.nm),.int .i64 e.nu,.slice pn e.ns.length cn,.slice pk e.ks.length ck]) (hD:∀ x ∈ po e 1,x.1≤1000000∧x.2.ks.length≤1000000) :
 CallsIn Fence.wide n Tryz.prog 64 #[.agg (cs5 e pn cn pk ck),.func (.func 65) #[] #[]] w fun r w'=>r=.returned (.bool (checkM e))∧Below w.heap.size w w':=by
 have h1:1≤n:=by omega
 refine callsIn_of_wp_marks Tryz.func64 rfl trivial ?_ rfl
 simp only [Tryz.ntmps64,List.size_toArray,List.length_cons,List.length_nil,Nat.reduceAdd,Nat.reduceSub,Array.replicate_succ,Array.replicate_zero,List.push_toArray,List.append_toArray,List.nil_append,List.cons_append]
 cases hk:(e.kd == 8 || e.kd == 13)
 ·have hk8:¬ e.kd=8:=by simp at hk;exact hk.1
  have hk13:¬ e.kd=13:=by simp at hk;exact hk.2
  unfold cs5
  gi_wp2_with fail
  refine ⟨trivial,(parts_call (n - 1) e pn cn pk ck _).mono ?_⟩
  rintro r w' ⟨rfl,rfl⟩
  unfold cs5
  gi_wp2_with fail
  have A1:=(((Hold.new (w.alloc (.cells #[.int .i64 e.kd,.string (S e.nm),.int .i64 e.nu,.slice pn e.ns.length cn,.slice pk e.ks.length ck] 27)) #[.func (.func 65) #[] #[]] 103).alloc (.cells #[.bool false] 4)).alloc (.cells #[.int .i64 1] 3)).alloc (.cells #[.int .i64 e.kd,.string (S e.nm),.int .i64 e.nu,.slice pn e.ns.length cn,.slice pk e.ks.length ck] 27)
  have A2:=((Hold.new ((w.alloc (.cells #[.int .i64 e.kd,.string (S e.nm),.int .i64 e.nu,.slice pn e.ns.length cn,.slice pk e.ks.length ck] 27)).alloc (.cells #[.func (.func 65) #[] #[]] 103)) #[.bool false] 4).alloc (.cells #[.int .i64 1] 3)).alloc (.cells #[.int .i64 e.kd,.string (S e.nm),.int .i64 e.nu,.slice pn e.ns.length cn,.slice pk e.ks.length ck] 27)
  have A3:=(Hold.new (((w.alloc (.cells #[.int .i64 e.kd,.string (S e.nm),.int .i64 e.nu,.slice pn e.ns.length cn,.slice pk e.ks.length ck] 27)).alloc (.cells #[.func (.func 65) #[] #[]] 103)).alloc (.cells #[.bool false] 4)) #[.int .i64 1] 3).alloc (.cells #[.int .i64 e.kd,.string (S e.nm),.int .i64 e.nu,.slice pn e.ns.length cn,.slice pk e.ks.length ck] 27)
  have A4:=Hold.new ((((w.alloc (.cells #[.int .i64 e.kd,.string (S e.nm),.int .i64 e.nu,.slice pn e.ns.length cn,.slice pk e.ks.length ck] 27)).alloc (.cells #[.func (.func 65) #[] #[]] 103)).alloc (.cells #[.bool false] 4)).alloc (.cells #[.int .i64 1] 3)) #[.int .i64 e.kd,.string (S e.nm),.int .i64 e.nu,.slice pn e.ns.length cn,.slice pk e.ks.length ck] 27
  have AB:Below w.heap.size w (((((w.alloc (.cells #[.int .i64 e.kd,.string (S e.nm),.int .i64 e.nu,.slice pn e.ns.length cn,.slice pk e.ks.length ck] 27)).alloc (.cells #[.func (.func 65) #[] #[]] 103)).alloc (.cells #[.bool false] 4)).alloc (.cells #[.int .i64 1] 3)).alloc (.cells #[.int .i64 e.kd,.string (S e.nm),.int .i64 e.nu,.slice pn e.ns.length cn,.slice pk e.ks.length ck] 27)):=(((((Below.refl _ w).alloc (Nat.le_refl _) _).alloc (by simp) _).alloc (by simp;omega) _).alloc (by simp;omega) _).alloc (by simp;omega) _
  have AZ:((((((w.alloc (.cells #[.int .i64 e.kd,.string (S e.nm),.int .i64 e.nu,.slice pn e.ns.length cn,.slice pk e.ks.length ck] 27)).alloc (.cells #[.func (.func 65) #[] #[]] 103)).alloc (.cells #[.bool false] 4)).alloc (.cells #[.int .i64 1] 3)).alloc (.cells #[.int .i64 e.kd,.string (S e.nm),.int .i64 e.nu,.slice pn e.ns.length cn,.slice pk e.ks.length ck] 27))).heap.size=w.heap.size+1+1+1+1+1:=by simp
  simp only [World.size_alloc] at A1 A2 A3 A4
  generalize (((((w.alloc (.cells #[.int .i64 e.kd,.string (S e.nm),.int .i64 e.nu,.slice pn e.ns.length cn,.slice pk e.ks.length ck] 27)).alloc (.cells #[.func (.func 65) #[] #[]] 103)).alloc (.cells #[.bool false] 4)).alloc (.cells #[.int .i64 1] 3)).alloc (.cells #[.int .i64 e.kd,.string (S e.nm),.int .i64 e.nu,.slice pn e.ns.length cn,.slice pk e.ks.length ck] 27))=W0 at *
  obtain ⟨bA,hbA⟩:∃ b,b=w.heap.size+1:=⟨_,rfl⟩
  obtain ⟨bR,hbR⟩:∃ b,b=w.heap.size+1+1:=⟨_,rfl⟩
  obtain ⟨bS,hbS⟩:∃ b,b=w.heap.size+1+1+1:=⟨_,rfl⟩
  obtain ⟨bP,hbP⟩:∃ b,b=w.heap.size+1+1+1+1:=⟨_,rfl⟩
  rw [← hbA] at A1
  rw [← hbR] at A2
  rw [← hbS] at A3
  rw [← hbP] at A4
  rw [← hbP,← hbS,← hbR,← hbA]
  have o1:w.heap.size<bA:=by omega
  have o2:bA<bR:=by omega
  have o3:bR<bS:=by omega
  have o4:bS<bP:=by omega
  have o5:bP<W0.heap.size:=by omega
  clear hbA hbR hbS hbP AZ
  have HWE:=hide AB
  refine range_cells h1 (gf:=181) (lb:=#[.pointer (some ⟨bP,0,none⟩)]) rfl (enters_of Tryz.func181 (by kernel_rfl) rfl)
   (parts_it (n:=n - 1) (by omega) hP hE hD A4.lt A4 AB) KpB.trans (KpB.put AB.size A4.lt) (fun _=>rfl)
   (fun pre W=>goC 1 (pre.map bareP)=true∧Hold bS #[.int .i64 ((1+kidsN (pre.map bareP):Nat):Int)] 3 W∧Hold bR #[.bool false] 4 W∧Hold bA #[.func (.func 65) #[] #[]] 103 W∧Below w.heap.size w W∧W0.heap.size≤W.heap.size)
   (fun pre W=>goC 1 (pre.map bareP)=false∧Hold bR #[.bool false] 4 W∧Below w.heap.size w W∧W0.heap.size≤W.heap.size)
   (fun s A B row hs hg hr=>⟨hs.1,own_hold hs.2.1 hg hr (by omega),own_hold hs.2.2.1 hg hr (by omega),own_hold hs.2.2.2.1 hg hr (by omega),own_below hs.2.2.2.2.1 hg hr (by omega) (by omega),Nat.le_trans hs.2.2.2.2.2 hg.size⟩)
   (fun s A B row hs hg hr=>⟨hs.1,own_hold hs.2.1 hg hr (by omega),own_below hs.2.2.1 hg hr (by omega) (by omega),Nat.le_trans hs.2.2.2 hg.size⟩)
   ⟨rfl,A3,A2,A1,AB,Nat.le_refl _⟩
   (fun x W=>{ tmps:=#[.agg #[.int .i64 e.kd,.string (S e.nm),.int .i64 e.nu,.slice pn e.ns.length cn,.slice pk e.ks.length ck],.func (.func 65) #[] #[],.pointer (some ⟨w.heap.size,0,none⟩),.pointer (some ⟨bA,0,none⟩),.pointer (some ⟨bR,0,none⟩),.pointer (some ⟨bS,0,none⟩),.int .i64 x.1.lv,.pointer (some ⟨W.heap.size,0,none⟩),.pointer (some ⟨w.heap.size,0,none⟩),.int .i64 e.kd,.bool (e.kd == 8),.bool (e.kd == 8),.pointer (some ⟨w.heap.size,0,none⟩),.int .i64 e.kd,.bool (e.kd == 13),.bool false,.agg #[.int .i64 e.kd,.string (S e.nm),.int .i64 e.nu,.slice pn e.ns.length cn,.slice pk e.ks.length ck],.func (.func 181) #[] #[.pointer (some ⟨bP,0,none⟩)],.int .i64 x.1.lv,.agg #[.int .i64 x.1.t.kd,.string (S x.1.t.nm),.int .i64 x.1.t.nu,.slice x.1.pn x.1.t.ns.length x.1.cn,.slice x.1.pk x.1.t.ks.length x.1.ck],undef,undef,undef,undef,undef,undef,undef,undef,undef,undef,undef,undef,undef,undef,undef,undef,undef,undef,undef,undef,undef,undef,undef],defers:=[] })
   (fun x W=>W.alloc (.cells #[.int .i64 x.1.t.kd,.string (S x.1.t.nm),.int .i64 x.1.t.nu,.slice x.1.pn x.1.t.ns.length x.1.cn,.slice x.1.pk x.1.t.ks.length x.1.ck] 27))
   (fun x W hWs=>⟨World.grownBy_alloc W _ none,?_⟩) ?_ ?_ ?_ ?_
  ·exact ⟨(Below.refl _ W).alloc (by omega) _,Below.heap_alloc W _ bP (by omega),fun k C t f hb hk=>(Below.heap_alloc W _ k (Array.getElem?_eq_some_iff.1 hk).1).trans hk⟩
  ·intro ld x W K hK
   unfold encP cs5
   gi_wp2
   exact hK
  ·rintro ld pre ⟨⟨lv,t,qn,dn,qk,dk⟩,hx⟩ W X hWs hXs hXb ⟨hgo,hS,hR,hA,hB,hsz⟩ hlen
   obtain ⟨hIn,hlv9,hbn⟩:=hx
   dsimp only at hIn hlv9 hbn hXs hXb ⊢
   have hpt:Hold W.heap.size #[.int .i64 t.kd,.string (S t.nm),.int .i64 t.nu,.slice qn t.ns.length dn,.slice qk t.ks.length dk] 27 X:=(hXb W.heap.size (by omega)).trans (Hold.new W _ 27)
   have c0:=hpt.cell 0;have c1:=hpt.cell 1;have c2:=hpt.cell 2;have c3:=hpt.cell 3;have c4:=hpt.cell 4
   simp only [lGA,lGS,lGZ] at c0 c1 c2 c3 c4
   have hkn:kidsN (pre.map bareP)≤1000:=goC_le hgo
   have sS:=hS.cell 0
   have fS:=hS.frozen 0
   have sA:=hA.cell 0
   have sR:=hR.cell 0
   have fR:=hR.frozen 0
   simp only [lGA,lGS,lGZ] at sS sA sR
   have HGO:Hid (∀ y:PN P w,bareP y=(lv,t)→goC 1 ((pre ++ [y]).map bareP)=(decide (lv≤30) && decide (1+kidsN (pre.map bareP)+t.ks.length≤1000) && soundM t)∧kidsN ((pre ++ [y]).map bareP)=kidsN (pre.map bareP)+t.ks.length):=by
    intro y hy
    rw [List.map_append,List.map_cons,List.map_nil,hy,goC_app,hgo]
    simp [goC,kidsN]
   obtain ⟨Y,hY⟩:∃ Y,Y=X.setCell ⟨bS,0,none⟩ (.int .i64 (1+(kidsN (pre.map bareP):Int)+(t.ks.length:Int))):=⟨_,rfl⟩
   have kY:KP (fun k=>k<X.heap.size∧¬ (k=bS∨k=bR)) X Y:=by rw [hY];exact KP.setCell _ _ _ _ (fun h=>h.2 (.inl rfl))
   have bY:Below w.heap.size w Y:=by rw [hY];exact hB.setCell (p:=⟨bS,0,none⟩) (by show w.heap.size≤bS;omega) _
   have hSY:Hold bS #[.int .i64 (1+(kidsN (pre.map bareP):Int)+(t.ks.length:Int))] 3 Y:=by rw [hY];have:=hS.set 0 (.int .i64 (1+(kidsN (pre.map bareP):Int)+(t.ks.length:Int)));simpa using this
   have hRY:Hold bR #[.bool false] 4 Y:=by rw [hY];exact hR.other (by omega) _ _
   have hAY:Hold bA #[.func (.func 65) #[] #[]] 103 Y:=by rw [hY];exact hA.other (by omega) _ _
   have hPY:Hold W.heap.size #[.int .i64 t.kd,.string (S t.nm),.int .i64 t.nu,.slice qn t.ns.length dn,.slice qk t.ks.length dk] 27 Y:=by rw [hY];exact hpt.other (by omega) _ _
   have HSO:=hide (sound_any (P:=P) (w:=Y) (fun b hb=>Nat.lt_of_lt_of_le (hP b hb) bY.size) (TrIn.keep (KP.of_below bY hP) (fun b hb=>hb) t _ hIn))
   have HYS:=hide fun k=>yes_any k Y
   have HKY:=hide kY
   have HBY:=hide bY
   have HSY:=hide hSY
   have HRY:=hide hRY
   have HAY:=hide hAY
   have HPY:=hide hPY
   clear kY bY hSY hRY hAY hPY hgo hS hR hA hpt hXb
   have hii:=HGO.out ⟨⟨lv,t,qn,dn,qk,dk⟩,hIn,hlv9,hbn⟩ rfl
   have HII:=hide hii
   have HXS:Hid (W0.heap.size≤X.heap.size):=hsz
   clear hii HGO
   by_cases hc1:lv≤30
   ·by_cases hc2:1+kidsN (pre.map bareP)+t.ks.length≤1000
    ·have hc1i:¬ (30:Int)<lv:=by omega
     have hc2i:¬ (1000:Int)<1+(kidsN (pre.map bareP):Int)+t.ks.length:=by omega
     gi_wp2_with fail
     rw [← hY]
     refine ⟨trivial,fun _=>by omega,(CallsIn.inRound ld (callsIn_wide.2 (HYS.out _))).mono ?_⟩
     rintro r w5 ⟨rfl,rfl⟩
     clear hY
     have e0:=HPY.out.cell 0;have e1:=HPY.out.cell 1;have e2:=HPY.out.cell 2;have e3:=HPY.out.cell 3;have e4:=HPY.out.cell 4
     simp only [lGA,lGS,lGZ] at e0 e1 e2 e3 e4
     unfold cs5 at HSO
     cases hsd:soundM t
     ·rw [hsd] at HSO
      have HSD:=hide hsd
      clear hsd
      gi_wp2_with fail
      refine ⟨trivial,fun _=>by omega,(CallsIn.inRound ld (callsIn_wide.2 HSO.out)).mono ?_⟩
      rintro r w6 ⟨rfl,hb6⟩
      have hR6:=HRY.out.below hb6 HRY.out.lt
      have s6:=hR6.cell 0
      have f6:=hR6.frozen 0
      simp only [lGA,lGS,lGZ] at s6
      have HB6:=hide hb6
      have HR6:=hide hR6
      clear hb6 hR6
      gi_wp2_with fail
      have kW:KP (fun k=>k<X.heap.size∧¬ (k=bS∨k=bR)) X w6:=HKY.out.trans (KP.of_below HB6.out (fun b hb=>Nat.lt_of_lt_of_le hb.1 HKY.out.size))
      have kZ:=kW.trans (KP.setCell (P:=fun k=>k<X.heap.size∧¬ (k=bS∨k=bR)) w6 bR 0 (.bool false) (fun h=>h.2 (.inr rfl)))
      refine ⟨kf_of kZ (fun k h=>by omega),?_,?_,?_,?_⟩
      ·rw [HII.out.1];rw [HSD.out];simp
      ·have:=(HR6.out).set 0 (.bool false);simpa using this
      ·exact (HBY.out.trans (HB6.out.mono HBY.out.size)).setCell (p:=⟨bR,0,none⟩) (by show w.heap.size≤bR;omega) _
      ·have:=kZ.size;have:=HXS.out;omega
     ·rw [hsd] at HSO
      have HSD:=hide hsd
      clear hsd
      gi_wp2_with fail
      refine ⟨trivial,fun _=>by omega,(CallsIn.inRound ld (callsIn_wide.2 HSO.out)).mono ?_⟩
      rintro r w6 ⟨rfl,hb6⟩
      have HB6:=hide hb6
      clear hb6
      gi_wp2_with fail
      have kW:KP (fun k=>k<X.heap.size∧¬ (k=bS∨k=bR)) X w6:=HKY.out.trans (KP.of_below HB6.out (fun b hb=>Nat.lt_of_lt_of_le hb.1 HKY.out.size))
      refine ⟨kf_of kW (fun k h=>by omega),kp_of kW (fun k h=>by omega) (by have:=HXS.out;have:=HWE.out.size;omega) (by have:=HXS.out;omega),?_,?_,?_,?_,?_,?_⟩
      ·rw [HII.out.1,HSD.out];simp [hc1,hc2]
      ·have h1:=HSY.out.below HB6.out HSY.out.lt
       have h2:((1+kidsN (List.map bareP (pre ++ [⟨⟨lv,t,qn,dn,qk,dk⟩,hIn,hlv9,hbn⟩])):Nat):Int)=1+(kidsN (pre.map bareP):Int)+t.ks.length:=by rw [HII.out.2];omega
       rw [h2];exact h1
      ·exact HRY.out.below HB6.out HRY.out.lt
      ·exact HAY.out.below HB6.out HAY.out.lt
      ·exact HBY.out.trans (HB6.out.mono HBY.out.size)
      ·have:=kW.size;have:=HXS.out;omega
    ·have hc1i:¬ (30:Int)<lv:=by omega
     have hc2i:(1000:Int)<1+(kidsN (pre.map bareP):Int)+t.ks.length:=by omega
     have gR:(X.setCell ⟨bS,0,none⟩ (.int .i64 (1+(kidsN (pre.map bareP):Int)+(t.ks.length:Int)))).frozen? ⟨bR,0,none⟩=false:=by rw [← hY];exact HRY.out.frozen 0
     have gS:(X.setCell ⟨bS,0,none⟩ (.int .i64 (1+(kidsN (pre.map bareP):Int)+(t.ks.length:Int)))).cell? ⟨bR,0,none⟩=some (.bool false):=by rw [← hY];exact HRY.out.cell 0
     gi_wp2_with fail
     refine ⟨fun f h=>(by cases h),?_⟩
     gi_wp2_with fail
     refine ⟨trivial,?_⟩
     gi_wp2_with fail
     rw [← hY]
     have kW:=HKY.out
     have kZ:=kW.trans (KP.setCell (P:=fun k=>k<X.heap.size∧¬ (k=bS∨k=bR)) Y bR 0 (.bool false) (fun h=>h.2 (.inr rfl)))
     refine ⟨kf_of kZ (fun k h=>by omega),?_,?_,?_,?_⟩
     ·rw [HII.out.1];simp [hc2]
     ·have:=(HRY.out).set 0 (.bool false);simpa using this
     ·exact (HBY.out).setCell (p:=⟨bR,0,none⟩) (by show w.heap.size≤bR;omega) _
     ·have:=kZ.size;have:=HXS.out;omega
   ·have hc1i:(30:Int)<lv:=by omega
    have gR:(X.setCell ⟨bS,0,none⟩ (.int .i64 (1+(kidsN (pre.map bareP):Int)+(t.ks.length:Int)))).frozen? ⟨bR,0,none⟩=false:=by rw [← hY];exact HRY.out.frozen 0
    have gS:(X.setCell ⟨bS,0,none⟩ (.int .i64 (1+(kidsN (pre.map bareP):Int)+(t.ks.length:Int)))).cell? ⟨bR,0,none⟩=some (.bool false):=by rw [← hY];exact HRY.out.cell 0
    gi_wp2_with fail
    refine ⟨fun f h=>(by cases h),?_⟩
    gi_wp2_with fail
    refine ⟨trivial,?_⟩
    gi_wp2_with fail
    rw [← hY]
    have kW:=HKY.out
    have kZ:=kW.trans (KP.setCell (P:=fun k=>k<X.heap.size∧¬ (k=bS∨k=bR)) Y bR 0 (.bool false) (fun h=>h.2 (.inr rfl)))
    refine ⟨kf_of kZ (fun k h=>by omega),?_,?_,?_,?_⟩
    ·rw [HII.out.1];simp [hc1]
    ·have:=(HRY.out).set 0 (.bool false);simpa using this
    ·exact (HBY.out).setCell (p:=⟨bR,0,none⟩) (by show w.heap.size≤bR;omega) _
    ·have:=kZ.size;have:=HXS.out;omega
  ·rintro ys W hS ⟨hgo,hSz,hR,hA,hB,hsz⟩ hK
   have c2:=hR.cell 0
   have f2:=hR.frozen 0
   gi_wp2
   have hK':=(KeepsOthers.setCell W ⟨bR,0,none⟩ (.bool true)).same W0.heap.size _ hK rfl
   have H2:=hold_putP (hR.set 0 (.bool true)) (.deferred none) hK' rfl
   have B2:=(hB.setCell (p:=⟨bR,0,none⟩) (by show w.heap.size≤bR;omega) (.bool true)).trans (belowK_b (w:=w) (Nat.le_refl _) _ W0.heap.size _ (.deferred none) (by omega) hK' rfl rfl)
   have e1:=H2.cell 0
   simp at e1
   refine ⟨by simp,.inl ⟨_,_,rfl,run_takeDeferred hK',?_⟩⟩
   refine ⟨.bool true,?_,?_⟩
   ·simp [results,Tryz.f64,go_sem,e1]
   ·exact ⟨by unfold checkM;rw [hk,← hS,hgo];rfl,B2⟩
  ·rintro pre W ⟨r,hr⟩ ⟨hgo,hR,hB,hsz⟩ hK
   gi_wp2
   have e1:=(hold_putP hR (.deferred none) hK rfl).cell 0
   simp at e1
   have B2:=hB.trans (belowK_b (w:=w) (Nat.le_refl _) _ W0.heap.size _ (.deferred none) (by omega) hK rfl rfl)
   refine ⟨by simp,.inl ⟨_,_,rfl,run_takeDeferred hK,?_⟩⟩
   refine ⟨.bool false,?_,?_⟩
   ·simp [results,Tryz.f64,go_sem,e1]
   ·exact ⟨by unfold checkM;rw [← hr,goC_bad _ _ _ hgo,Bool.and_false],B2⟩
 ·unfold cs5
  have hk':(e.kd == 8)=true∨(e.kd == 8)=false∧(e.kd == 13)=true:=by
   cases h8:(e.kd == 8)
   ·rw [h8] at hk;exact .inr ⟨rfl,by simpa using hk⟩
   ·exact .inl rfl
  rcases hk' with h8 | ⟨h8,h13⟩
  ·gi_wp2_with fail
   have A2:=Hold.new ((w.alloc (.cells #[.int .i64 e.kd,.string (S e.nm),.int .i64 e.nu,.slice pn e.ns.length cn,.slice pk e.ks.length ck] 27)).alloc (.cells #[.func (.func 65) #[] #[]] 103)) #[.bool false] 4
   simp only [World.size_alloc] at A2
   have e1:=A2.cell 0
   simp only [lGA,lGS,lGZ] at e1
   refine ⟨.bool false,?_,?_⟩
   ·simp [results,Tryz.f64,go_sem,e1]
   ·exact ⟨by unfold checkM;rw [hk];rfl,(((Below.refl _ w).alloc (Nat.le_refl _) _).alloc (by simp) _).alloc (by simp;omega) _⟩
  ·gi_wp2_with fail
   have A2:=Hold.new ((w.alloc (.cells #[.int .i64 e.kd,.string (S e.nm),.int .i64 e.nu,.slice pn e.ns.length cn,.slice pk e.ks.length ck] 27)).alloc (.cells #[.func (.func 65) #[] #[]] 103)) #[.bool false] 4
   simp only [World.size_alloc] at A2
   have e1:=A2.cell 0
   simp only [lGA,lGS,lGZ] at e1
   refine ⟨.bool false,?_,?_⟩
   ·simp [results,Tryz.f64,go_sem,e1]
   ·exact ⟨by unfold checkM;rw [hk];rfl,(((Below.refl _ w).alloc (Nat.le_refl _) _).alloc (by simp) _).alloc (by simp;omega) _⟩
theorem check_tree {P:Nat→Prop} {w:World} {e:Tr} {pn:Option Addr} {cn:Nat} {pk:Option Addr} {ck:Nat} (hP:∀ b,P b→b<w.heap.size) (hE:TrIn P w e [.int .i64 e.kd,.string (S e.nm),.int .i64 e.nu,.slice pn e.ns.length cn,.slice pk e.ks.length ck]) (hD:∀ x ∈ po e 1,x.1≤1000000∧x.2.ks.length≤1000000) :
 Calls Tryz.prog 28 #[.agg (cs5 e pn cn pk ck)] w fun r w'=>r=.returned (.bool (checkM e))∧Below w.heap.size w w':=by
 have hB:Below w.heap.size w (w.alloc (.cells (cs5 e pn cn pk ck) 27)):=(Below.refl _ w).alloc (Nat.le_refl _) _
 have HC:=hide (callsIn_wide.1 (may_in (n:=8) (Nat.le_refl _) (fun b hb=>Nat.lt_of_lt_of_le (hP b hb) hB.size) (TrIn.keep (KP.of_below hB hP) (fun b hb=>hb) e _ hE) hD))
 have HB:=hide hB
 clear hB hE hD
 unfold cs5 at *
 go_enter Tryz.func28,Tryz.ntmps28
 go_wp2_with fail
 refine HC.out.mono ?_
 rintro r w1 ⟨rfl,hb1⟩
 have HB1:=hide hb1
 clear hb1
 go_wp2_with fail
 go_ret
 exact ⟨rfl,HB.out.trans (HB1.out.mono HB.out.size)⟩
end Go.Proofs.YtcnnlecjdkfdjaaGreatDoor
