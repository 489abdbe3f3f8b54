/- Then ThenP: the texts of these names, of which the claim is made. -/
import Derived.Test.YtcnnlecjdkfdjaaGreatDoorRoundJ
import Derived.RangeFuncBound
import Derived.OwnWalkIn
import Derived.TacticsInMore
import Derived.LoopNIn
import Derived.LoopIn
import Derived.Deep.RegionLaw
import Derived.Deep.AppendLies
import Derived.Shelf.Abstract
set_option linter.unusedVariables false
set_option linter.unusedSimpArgs false
set_option maxRecDepth 100000
set_option maxHeartbeats 8000000
namespace Go.Proofs.YtcnnlecjdkfdjaaGreatDoor
open Go.RowKit
attribute [local go_sem] Oper.semAt_some
abbrev Bv:=Int × Fn × Array Value × Array Value
def valB (x:Bv):Value:=.func x.2.1 x.2.2.1 x.2.2.2
def encB (x:Bv):Array Value:=#[.int .i64 x.1,.func x.2.1 x.2.2.1 x.2.2.2]
theorem back1_in (n:Nat) (hn:1≤n) (ld bs b0 m cap:Nat) (L:List Value) (hl:L.length=m) (hm:m≤1000) (h1:∀ v ∈ L,∃ f x y,v=.func f x y) (J Jx:List Bv→World→Prop)
 (hY:∀ pre x W,J pre W→pre.length<m→YieldAt Fence.wide (n - 1) Tryz.prog ld (encB x) W fun e W'=>
  (e=.returned (.bool true)∧J (pre ++ [x]) W'∧(W'.heap[b0]?=W.heap[b0]?∧W'.heap[bs]?=W.heap[bs]?))∨(e=.returned (.bool false)∧Jx (pre ++ [x]) W'))
 (W:World) (hbs:W.cell? ⟨bs,0,none⟩=some (.slice (some ⟨b0,0,none⟩) m cap)) (hb0:∀ i v,L[i]?=some v→W.cell? ⟨b0,i,none⟩=some v) (h0:J [] W) :
 CallsIn Fence.wide n Tryz.prog 170 #[.func (.yield ld) #[] #[],.pointer (some ⟨bs,0,none⟩)] W fun e W'=>(∃ v,e=.returned v) ∧
  ((∃ ys,ys.map valB=L.reverse∧J ys W')∨(∃ pre,True∧Jx pre W')):=by
 refine callsIn_of_wp Tryz.func170 rfl trivial ?_ rfl
 simp only [Tryz.ntmps170,List.size_toArray,List.length_cons,List.length_nil,Nat.reduceAdd,Nat.reduceSub,Array.replicate_succ,Array.replicate_zero,List.push_toArray,List.append_toArray,List.nil_append,List.cons_append]
 have HY:=hide hY
 have HL:=hide hl
 have H1:=hide h1
 have HB0:=hide hb0
 clear hY hl h1 hb0
 gi_wp2_with fail
 gi_loopw [3] (fun i wr=>∃ (pre:List Bv) (k:Nat),i=.int .i64 ((m:Int) - 1 - k)∧pre.length=k∧k≤m∧J pre wr∧pre.map valB=L.reverse.take k∧wr.heap[b0]?=W.heap[b0]?∧wr.heap[bs]?=W.heap[bs]?)
  (fun i wr=>(intOf i+1).toNat)
 case atStart=>exact ⟨[],0,by simp,rfl,by omega,h0,by simp,rfl,rfl⟩
 case round=>
  obtain ⟨pre,k,rfl,hpre,hkm,hJs,hval,hk0,hks⟩:=hrel
  have cs:wr.cell? ⟨bs,0,none⟩=some (.slice (some ⟨b0,0,none⟩) m cap):=(World.cell?_of_block hks).trans hbs
  by_cases hlt:k<m
  ·have hil:m - 1 - k<L.length:=by rw [HL.out];omega
   have a0:wr.cell? ⟨b0,m - 1 - k,none⟩=some L[m - 1 - k]:=(World.cell?_of_block (a:=⟨b0,m - 1 - k,none⟩) hk0).trans (HB0.out _ _ (by simp))
   obtain ⟨vf,vx,vy,ho⟩:=H1.out L[m - 1 - k] (by simp)
   have HV:Hid (L.reverse.take (k+1)=L.reverse.take k ++ [L[m - 1 - k]]):=by
    show _=_
    rw [List.take_succ_eq_append_getElem (by rw [List.length_reverse,HL.out];exact hlt),List.getElem_reverse]
    simp only [HL.out]
   rw [ho] at a0
   have HV':Hid (L.reverse.take (k+1)=L.reverse.take k ++ [.func vf vx vy]):=by show _=_;rw [← ho];exact HV.out
   clear HV ho
   have hPL:pre.length<m:=by omega
   have hi0:(0:Int)≤(m:Int) - 1 - k:=by omega
   have hi1:(m:Int) - 1 - k<m:=by omega
   have hi2:((m:Int) - 1 - k).toNat=m - 1 - k:=by omega
   obtain ⟨fn,tmps,assign,body,hy,hR⟩:=HY.out pre ((m:Int) - 1 - k,vf,vx,vy) wr hJs hPL
   simp only [encB] at hy
   have HR:=hide hR
   have HVA:=hide hval
   have HPR:=hide hpre
   clear hR hval hpre
   gi_wp2_with fail
   refine HR.out.mono ?_
   rintro e W3 (⟨rfl,hJ3,hk3,hk4⟩ | ⟨rfl,hJx3⟩)
   ·gi_wp2_with fail
    go_roundw
    case rel=>exact ⟨pre ++ [((m:Int) - 1 - k,vf,vx,vy)],k+1,by go_num,by simp [HPR.out],by omega,hJ3,by rw [List.map_append,HVA.out,HV'.out];rfl,hk3.trans hk0,hk4.trans hks⟩
    case measure=>simp [intOf];omega
   ·gi_wp2_with fail
    refine bodyPost_ret (results_none rfl _ _ _) rfl ?_
    exact ⟨⟨_,rfl⟩,.inr ⟨_,trivial,hJx3⟩⟩
  ·have hi0:¬ (0:Int)≤(m:Int) - 1 - k:=by omega
   have HVA:=hide hval
   clear hval hpre
   gi_wp2
   go_end0
   exact ⟨⟨_,rfl⟩,.inl ⟨pre,by rw [HVA.out,List.take_of_length_le (by rw [List.length_reverse,HL.out];omega)],hJs⟩⟩
theorem back_in (n:Nat) (p:Option Addr) (m c:Nat) (w:World) :
 CallsIn Fence.wide n Tryz.prog 111 #[.slice p m c] w fun e w'=>e=.returned (.func (.func 170) #[] #[.pointer (some ⟨w.heap.size,0,none⟩)])∧w'=w.alloc (.cells #[.slice p m c] 59):=by
 refine callsIn_of_wp Tryz.func111 rfl trivial ?_ rfl
 simp only [Tryz.ntmps111,List.size_toArray,List.length_cons,List.length_nil,Nat.reduceAdd,Nat.reduceSub,Array.replicate_succ,Array.replicate_zero,List.push_toArray,List.append_toArray,List.nil_append,List.cons_append]
 gi_wp2
 go_ret
 exact ⟨rfl,rfl⟩
def ThenI (w:World) (B:Nat) (tp:Option Addr) (tn tc tk n0:Nat) (vr ve vs vf vd vp:Value) (xs0 ys:List Value) (W:World):Prop:=
 ∃ q cp,Hold B (psC tp tn tc tk (.slice q (n0+ys.length) cp) ve vs vf vd vp) 63 W∧W.ownsRow 0 1 1 (.slice q (n0+ys.length) cp) (n0+ys.length) (xs0 ++ ys)∧((Value.slice q (n0+ys.length) cp).ownBlock=vr.ownBlock∨∃ g,w.heap.size≤g∧q=some ⟨g,0,none⟩)∧KP (fun b=>b<w.heap.size∧b≠B∧some b≠vr.ownBlock) w W
theorem info1:(Tryz.prog.info? 1).map (fun i=>(i.zero,i.size,i.bytes))=some (some .nilFunc,1,8):=by kernel_rfl
theorem ThenI.own {w:World} {B:Nat} {tp:Option Addr} {tn tc tk n0:Nat} {vr ve vs vf vd vp:Value} {xs0 ys:List Value} {W W':World} {row:Option Nat} {b:Nat} (hb:w.heap.size≤b) (h:ThenI w B tp tn tc tk n0 vr ve vs vf vd vp xs0 ys W) (hg:W.grownBy W' row) (hr:∀ r,row=some r→b≤r∧∃ o:Obj,W.heap[r]?=some o∧o.isCells=false):ThenI w B tp tn tc tk n0 vr ve vs vf vd vp xs0 ys W':=by
 have hk:∀ {g:Nat} {C:Array Value} {t:TypeId} {f:Nat × Nat},W.heap[g]?=some (.cells C t f)→W'.heap[g]?=W.heap[g]?:=fun {g C t f} hh=>hg.block g (Array.getElem?_eq_some_iff.1 hh).1 (fun e=>by
  obtain ⟨_,o,ho,hc⟩:=hr g e.symm
  rw [hh] at ho;cases ho;cases hc)
 obtain ⟨q,cp,h1,h2,h3,h4⟩:=h
 refine ⟨q,cp,(hk h1).trans h1,?_,h3,h4.trans ⟨hg.os,hg.tape,hg.output,hg.size,fun x hx=>hg.block x (Nat.lt_of_lt_of_le hx.1 h4.size) (fun e=>by have:=(hr x e.symm).1;omega)⟩⟩
 rcases h2 with ⟨e1,h2 | ⟨g,cap,cur,hv,hb,hgb,r⟩⟩
 ·exact ⟨e1,.inl h2⟩
 ·exact ⟨e1,.inr ⟨g,cap,cur,hv,hb,(hk hgb).trans hgb,r⟩⟩
theorem then_in {n:Nat} (hn:8≤n) {w:World} {B:Nat} {tp:Option Addr} {tn tc tk n0 b0 m cap:Nat} {vr ve vs vf vd vp:Value} {xs0 L:List Value} (hH:Hold B (psC tp tn tc tk vr ve vs vf vd vp) 63 w) (hrow:w.ownsRow 0 1 1 vr n0 xs0) (hn0:n0≤1000000000) (hl:L.length=m) (hm:m≤1000) (h1:∀ v ∈ L,∃ f x y,v=.func f x y) (hL:∀ i v,L[i]?=some v→w.cell? ⟨b0,i,none⟩=some v) (hb0:b0<w.heap.size) (hbB:b0≠B) (hbr:some b0≠vr.ownBlock) (hBr:some B≠vr.ownBlock) :
 CallsIn Fence.wide n Tryz.prog 55 #[.pointer (some ⟨B,0,none⟩),.slice (some ⟨b0,0,none⟩) m cap] w fun e w'=>e=.returned (.tuple #[])∧ThenI w B tp tn tc tk n0 vr ve vs vf vd vp xs0 L.reverse w':=by
 have hn1:1≤n:=by omega
 refine callsIn_of_wp_marks Tryz.func55 rfl trivial ?_ rfl
 simp only [Tryz.ntmps55,List.size_toArray,List.length_cons,List.length_nil,Nat.reduceAdd,Nat.reduceSub,Array.replicate_succ,Array.replicate_zero,List.push_toArray,List.append_toArray,List.nil_append,List.cons_append]
 gi_wp2_with fail
 refine ⟨trivial,(back_in (n - 1) _ _ _ _).mono ?_⟩
 rintro e w' ⟨rfl,rfl⟩
 gi_wp2_with fail
 have A1:=(Hold.new w #[.pointer (some ⟨B,0,none⟩)] 58).alloc (.cells #[.slice (some ⟨b0,0,none⟩) m cap] 59)
 have A2:=Hold.new (w.alloc (.cells #[.pointer (some ⟨B,0,none⟩)] 58)) #[.slice (some ⟨b0,0,none⟩) m cap] 59
 have AB:Below w.heap.size w ((w.alloc (.cells #[.pointer (some ⟨B,0,none⟩)] 58)).alloc (.cells #[.slice (some ⟨b0,0,none⟩) m cap] 59)):=((Below.refl _ w).alloc (Nat.le_refl _) _).alloc (by simp) _
 have AZ:((w.alloc (.cells #[.pointer (some ⟨B,0,none⟩)] 58)).alloc (.cells #[.slice (some ⟨b0,0,none⟩) m cap] 59)).heap.size=w.heap.size+1+1:=by simp
 simp only [World.size_alloc] at A2
 generalize ((w.alloc (.cells #[.pointer (some ⟨B,0,none⟩)] 58)).alloc (.cells #[.slice (some ⟨b0,0,none⟩) m cap] 59))=W0 at *
 obtain ⟨bp,hbp⟩:∃ b,b=w.heap.size:=⟨_,rfl⟩
 obtain ⟨bs,hbs⟩:∃ b,b=w.heap.size+1:=⟨_,rfl⟩
 rw [← hbp] at A1
 rw [← hbs] at A2
 rw [← hbs]
 rw [show (Value.pointer (some { block:=w.heap.size,off:=0 }))=Value.pointer (some ⟨bp,0,none⟩) from by rw [hbp]]
 have hI0:ThenI w B tp tn tc tk n0 vr ve vs vf vd vp xs0 [] W0:=by
  obtain ⟨q,cp,rfl⟩:=slice_of hrow
  exact ⟨q,cp,hH.below AB hH.lt,by rw [List.append_nil];exact row_keep hrow fun g _ hg=>AB.block g hg,.inl rfl,KP.of_below AB fun b hb=>hb.1⟩
 have hlB:=hH.lt
 have HXS:=hide hrow.1
 have o1:w.heap.size≤bp:=by omega
 have o2:bp<bs:=by omega
 have o3:bs<W0.heap.size:=by omega
 have o4:w.heap.size≤W0.heap.size:=by omega
 have o5:b0<bp:=by omega
 clear hbp hbs AZ
 refine wpIn_rangeFunc_ownG rfl hn1 (gf:=170) (lb:=#[.pointer (some ⟨bs,0,none⟩)]) rfl trivial (enters_of Tryz.func170 (by kernel_rfl) rfl)
  (encs:=encB) (Kp:=fun A C=>C.heap[b0]?=A.heap[b0]?∧C.heap[bs]?=A.heap[bs]?) (S:=fun ys=>ys.map valB=L.reverse) (Sp:=fun _=>True) (N:=m) (w0:=W0)
  (fun ld J Jx W hW _ _ hY h0=>back1_in (n - 1) (by omega) ld bs b0 m cap L hl hm h1 J Jx hY W ((hW.cell (p:=⟨bs,0,none⟩) A2.lt).trans (A2.cell 0)) (fun i v hi=>(hW.cell (p:=⟨b0,i,none⟩) (by show b0<_;omega)).trans ((AB.cell (p:=⟨b0,i,none⟩) hb0).trans (hL i v hi))) h0)
  (fun h k=>⟨k.1.trans h.1,k.2.trans h.2⟩) (fun W l o o' hl ho hc _=>⟨World.putObj_heap_other (fun e=>by omega),World.putObj_heap_other (fun e=>by omega)⟩) (Below.refl _ _) (fun _=>rfl)
  (fun pre W=>ThenI w B tp tn tc tk n0 vr ve vs vf vd vp xs0 (pre.map valB) W∧Hold bp #[.pointer (some ⟨B,0,none⟩)] 58 W∧Hold bs #[.slice (some ⟨b0,0,none⟩) m cap] 59 W∧W0.heap.size≤W.heap.size)
  (fun c pre W=>False)
  (fun s X Y row hs hg hr=>⟨hs.1.own (b:=W0.heap.size) (by omega) hg hr,(hg.block bp (Array.getElem?_eq_some_iff.1 hs.2.1).1 (fun e=>by have:=(hr bp e.symm).1;omega)).trans hs.2.1,(hg.block bs (Array.getElem?_eq_some_iff.1 hs.2.2.1).1 (fun e=>by have:=(hr bs e.symm).1;omega)).trans hs.2.2.1,Nat.le_trans hs.2.2.2 hg.size⟩)
  (fun c s X Y row hs hg hr=>hs)
  ⟨hI0,A1,A2,Nat.le_refl _⟩
  (fun x=>{ tmps:=#[.pointer (some ⟨B,0,none⟩),.slice (some ⟨b0,0,none⟩) m cap,.pointer (some ⟨bp,0,none⟩),undef,undef,.func x.2.1 x.2.2.1 x.2.2.2,.slice (some ⟨b0,0,none⟩) m cap,.func (.func 170) #[] #[.pointer (some ⟨bs,0,none⟩)],.int .i64 x.1,.func x.2.1 x.2.2.1 x.2.2.2,undef,undef,undef,undef,undef,undef,undef,undef,undef,undef],defers:=[] }) ?assign ?body ?done ?stop
 case assign=>
  intro ld x W K hK
  unfold encB
  gi_wp2
  exact hK
 case body=>
  rintro ld pre ⟨i,f,x,y⟩ W ⟨⟨q,cp,g1,g2,g3,g4⟩,hbx,hbz,hsz⟩ hlt
  dsimp only
  have HP:Hid ((pre ++ [((i,f,x,y):Bv)]).map valB=pre.map valB ++ [.func f x y]):=by show _=_;rw [List.map_append];rfl
  have hkm:(pre.map valB).length≤1000:=by rw [List.length_map];omega
  generalize pre.map valB=ys at *
  obtain ⟨k,hk⟩:∃ k,k=ys.length:=⟨_,rfl⟩
  rw [← hk] at g1 g2 g3 hkm
  have HKL:=hide hk
  clear hk
  have cB:=g1.cell 2
  have cb:=hbx.cell 0
  simp only [lGA,lGS,lGZ] at cB cb
  have nB:some B≠(Value.slice q (n0+k) cp).ownBlock:=by
   rcases g3 with g3 | ⟨g,hg,rfl⟩
   ·rw [g3];exact hBr
   ·simp [Value.ownBlock];omega
  have nb:some bp≠(Value.slice q (n0+k) cp).ownBlock:=row_ne hbx g2 (by decide)
  obtain ⟨i0,hi,hz0,hz1,hz2⟩:=info_parts info1
  have G1:=hide g1
  have G2:=hide g2
  have G3:=hide g3
  have G4:=hide g4
  have HBX:=hide hbx
  have HBZ:=hide hbz
  have ns:some bs≠(Value.slice q (n0+k) cp).ownBlock:=row_ne hbz g2 (by decide)
  clear hbz
  clear g1 g2 g3 g4 hbx hlt
  gi_wp2_with fail
  refine round_J 11 (S:=(fun W':World=>W'.cell? ⟨bp,0,none⟩=some (.pointer (some ⟨B,0,none⟩))∧W'.cell? ⟨B,2,none⟩=some (.slice q (n0+k) cp))) (N:=8) (by kernel_rfl) (by kernel_rfl) (by kernel_rfl) ?_
  have hS:(fun W':World=>W'.cell? ⟨bp,0,none⟩=some (.pointer (some ⟨B,0,none⟩))∧W'.cell? ⟨B,2,none⟩=some (.slice q (n0+k) cp)) W.drew:=⟨cb,cB⟩
  refine take_D (i:=0) 10 (.pointer (some ⟨B,0,none⟩)) rfl rfl (by kernel_rfl) (by kernel_rfl) (by kernel_rfl) (by kernel_rfl) (fun _ _ _ h=>h.elim) (Or.inl ⟨by rfl,fun W' hW=>by obtain ⟨s0,s1⟩:=hW;go_simp⟩) hS ?_
  simp only [Act.put,lSI,lSZ,lSS]
  refine take_D (i:=1) 11 (.pointer (some ⟨B,0,none⟩)) rfl rfl (by kernel_rfl) (by kernel_rfl) (by kernel_rfl) (by kernel_rfl) (fun _ _ _ h=>h.elim) (Or.inl ⟨by rfl,fun W' hW=>by obtain ⟨s0,s1⟩:=hW;go_simp⟩) hS ?_
  simp only [Act.put,lSI,lSZ,lSS]
  refine take_D (i:=2) 12 (.pointer (some ⟨B,0,none⟩)) rfl rfl (by kernel_rfl) (by kernel_rfl) (by kernel_rfl) (by kernel_rfl) (fun _ _ _ h=>h.elim) (Or.inl ⟨by rfl,fun W' hW=>by obtain ⟨s0,s1⟩:=hW;go_simp⟩) hS ?_
  simp only [Act.put,lSI,lSZ,lSS]
  refine take_D (i:=3) 13 (.pointer (some ⟨B,2,none⟩)) rfl rfl (by kernel_rfl) (by kernel_rfl) (by kernel_rfl) (by kernel_rfl) (fun _ _ _ h=>h.elim) (Or.inl ⟨by rfl,fun W' hW=>by obtain ⟨s0,s1⟩:=hW;go_simp⟩) hS ?_
  simp only [Act.put,lSI,lSZ,lSS]
  refine take_D (i:=4) 14 (.slice q (n0+k) cp) rfl rfl (by kernel_rfl) (by kernel_rfl) (by kernel_rfl) (by kernel_rfl) (fun _ _ _ h=>h.elim) (Or.inl ⟨by rfl,fun W' hW=>by obtain ⟨s0,s1⟩:=hW;go_simp⟩) hS ?_
  simp only [Act.put,lSI,lSZ,lSS]
  refine take_D (i:=5) 15 (.func f x y) rfl rfl (by kernel_rfl) (by kernel_rfl) (by kernel_rfl) (by kernel_rfl) (fun _ _ _ h=>h.elim) (Or.inl ⟨by rfl,fun W' hW=>by obtain ⟨s0,s1⟩:=hW;go_simp⟩) hS ?_
  simp only [Act.put,lSI,lSZ,lSS]
  refine ready_E [6] ?_
  intro j hj
  obtain rfl:=List.mem_singleton.1 hj
  refine op_J rfl rfl fun K hK=>?_
  go_simp
  have c1:(W.drew.alloc (.cells #[.func f x y] 1)).cell? ⟨bp,0,none⟩=some (.pointer (some ⟨B,0,none⟩)):=(HBX.out.alloc (.cells #[.func f x y] 1)).cell 0
  have c2:(W.drew.alloc (.cells #[.func f x y] 1)).cell? ⟨B,2,none⟩=some (.slice q (n0+k) cp):=(G1.out.alloc (.cells #[.func f x y] 1)).cell 2
  refine hK _ _ ⟨fun _=>⟨c1,c2⟩,?_⟩
  clear hK K
  refine ready_E [7] ?_
  intro j hj
  obtain rfl:=List.mem_singleton.1 hj
  refine op_J rfl rfl fun K hK=>?_
  refine wp_append_lies _ _ _ _ (by rfl) 0 1 i0 _ 1 8 Tryz.underlying59 hi hz0 hz1 hz2 rfl (by omega) (.slice q (n0+k) cp) (n0+k) (xs0 ++ ys) (by rfl) (((G2.out.alloc (.cells #[.func f x y] 1))).drew) ⟨W.heap.size,0,none⟩ 1 1 [.func f x y] (by rfl) (by rfl) (World.news_of_block (cs:=#[.func f x y]) (t:=1) (fr:=(0,0)) (heap_alloc_new W _)) (by simp [Value.oneCell']) (by omega) (by unfold maxLen;omega) (by omega) (by omega) (W.heap.size+1) (by simp) ?_
  intro gg cap2 W2 hown hgrow hat hlt2
  have HB2:Hold B (psC tp tn tc tk (.slice q (n0+k) cp) ve vs vf vd vp) 63 W2:=(hgrow.block B (Hold.lt (G1.out.alloc _)) nB).trans (G1.out.alloc _)
  have HX2:Hold bp #[.pointer (some ⟨B,0,none⟩)] 58 W2:=(hgrow.block bp (Hold.lt (HBX.out.alloc _)) nb).trans (HBX.out.alloc _)
  have d2:=HB2.cell 2
  have z2:=HB2.frozen 2
  have d0:=HX2.cell 0
  simp only [lGA,lGS,lGZ] at d2 d0
  refine hK _ _ ⟨fun _=>⟨d0,d2⟩,?_⟩
  clear hK K
  refine ready_E [8] ?_
  intro j hj
  obtain rfl:=List.mem_singleton.1 hj
  refine op_J rfl rfl fun K hK=>?_
  go_simp
  refine hK _ _ ⟨fun h=>absurd h (by omega),?_⟩
  clear hK K
  refine ready_E [9] ?_
  intro j hj
  obtain rfl:=List.mem_singleton.1 hj
  refine op_J rfl rfl fun K hK=>?_
  go_simp
  refine hK _ _ ⟨fun h=>absurd h (by omega),?_⟩
  clear hK K
  refine ready_E [10] ?_
  intro j hj
  obtain rfl:=List.mem_singleton.1 hj
  refine op_J rfl rfl fun K hK=>?_
  go_simp
  refine hK _ _ ⟨fun h=>absurd h (by omega),?_⟩
  clear hK K
  refine done_J (by kernel_rfl) ?_ _
  show Exit.inBlock 1 _ .normal _ _
  gi_wp2_with fail
  have n0':some b0≠(Value.slice q (n0+k) cp).ownBlock:=by
   rcases G3.out with g3 | ⟨g,hg,rfl⟩
   ·rw [g3];exact hbr
   ·simp [Value.ownBlock];omega
  have kW:∀ x,x<W.heap.size→x≠B→some x≠(Value.slice q (n0+k) cp).ownBlock→(W2.setCell ⟨B,2,none⟩ (.slice (some ⟨gg,0,none⟩) (n0+k+1) cap2)).heap[x]?=W.heap[x]?:=fun x hx h1 h2=>
   (Below.heap_setCell _ _ _ x h1).trans ((hgrow.block x (by simp;omega) h2).trans (Below.heap_alloc W _ x hx))
  have hsW:W.heap.size≤W2.heap.size:=by have:=hgrow.size;simp at this;omega
  have hBW:=G1.out.lt
  refine ⟨⟨by simpa using hsW,fun x o hx ho hc=>?_⟩,⟨kW b0 (by omega) hbB n0',kW bs (by omega) (by omega) ns⟩,?_,?_,?_,by simp;omega⟩
  ·refine (kW x (Array.getElem?_eq_some_iff.1 ho).1 (by omega) (fun e=>?_)).trans ho
   rcases G2.out.2 with ⟨hv,_⟩ | ⟨g',cap',cur,hv,_,hgb,_⟩
   ·rw [hv] at e;cases e
   ·rw [hv] at e
    have e':x=g':=by simpa [Value.ownBlock] using e
    subst e'
    rw [hgb] at ho
    cases ho
    cases hc
  ·rw [HP.out]
   have hyl:(ys ++ [Value.func f x y]).length=k+1:=by simp [HKL.out]
   refine ⟨some ⟨gg,0,none⟩,cap2,?_,?_,?_,?_⟩
   ·rw [hyl]
    exact HB2.set 2 _
   ·rw [hyl,← List.append_assoc]
    exact row_other hown HB2 (by decide) 2 _
   ·rcases hat with hat | hat
    ·rcases G3.out with g3 | ⟨g,hg,rfl⟩
     ·left
      rw [← g3,hat]
      rfl
     ·right
      have:g=gg:=by simpa [Value.ownBlock] using hat
      exact ⟨gg,by omega,rfl⟩
    ·right
     exact ⟨gg,by omega,rfl⟩
   ·refine G4.out.trans ⟨?_,?_,?_,by simpa using hsW,fun x hx=>kW x (by omega) hx.2.1 ?_⟩
    ·exact hgrow.os
    ·exact hgrow.tape
    ·exact hgrow.output
    ·rcases G3.out with g3 | ⟨g,hg,rfl⟩
     ·rw [g3];exact hx.2.2
     ·simp [Value.ownBlock];omega
  ·exact HX2.other (by omega) 2 _
  ·exact (kW bs (by omega) (by omega) ns).trans HBZ.out
 case done=>
  rintro D ys W hD hS ⟨hI,hbx,hbz,hsz⟩ hK
  rw [hS] at hI
  gi_wp2
  refine ⟨by simp,.inl ⟨_,_,rfl,run_takeDeferred hK,?_⟩⟩
  refine ⟨.tuple #[],?_,?_⟩
  ·simp [results,Tryz.f55,go_sem]
  ·exact ⟨rfl,hI.own (b:=W0.heap.size) o4 (grownBy_putObj' W D _) (fun r e=>by cases e;exact ⟨hD,_,hK,rfl⟩)⟩
 case stop=>
  rintro D c pre W hD hS hI hK
  exact hI.elim
theorem then_raw {w:World} {B:Nat} {tp:Option Addr} {tn tc tk n0 b0 m cap:Nat} {vr ve vs vf vd vp:Value} {xs0 L:List Value} (hH:Hold B (psC tp tn tc tk vr ve vs vf vd vp) 63 w) (hrow:w.ownsRow 0 1 1 vr n0 xs0) (hn0:n0≤1000000000) (hl:L.length=m) (hm:m≤1000) (h1:∀ v ∈ L,∃ f x y,v=.func f x y) (hL:∀ i v,L[i]?=some v→w.cell? ⟨b0,i,none⟩=some v) (hb0:b0<w.heap.size) (hbB:b0≠B) (hbr:some b0≠vr.ownBlock) (hBr:some B≠vr.ownBlock) :
 Calls Tryz.prog 55 #[.pointer (some ⟨B,0,none⟩),.slice (some ⟨b0,0,none⟩) m cap] w fun e w'=>e=.returned (.tuple #[])∧ThenI w B tp tn tc tk n0 vr ve vs vf vd vp xs0 L.reverse w':=callsIn_wide.1 (then_in (n:=8) (Nat.le_refl _) hH hrow hn0 hl hm h1 hL hb0 hbB hbr hBr)
theorem RuV.func {B:Nat} {c:Nat→Nat} {w:World} {i:Nat} {v:Value} {r:Ru} (h:RuV B c w i v r):∃ f x y,v=.func f x y:=by
 obtain ⟨k,s,j,t,n,ns⟩:=r
 unfold RuV at h
 simp only at h
 split at h
 ·obtain ⟨b1,b2,rfl,_⟩:=h;exact ⟨_,_,_,rfl⟩
 ·obtain ⟨b1,b2,b3,rfl,_⟩:=h;exact ⟨_,_,_,rfl⟩
 ·obtain ⟨b1,b2,b3,_,_,rfl,_⟩:=h;exact ⟨_,_,_,rfl⟩
 ·obtain ⟨b1,b2,b3,rfl,_⟩:=h;exact ⟨_,_,_,rfl⟩
 ·obtain ⟨b1,b2,_,_,rfl,_⟩:=h;exact ⟨_,_,_,rfl⟩
 ·obtain ⟨b1,b2,rfl,_⟩:=h;exact ⟨_,_,_,rfl⟩
 ·obtain ⟨b1,b2,rfl,_⟩:=h;exact ⟨_,_,_,rfl⟩
 ·exact ⟨_,_,_,h.2.2⟩
theorem flat_one (L:List Value):(L.map fun v=>[v]).flatten=L:=by
 induction L with
 | nil=>rfl
 | cons a r ih=>rw [List.map_cons,List.flatten_cons,ih];rfl
def ThenQ (c:Nat→Nat) (B:Nat) (l:List Tk) (p:Ps) (w:World) (e:Ending) (w':World):Prop:=
 e=.returned (.tuple #[])∧∃ c',(∀ b,b<w.heap.size→c' b=c b)∧PM c' B l p w'∧KP (Imm c w) w w'
theorem then_any {c:Nat→Nat} {B:Nat} {l:List Tk} {p:Ps} {w:World} {b0 m cap:Nat} {rs:List Ru} (hP:PM c B l p w) (hn:p.ru.length≤1000000000) (hl:rs.length=m) (hm:m≤1000) {L:List Value} (hL:Hold b0 L.toArray 1 w) (hc0:c b0=0) (hLl:L.length=m) (hR:∀ i r,rs[i]?=some r→∃ v,L[i]?=some v∧RuV B c w (p.ru.length+(m - 1 - i)) v r) :
 Calls Tryz.prog 55 #[.pointer (some ⟨B,0,none⟩),.slice (some ⟨b0,0,none⟩) m cap] w (ThenQ c B l { p with ru:=rs ++ p.ru } w):=by
 obtain ⟨tp,tc,vr,ve,vs,vf,vd,vp,hS⟩:=hP
 obtain ⟨L0,k1,k2,k3,k4,k5⟩:=hS.rul
 rw [List.length_reverse] at k1 k3
 have hbB:b0≠B:=fun e=>by have:=hS.colB;rw [← e,hc0] at this;cases this
 have hbr:some b0≠vr.ownBlock:=fun e=>by have:=k4 b0 e.symm;rw [hc0] at this;cases this
 have hBr:some B≠vr.ownBlock:=fun e=>by have:=k4 B e.symm;rw [hS.colB] at this;cases this
 refine (then_raw (cap:=cap) hS.hold k3 hn hLl hm (fun v hv=>?_) (fun i v hi=>?_) hL.lt hbB hbr hBr).mono ?_
 ·obtain ⟨i,hi,rfl⟩:=List.getElem_of_mem hv
  have hi2:i<rs.length:=by omega
  obtain ⟨v,h1,h2⟩:=hR i rs[i] (by simp)
  rw [List.getElem?_eq_getElem hi] at h1
  cases h1
  exact h2.func
 ·rw [hL.cell i]
  simpa using hi
 rintro e w' ⟨rfl,q,cp,g1,g2,g3,g4⟩
 rw [List.length_reverse,hLl] at g1 g2 g3
 have hs:w.heap.size≤w'.heap.size:=g4.size
 have hc:∀ b,b<w.heap.size→(fun b=>if b<w.heap.size then c b else 2) b=c b:=fun b hb=>by simp [hb]
 have s:Step c (fun b=>if b<w.heap.size then c b else 2) (fun k=>k≠1∧k≠2) w w':=
  ⟨g4.mono fun b hb=>⟨hb.1,fun e=>hb.2.1 (by rw [e];exact hS.colB),fun e=>hb.2.2 (k4 b e.symm)⟩,fun b hb _=>hc b hb⟩
 refine ⟨rfl,_,hc,⟨tp,tc,_,ve,vs,vf,vd,vp,g1,(hc B hS.hold.lt).trans hS.colB,hS.ktoks s (by decide),hS.len,hS.at',?_,hS.kexs s (by decide) (by decide),hS.ksgs s (by decide) (by decide),hS.kfms s (by decide) (by decide),hS.kdts s (by decide) (by decide),hS.kdfs s (by decide) (by decide)⟩,s.kimm (by decide)⟩
 have hrev:(rs ++ p.ru).reverse=p.ru.reverse ++ rs.reverse:=List.reverse_append
 refine ⟨L0 ++ L.reverse.map fun v=>[v],?_,?_,?_,?_,?_⟩
 ·simp [k1,hLl,hl,Nat.add_comm]
 ·intro ds hd
  rcases List.mem_append.1 hd with hd | hd
  ·exact k2 ds hd
  ·obtain ⟨v,_,rfl⟩:=List.mem_map.1 hd;rfl
 ·rw [List.flatten_append,flat_one]
  show w'.ownsRow 0 1 1 _ (rs ++ p.ru).reverse.length _
  rw [List.length_reverse,List.length_append,hl,show m+p.ru.length=p.ru.length+m from Nat.add_comm _ _]
  exact g2
 ·intro g hg
  rcases g3 with g3 | ⟨g',hg',rfl⟩
  ·rw [g3] at hg
   have h1:=k4 g hg
   by_cases hlt:g<w.heap.size
   ·simp [hlt,h1]
   ·simp [hlt]
  ·have:g'=g:=by simpa [Value.ownBlock] using hg
   subst this
   simp [show ¬ g'<w.heap.size by omega]
 ·intro i r hr
  rw [hrev] at hr
  by_cases hi:i<p.ru.length
  ·rw [List.getElem?_append_left (by simpa using hi)] at hr
   obtain ⟨ds,h1,v,h2,h3⟩:=k5 i r hr
   exact ⟨ds,by rw [List.getElem?_append_left (by omega)];exact h1,v,h2,h3.step s (by decide) ⟨by omega,by omega⟩⟩
  ·rw [List.getElem?_append_right (by simp;omega),List.length_reverse] at hr
   have hj:=(List.getElem?_eq_some_iff.1 hr).1
   rw [List.length_reverse,hl] at hj
   rw [List.getElem?_reverse (by omega)] at hr
   obtain ⟨v,h1,h2⟩:=hR _ r hr
   rw [hl] at h1 h2
   refine ⟨[v],?_,v,rfl,?_⟩
   ·rw [List.getElem?_append_right (by omega),List.getElem?_map,k1,List.getElem?_reverse (by omega),hLl,h1];rfl
   ·have e1:p.ru.length+(m - 1 - (m - 1 - (i - p.ru.length)))=i:=by omega
    rw [e1] at h2
    exact h2.step s (by decide) ⟨by omega,by omega⟩
end Go.Proofs.YtcnnlecjdkfdjaaGreatDoor
