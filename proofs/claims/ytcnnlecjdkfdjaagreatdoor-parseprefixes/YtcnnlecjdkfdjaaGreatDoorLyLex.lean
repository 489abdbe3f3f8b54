/- LyMath2 LyLex: the texts of these names, of which the claim is made. -/
import Derived.Test.YtcnnlecjdkfdjaaGreatDoorLyLines
set_option linter.unusedVariables false
set_option linter.unusedSimpArgs false
set_option maxRecDepth 100000
set_option maxHeartbeats 8000000
namespace Go.Proofs.YtcnnlecjdkfdjaaGreatDoor.Ly
theorem gp_suffix (l:List UInt8):gp l=l.drop (l.length - (gp l).length):=by
 induction l with
 | nil=>rfl
 | cons a r ih=>
  unfold gp at *
  simp only [List.dropWhile_cons]
  split
  ·have h:=gp_le r
   unfold gp at h
   rw [List.length_cons,show r.length+1 - (List.dropWhile (fun x=>x == 32) r).length=(r.length - (List.dropWhile (fun x=>x == 32) r).length)+1 from by omega,List.drop_succ_cons]
   exact ih
  ·simp
theorem sk_suffix (l:List UInt8):sk l=l.drop (l.length - (sk l).length):=by
 unfold sk;split
 ·simp
 ·exact gp_suffix l
theorem gp_idem (l:List UInt8):gp (gp l)=gp l:=by
 induction l with
 | nil=>rfl
 | cons a r ih=>
  unfold gp at *
  simp only [List.dropWhile_cons]
  split
  ·exact ih
  ·rename_i h;rw [List.dropWhile_cons,if_neg h]
theorem sk_idem (l:List UInt8):sk (sk l)=sk l:=by
 by_cases h:((gp l).take 2 == [45,45])=true
 ·have:sk l=[]:=by unfold sk;rw [if_pos h]
  rw [this];rfl
 ·have:sk l=gp l:=by unfold sk;rw [if_neg h]
  rw [this];unfold sk;rw [gp_idem,if_neg h]
theorem raw_skip (n:Int) (a:Nat) (l:List UInt8):raw n a l=raw n (a+(l.length - (sk l).length)) (sk l):=by
 rw [raw_step,raw_step n _ (sk l),sk_idem]
 have hk:=sk_le l
 cases h:sk l with
 | nil=>rfl
 | cons c r=>
  rw [h] at hk
  simp only [List.length_cons] at hk ⊢
  rw [show a+(l.length - (r.length+1))+(r.length+1 - (r.length+1))=a+(l.length - (r.length+1)) from by omega]
theorem raw_bad (n:Int) (a:Nat) (c:UInt8) (r:List UInt8) (hs:sk (c :: r)=c :: r) (h:tk ((c :: r).take (tl (c :: r)))=none):raw n a (c :: r)=([],some (n,(a:Int)+1)):=by
 rw [raw_step,hs];simp [h]
theorem raw_tok (n:Int) (a:Nat) (c:UInt8) (r:List UInt8) (hs:sk (c :: r)=c :: r) {x:Int × Int} (h:tk ((c :: r).take (tl (c :: r)))=some x) :
 raw n a (c :: r)=(⟨x.1,(c :: r).take (tl (c :: r)),x.2,n,(a:Int)+1⟩ :: (raw n (a+tl (c :: r)) ((c :: r).drop (tl (c :: r)))).1,(raw n (a+tl (c :: r)) ((c :: r).drop (tl (c :: r)))).2):=by
 rw [raw_step,hs];simp [h]
theorem raw_end (n:Int) (a:Nat):raw n a []=([],none):=rfl
theorem tw_all (p:UInt8→Bool) (r:List UInt8):(r.take (r.takeWhile p).length).all p=true:=by
 induction r with
 | nil=>rfl
 | cons a r ih=>
  simp only [List.takeWhile_cons]
  split
  ·rename_i h;simp [h];simpa using ih
  ·simp
theorem tok_dig (l:List UInt8):dg ((l.take (tl l)).headD 0)=true→(l.take (tl l)).all dg=true:=by
 cases l with
 | nil=>simp [tl]
 | cons c r=>
  intro h
  have hp:=tl_pos c r
  have e:((c :: r).take (tl (c :: r))).headD 0=c:=by
   rw [show tl (c :: r)=(tl (c :: r) - 1)+1 from by omega,List.take_succ_cons];rfl
  rw [e] at h
  have e2:tl (c :: r)=(r.takeWhile dg).length+1:=by simp only [tl,h,if_true];omega
  rw [e2,List.take_succ_cons,List.all_cons,h,tw_all];rfl
theorem tok_ne (c:UInt8) (r:List UInt8):(c :: r).take (tl (c :: r))≠[]:=by
 have hp:=tl_pos c r
 rw [show tl (c :: r)=(tl (c :: r) - 1)+1 from by omega,List.take_succ_cons];simp
theorem tok_len (l:List UInt8):(l.take (tl l)).length=tl l:=by
 have:=tl_le l;simp;omega
theorem rawLs_snoc (a:List (Int × List UInt8)) (x:Int × List UInt8) (h:(rawLs a).2=none):rawLs (a ++ [x])=((rawLs a).1 ++ (raw x.1 0 x.2).1,(raw x.1 0 x.2).2):=by
 rw [rawLs_append,h]
 simp only [rawLs]
 cases h2:(raw x.1 0 x.2).2 <;> simp
theorem cap_of_over {q:List Tok × Option (Int × Int)} {t:Tok} (h:q.1[2000]?=some t):(cap q).2=some (pl t):=by unfold cap;rw [h]
theorem cap_of_bad {q:List Tok × Option (Int × Int)} {e:Int × Int} (h1:q.1.length≤2000) (h:q.2=some e):(cap q).2=some e:=by
 unfold cap;rw [List.getElem?_eq_none h1,h]
theorem cap_of_ok {q:List Tok × Option (Int × Int)} (h1:q.1.length≤2000) (h:q.2=none):cap q=(q.1,none):=by
 unfold cap;rw [List.getElem?_eq_none h1,h]
open Go.RowKit Go.Shelf
attribute [local go_sem] Oper.semAt_some
theorem info33:(Tryz.prog.info? 51).map (fun i=>(i.zero,i.size,i.bytes))=some (some t0,5,48):=by kernel_rfl
structure Keep (n:Nat) (W W':World):Prop where
 all:∀ (b:Nat) (C:Array Value) (t:TypeId) (f:Nat × Nat),W.heap[b]?=some (Obj.cells C t f)→W'.heap[b]?=some (Obj.cells C t f)
 below:Below n W W'
theorem Hold.put {b D:Nat} {C:Array Value} {t:TypeId} {W:World} (h:Hold b C t W) {o:Obj} (o':Obj) (hD:W.heap[D]?=some o) (ho:o.isCells=false):Hold b C t (W.putObj D o'):=by
 refine (World.putObj_heap_other (fun e=>?_)).trans h
 subst e;rw [show W.heap[b]?=_ from h] at hD;cases hD;cases ho
theorem ownsRow_keep {n:Nat} {W W':World} (h:Keep n W W') {base:Nat} {e:TypeId} {size:Nat} {v:Value} {k:Nat} {xs:List Value} (hr:W.ownsRow base e size v k xs):W'.ownsRow base e size v k xs:=by
 rcases hr with ⟨h1,h2 | ⟨g,cap,cur,hv,hb,hg,r⟩⟩
 ·exact ⟨h1,.inl h2⟩
 ·exact ⟨h1,.inr ⟨g,cap,cur,hv,hb,h.all _ _ _ _ hg,r⟩⟩
theorem Keep.of_below {n:Nat} {W W':World} (h:Below W.heap.size W W') (hn:n≤W.heap.size):Keep n W W':=
 ⟨fun b C t f hb=>(h.block b (Array.getElem?_eq_some_iff.1 hb).1).trans hb,h.mono hn⟩
theorem Keep.trans {n:Nat} {A B C:World} (h:Keep n A B) (k:Keep n B C):Keep n A C:=⟨fun b C t f hb=>k.all _ _ _ _ (h.all _ _ _ _ hb),h.below.trans k.below⟩
theorem Keep.own {n B:Nat} {W W':World} {row:Option Nat} (hB:n≤B) (hn:n≤W.heap.size) (hg:W.grownBy W' row) (hr:∀ r,row=some r→B≤r∧∃ o:Obj,W.heap[r]?=some o∧o.isCells=false):Keep n W W':=by
 refine ⟨fun b C t f hb=>(hg.block b (Array.getElem?_eq_some_iff.1 hb).1 (fun e=>?_)).trans hb,hg.os,hg.tape,hg.output,hg.size,fun k hk=>hg.block k (by omega) (fun e=>?_)⟩
 ·obtain ⟨_,o,ho,hc⟩:=hr b e.symm
  rw [hb] at ho;cases ho;cases hc
 ·have:=(hr k e.symm).1;omega
theorem keepsOthers_below {W W':World} (h:Below W.heap.size W W'):KeepsOthers W W':=
 ⟨h.size,fun k o hk ho=>(h.block k (Array.getElem?_eq_some_iff.1 hk).1).trans hk⟩
theorem skip_any (p:Option Addr) (n c k:Nat) (l:List UInt8) (w:World) (hl:l.length=n) (hn:n≤2147483647) (hc:n≤c) (hk:k≤n) (hp:p=none→c=0) (hM:Mem w p l) :
 Calls Tryz.prog 42 #[.slice p n c,.int .i64 k] w fun e w'=>e=.returned (.int .i64 ((n - (sk (l.drop k)).length:Nat):Int))∧Below w.heap.size w w':=by
 rcases hM with rfl | ⟨b,o,rfl,hb,hm⟩
 ·obtain rfl:n=0:=by simpa using hl.symm
  obtain rfl:k=0:=by omega
  exact skip_none 0 c p w hp
 ·refine (skip_at b o n c k l w hl hn hc hk hb hm).mono ?_
  rintro e w' ⟨rfl,hb'⟩
  refine ⟨ret_int ?_,hb'⟩
  have:=sk_le (l.drop k)
  rw [List.length_drop] at this
  omega
def St (w:World) (b2 b3 b4 b5:Nat) (ts:List Tok) (W:World):Prop:=
 (∃ pa cap,Boxed W b5 22 (.slice pa ts.length cap)∧W.ownsRow w.heap.size 51 5 (.slice pa ts.length cap) ts.length (tcs ts))∧Hold b2 #[.slice none 0 0] 22 W∧Hold b3 #[.int .i64 0,.int .i64 0] 29 W∧Hold b4 #[.int .i64 0] 30 W∧Below w.heap.size w W
theorem St.keep {w W W':World} {b2 b3 b4 b5:Nat} {ts:List Tok} (h:St w b2 b3 b4 b5 ts W) (hk:Keep w.heap.size W W'):St w b2 b3 b4 b5 ts W':=by
 obtain ⟨⟨pa,cap,h1,h2⟩,h3,h4,h5,h6⟩:=h
 exact ⟨⟨pa,cap,hk.all _ _ _ _ h1,ownsRow_keep hk h2⟩,hk.all _ _ _ _ h3,hk.all _ _ _ _ h4,hk.all _ _ _ _ h5,h6.trans hk.below⟩
def Er (w:World) (b2 b3 b4:Nat) (e:Int × Int) (W:World):Prop:=
 Hold b2 #[.slice none 0 0] 22 W∧Hold b3 #[.int .i64 e.1,.int .i64 e.2] 29 W∧Hold b4 #[.int .i64 20] 30 W∧Below w.heap.size w W
theorem Er.keep {w W W':World} {b2 b3 b4:Nat} {e:Int × Int} (h:Er w b2 b3 b4 e W) (hk:Keep w.heap.size W W'):Er w b2 b3 b4 e W':=by
 obtain ⟨h3,h4,h5,h6⟩:=h
 exact ⟨hk.all _ _ _ _ h3,hk.all _ _ _ _ h4,hk.all _ _ _ _ h5,h6.trans hk.below⟩
theorem er_mk {w w3:World} {b2 b3 b4:Nat} (h2:Hold b2 #[.slice none 0 0] 22 w3) (h3:Hold b3 #[.int .i64 0,.int .i64 0] 29 w3) (h4:Hold b4 #[.int .i64 0] 30 w3) (hB:Below w.heap.size w w3) (d23:b2≠b3) (d24:b2≠b4) (d34:b3≠b4) (n2:w.heap.size≤b2) (n3:w.heap.size≤b3) (n4:w.heap.size≤b4) (a b:Int) (o:Obj) :
 Er w b2 b3 b4 (a,b) (((((w3.setCell ⟨b2,0,none⟩ (.slice none 0 0)).setCell ⟨b3,0,none⟩ (.int .i64 a)).setCell ⟨b3,1,none⟩ (.int .i64 b)).setCell ⟨b4,0,none⟩ (.int .i64 20)).alloc o) ∧
 KeepsOthers w3 (((((w3.setCell ⟨b2,0,none⟩ (.slice none 0 0)).setCell ⟨b3,0,none⟩ (.int .i64 a)).setCell ⟨b3,1,none⟩ (.int .i64 b)).setCell ⟨b4,0,none⟩ (.int .i64 20)).alloc o):=by
 refine ⟨⟨?_,?_,?_,?_⟩,?_⟩
 ·exact ((((h2.set 0 _).other d23 0 _).other d23 1 _).other d24 0 _).alloc o
 ·exact ((((h3.other d23.symm 0 _).set 0 _).set 1 _).other d34 0 _).alloc o
 ·exact ((((h4.other d24.symm 0 _).other d34.symm 0 _).other d34.symm 1 _).set 0 _).alloc o
 ·have hz:(((((w3.setCell ⟨b2,0,none⟩ (.slice none 0 0)).setCell ⟨b3,0,none⟩ (.int .i64 a)).setCell ⟨b3,1,none⟩ (.int .i64 b)).setCell ⟨b4,0,none⟩ (.int .i64 20))).heap.size=w3.heap.size:=by simp
  exact ((((hB.setCell (p:=⟨b2,0,none⟩) n2 _).setCell (p:=⟨b3,0,none⟩) n3 _).setCell (p:=⟨b3,1,none⟩) n3 _).setCell (p:=⟨b4,0,none⟩) n4 _).alloc (by rw [hz];exact hB.size) o
 ·exact ((((KeepsOthers.setCell _ _ _).trans (KeepsOthers.setCell _ _ _)).trans (KeepsOthers.setCell _ _ _)).trans (KeepsOthers.setCell _ _ _)).trans (KeepsOthers.alloc _ _)
theorem hold_app {W w1:World} {b B:Nat} {C:Array Value} {t:TypeId} {row:Option Nat} (h:Hold b C t W) (hg:W.grownBy w1 row) (hne:some b≠row) (hb:b≠B) (u:Value):Hold b C t (w1.setCell ⟨B,0,none⟩ u):=
 Hold.other ((hg.block b h.lt hne).trans h) hb 0 u
def toksOf {w:World} (pre:List (Ln w)):List Tok:=(rawLs (pre.map bare)).1
def badOf {w:World} (pre:List (Ln w)):Option (Int × Int):=(rawLs (pre.map bare)).2
def Told (w:World) (l:List UInt8) (e:Ending) (W':World):Prop:=
 ∃ v a b k,e=.returned (.tuple #[v,.agg #[.int .i64 a,.int .i64 b],.int .i64 k])∧W'.ownsRow w.heap.size 51 5 v (lexM l).1.length (tcs (lexM l).1)∧(((lexM l).2=none∧a=0∧b=0∧k=0)∨((lexM l).2=some (a,b)∧k=20))∧Below w.heap.size w W'
theorem lex_in (n:Nat) (hn:8≤n) (p:Option Addr) (m c:Nat) (l:List UInt8) (w:World) (hl:l.length=m) (hm2:m≤2147483646) (hmc:m≤c) (hM:Mem w p l) (hp:p=none→c=0) (hg:Glob w) :
 CallsIn Fence.wide n Tryz.prog 19 #[.slice p m c] w (Told w l):=by
 have h1:1≤n:=by omega
 refine callsIn_of_wp_marks Tryz.func19 rfl trivial ?_ rfl
 simp only [Tryz.ntmps19,List.size_toArray,List.length_cons,List.length_nil,Nat.reduceAdd,Nat.reduceSub,Array.replicate_succ,Array.replicate_zero,List.push_toArray,List.append_toArray,List.nil_append,List.cons_append]
 gi_wp2_with fail
 refine ⟨trivial,(lines_in (n - 1) _ _ _ _).mono ?_⟩
 rintro e w' ⟨rfl,rfl⟩
 gi_wp2_with fail
 have A2:=((((Hold.new w #[.slice none 0 0] 22).alloc (.cells #[.int .i64 0,.int .i64 0] 29)).alloc (.cells #[.int .i64 0] 30)).alloc (.cells #[.slice none 0 0] 22)).alloc (.cells #[.slice p m c] 42)
 have A3:=(((Hold.new (w.alloc (.cells #[.slice none 0 0] 22)) #[.int .i64 0,.int .i64 0] 29).alloc (.cells #[.int .i64 0] 30)).alloc (.cells #[.slice none 0 0] 22)).alloc (.cells #[.slice p m c] 42)
 have A4:=((Hold.new ((w.alloc (.cells #[.slice none 0 0] 22)).alloc (.cells #[.int .i64 0,.int .i64 0] 29)) #[.int .i64 0] 30).alloc (.cells #[.slice none 0 0] 22)).alloc (.cells #[.slice p m c] 42)
 have A5:=(Hold.new (((w.alloc (.cells #[.slice none 0 0] 22)).alloc (.cells #[.int .i64 0,.int .i64 0] 29)).alloc (.cells #[.int .i64 0] 30)) #[.slice none 0 0] 22).alloc (.cells #[.slice p m c] 42)
 have A6:=Hold.new ((((w.alloc (.cells #[.slice none 0 0] 22)).alloc (.cells #[.int .i64 0,.int .i64 0] 29)).alloc (.cells #[.int .i64 0] 30)).alloc (.cells #[.slice none 0 0] 22)) #[.slice p m c] 42
 have AB:Below w.heap.size w (((((w.alloc (.cells #[.slice none 0 0] 22)).alloc (.cells #[.int .i64 0,.int .i64 0] 29)).alloc (.cells #[.int .i64 0] 30)).alloc (.cells #[.slice none 0 0] 22)).alloc (.cells #[.slice p m c] 42)):=(((((Below.refl _ w).alloc (Nat.le_refl _) _).alloc (by simp) _).alloc (by simp;omega) _).alloc (by simp;omega) _).alloc (by simp;omega) _
 have AZ:(((((w.alloc (.cells #[.slice none 0 0] 22)).alloc (.cells #[.int .i64 0,.int .i64 0] 29)).alloc (.cells #[.int .i64 0] 30)).alloc (.cells #[.slice none 0 0] 22)).alloc (.cells #[.slice p m c] 42)).heap.size=w.heap.size+1+1+1+1+1:=by simp
 simp only [World.size_alloc] at A3 A4 A5 A6
 generalize (((((w.alloc (.cells #[.slice none 0 0] 22)).alloc (.cells #[.int .i64 0,.int .i64 0] 29)).alloc (.cells #[.int .i64 0] 30)).alloc (.cells #[.slice none 0 0] 22)).alloc (.cells #[.slice p m c] 42))=W0 at *
 have n6:w.heap.size≤w.heap.size+1+1+1+1:=by omega
 have n5:w.heap.size≤w.heap.size+1+1+1:=by omega
 have d25:w.heap.size≠w.heap.size+1+1+1:=by omega
 have d35:w.heap.size+1≠w.heap.size+1+1+1:=by omega
 have d45:w.heap.size+1+1≠w.heap.size+1+1+1:=by omega
 have d23:w.heap.size≠w.heap.size+1:=by omega
 have d24:w.heap.size≠w.heap.size+1+1:=by omega
 have d34:w.heap.size+1≠w.heap.size+1+1:=by omega
 have n3:w.heap.size≤w.heap.size+1:=by omega
 have n4:w.heap.size≤w.heap.size+1+1:=by omega
 have n2:w.heap.size≤w.heap.size:=by omega
 have AZ':w.heap.size+1+1+1+1<W0.heap.size:=by omega
 have AN:w.heap.size≤W0.heap.size:=by omega
 clear AZ
 generalize w.heap.size+1+1+1+1=b6 at *
 generalize w.heap.size+1+1+1=b5 at *
 generalize w.heap.size+1+1=b4 at *
 generalize w.heap.size+1=b3 at *
 obtain ⟨b2,hb2⟩:∃ b2,b2=w.heap.size:=⟨_,rfl⟩
 rw [show (Value.pointer (some { block:=w.heap.size,off:=0 }))=Value.pointer (some ⟨b2,0,none⟩) from by rw [hb2]]
 rw [← hb2] at A2 d25 d23 d24
 have n2':w.heap.size≤b2:=by omega
 clear hb2 n2
 refine wpIn_rangeFunc_ownG rfl h1 (gf:=93) (lb:=#[.pointer (some ⟨b6,0,none⟩)]) rfl trivial (enters_of Tryz.func93 (by kernel_rfl) rfl)
  (lines_stops (n - 1) (by omega) b6 p m c l w W0 hl hm2 hmc hM hp A6.lt (Boxed.cell A6) AB) belowK_t (belowK_b AN) (Below.refl _ _) (fun _=>rfl)
  (fun pre W=>badOf pre=none∧(toksOf pre).length≤2000∧St w b2 b3 b4 b5 (toksOf pre) W)
  (fun c pre W=>c=.ret∧∃ e,(cap (rawLs (pre.map bare))).2=some e∧Er w b2 b3 b4 e W)
  (fun s A B row hs hg hr=>⟨hs.1,hs.2.1,hs.2.2.keep (Keep.own AN hs.2.2.2.2.2.2.size hg hr)⟩)
  (fun c s A B row hs hg hr=>⟨hs.1,let ⟨e,h1,h2⟩:=hs.2;⟨e,h1,h2.keep (Keep.own AN h2.2.2.2.size hg hr)⟩⟩)
  ⟨rfl,by show ([]:List Tok).length≤2000;simp,⟨⟨none,0,A5,World.ownsRow_nil _ _ _ _⟩,A2,A3,A4,AB⟩⟩
  (fun x=>{ tmps:=#[.slice p m c,undef,.pointer (some ⟨b2,0,none⟩),.pointer (some ⟨b3,0,none⟩),.pointer (some ⟨b4,0,none⟩),.pointer (some ⟨b5,0,none⟩),.int .i64 x.1.1,.slice x.1.2.1 x.1.2.2.1 x.1.2.2.2.1,undef,undef,undef,undef,.slice p m c,.func (.func 93) #[] #[.pointer (some ⟨b6,0,none⟩)],.int .i64 x.1.1,.slice x.1.2.1 x.1.2.2.1 x.1.2.2.2.1,undef,undef,undef,undef,undef,undef,undef,undef,undef,undef,undef,undef,undef,undef,undef,undef,undef,undef,undef,undef,undef,undef,undef,undef,undef,undef,undef,undef,undef,undef,undef,undef,undef,undef,undef,undef,undef,undef,undef,undef,undef,undef,undef,undef,undef,undef,undef,undef],defers:=[] }) ?assign ?body ?done ?stop
 case assign=>
  intro ld x W K hK
  unfold enc
  gi_wp2
  exact hK
 case body=>
  rintro ld pre ⟨⟨nn,p1,m1,c1,l1⟩,hx⟩ W ⟨hbad,hlen,hSt⟩ hlt
  obtain ⟨hn1,hn2,hl1,hm1,hmc1,hM1,hp1⟩:=hx
  dsimp only at hn1 hn2 hl1 hm1 hmc1 hM1 hp1 ⊢
  have h1':1≤n - 1 - 1:=by omega
  have hBW:=hSt.2.2.2.2
  have HSK:=hide (skip_any p1 m1 c1 0 l1 W hl1 (by omega) hmc1 (by omega) hp1 (hM1.below (Nat.le_refl _) hBW))
  have hT0:Hid (∀ (x:Ln w),bare x=(nn,l1)→toksOf (pre ++ [x])=toksOf pre ++ (raw nn 0 l1).1∧badOf (pre ++ [x])=(raw nn 0 l1).2∧rawLs ((pre ++ [x]).map bare)=(toksOf pre ++ (raw nn 0 l1).1,(raw nn 0 l1).2)):=by
   intro x hx
   have e:=rawLs_snoc (pre.map bare) (nn,l1) hbad
   unfold toksOf badOf
   rw [List.map_append,List.map_cons,List.map_nil,hx,e]
   exact ⟨rfl,rfl,rfl⟩
  generalize hts0:toksOf pre=ts0 at *
  clear hts0 hbad hlt A2 A3 A4 A5 A6 AB n6 AZ'
  gi_wp2_with fail
  refine ⟨trivial,?_⟩
  gi_wp2_with fail
  refine (CallsIn.inRound ld (callsIn_wide.2 HSK.out)).mono ?_
  rintro e w1 ⟨rfl,hb1⟩
  have hK1:Keep w.heap.size W w1:=Keep.of_below hb1 hBW.size
  have hSt1:=hSt.keep hK1
  have hF1:KeepsFrom W0.heap.size W w1:=(keepsOthers_below hb1).from _
  have hk1:=sk_le l1
  have HJ0:=hide (sk_suffix l1)
  have HR0:=hide (raw_skip nn 0 l1)
  have HI0:=hide (sk_idem l1)
  rw [List.drop_zero] at *
  clear HSK hSt
  gi_wp2_with fail
  gi_loopw [8] (fun i wr=>∃ (j:Nat) (ts:List Tok),i=.int .i64 j∧j≤m1∧sk (l1.drop j)=l1.drop j∧St w b2 b3 b4 b5 ts wr∧ts.length≤2000∧ts0 ++ (raw nn 0 l1).1=ts ++ (raw nn j (l1.drop j)).1∧(raw nn 0 l1).2=(raw nn j (l1.drop j)).2∧KeepsFrom W0.heap.size W wr∧Below w.heap.size W wr) (fun i _=>m1 - (intOf i).toNat)
  case atStart=>
   refine ⟨m1 - (sk l1).length,ts0,rfl,by omega,?_,hSt1,hlen,?_,?_,hF1,hK1.below⟩
   ·rw [← hl1,← HJ0.out,HI0.out]
   ·rw [HR0.out,hl1,Nat.zero_add]
    rw [← hl1,← HJ0.out]
   ·rw [HR0.out,hl1,Nat.zero_add]
    rw [← hl1,← HJ0.out]
  case round=>
   obtain ⟨j,ts,rfl,hj,hsk,hSt,hlen,hraw,hbad,hF,hB⟩:=hrel
   clear hSt1 hF1 HJ0 HR0 HI0 hb1 hK1
   by_cases hjm:j<m1
   ·cases hd:l1.drop j with
    | nil=>exfalso;have:=congrArg List.length hd;simp at this;omega
    | cons cc r=>
     rw [hd] at hsk hraw hbad
     have hlr:(cc :: r).length=m1 - j:=by rw [← hd,List.length_drop,hl1]
     have hBw:=hSt.2.2.2.2
     have hNw:=hBw.size
     have MR:Mem wr p1 l1:=hM1.below (Nat.le_refl _) hBw
     rcases MR with he | ⟨b,o,rfl,hbb,hmm⟩
     ·rw [he] at hl1;simp at hl1;omega
     ·have M2:Mem wr (some ⟨b,o+j,none⟩) (cc :: r):=by
       rw [← hd];exact Mem.dropAt (.inr ⟨b,o,rfl,hbb,hmm⟩) j
      have hmm2:∀ i y,(cc :: r)[i]?=some y→wr.cell? ⟨b,o+j+i,none⟩=some (.int .u8 y.toNat):=by
       rcases M2 with he | ⟨b',o',he,_,hq⟩
       ·cases he
       ·cases he;exact hq
      have HEN:=hide (end_any b (o+j) (c1 - j) (m1 - j) (cc :: r) wr (by simp) hlr (by omega) hbb hmm2)
      have HTL:=hide (tok_len (cc :: r))
      have hkp:=tl_pos cc r
      have hkl:=tl_le (cc :: r)
      rw [hlr] at hkl
      have HNE:=hide (tok_ne cc r)
      have HDG:=hide (tok_dig (cc :: r))
      have HBADR:=fun h=>hide (raw_bad nn j cc r hsk h)
      have HTOKR:=fun (x:Int × Int) h=>hide (raw_tok nn j cc r hsk (x:=x) h)
      have M3:=M2.take (tl (cc :: r))
      have hgl:Glob wr:=hg.below (Nat.le_refl _) hBw
      clear hmm hmm2 M2
      generalize hk:tl (cc :: r)=k at *
      generalize htok:(cc :: r).take k=tok at *
      have HD:=hide hd
      clear hd
      gi_wp2_with fail
      refine ⟨trivial,(CallsIn.inRound ld (callsIn_wide.2 HEN.out)).mono ?_⟩
      rintro e w2 ⟨rfl,hb2⟩
      have M4:=M3.below (Nat.le_refl _) hb2
      have hcv:=M4.str HNE.out (c1 - j)
      rw [HTL.out] at hcv
      have HTK:=hide (token_any tok w2 HNE.out HDG.out (by rw [HTL.out];omega) (hgl.below (Nat.le_refl _) hb2))
      have K2:Keep w.heap.size wr w2:=Keep.of_below hb2 hNw
      have O2:=keepsOthers_below hb2
      clear M3 M4 HEN hgl
      have hkc:k≤c1 - j:=by omega
      gi_wp2_with fail
      refine ⟨trivial,(CallsIn.inRound ld (callsIn_wide.2 HTK.out)).mono ?_⟩
      rintro e w3 ⟨rfl,hb3⟩
      have K3:Keep w.heap.size wr w3:=K2.trans (Keep.of_below hb3 (Nat.le_trans hNw hb2.size))
      have O3:=O2.trans (keepsOthers_below hb3)
      have S3:=hSt.keep K3
      clear K2 O2 hSt HTK hcv hb2 hb3
      obtain ⟨⟨pa,cp,hv,hrow⟩,h2,h3,h4,hB3⟩:=S3
      have c5:=hv.cell
      have f5:=hv.frozen
      have c2:w3.cell? ⟨b2,0,none⟩=some (.slice none 0 0):=h2.cell 0
      have f2:=h2.frozen 0
      have c30:w3.cell? ⟨b3,0,none⟩=some (.int .i64 0):=h3.cell 0
      have c31:w3.cell? ⟨b3,1,none⟩=some (.int .i64 0):=h3.cell 1
      have f30:=h3.frozen 0
      have f31:=h3.frozen 1
      have c4:w3.cell? ⟨b4,0,none⟩=some (.int .i64 0):=h4.cell 0
      have f4:=h4.frozen 0
      have l2:=h2.lt
      have l3:=h3.lt
      have l4:=h4.lt
      have l5:=hv.lt
      have z2:¬ b2=w3.heap.size:=by omega
      have z3:¬ b3=w3.heap.size:=by omega
      have z4:¬ b4=w3.heap.size:=by omega
      have z5:¬ b5=w3.heap.size:=by omega
      cases htk:tk tok with
      | none=>
       have HR:=HBADR htk
       unfold tkv t0
       gi_wp2_with fail
       obtain ⟨e1,e2⟩:=er_mk h2 h3 h4 hB3 d23 d24 d34 n2' n3 n4 nn ((j:Int)+1) (.cells #[.int .i64 0,.string ⟨#[]⟩,.int .i64 0,.int .i64 0,.int .i64 0] 51)
       refine ⟨hF.trans ((O3.trans e2).from _),rfl,(nn,(j:Int)+1),?_,e1⟩
       rw [(hT0.out _ rfl).2.2]
       rw [HR.out] at hraw hbad
       rw [List.append_nil] at hraw
       exact cap_of_bad (by rw [hraw];exact hlen) hbad
      | some x=>
       have HR:=HTOKR x htk
       unfold tkv tvx
       by_cases h20:ts.length=2000
       ·have h20':((ts.length:Int) == 2000)=true:=by rw [h20];rfl
        have H20:=hide h20
        clear h20
        gi_wp2_with fail
        obtain ⟨e1,e2⟩:=er_mk h2 h3 h4 hB3 d23 d24 d34 n2' n3 n4 nn ((j:Int)+1) (.cells #[.int .i64 x.1,.string (S tok),.int .i64 x.2,.int .i64 0,.int .i64 0] 51)
        refine ⟨hF.trans ((O3.trans e2).from _),rfl,(nn,(j:Int)+1),?_,e1⟩
        rw [(hT0.out _ rfl).2.2]
        rw [HR.out] at hraw
        exact cap_of_over (t:=⟨x.1,tok,x.2,nn,(j:Int)+1⟩) (by rw [hraw,List.getElem?_append_right (by rw [H20.out];omega),H20.out];rfl)
       ·have h20':((ts.length:Int) == 2000)=false:=by rw [beq_eq_false_iff_ne];omega
        have h21:ts.length+1≤2000:=by omega
        clear h20
        obtain ⟨i0,hi,hz0,hz1,hz2⟩:=info_parts info33
        have hrowA:=hrow.alloc (.cells #[.int .i64 x.1,.string (S tok),.int .i64 x.2,.int .i64 nn,.int .i64 ((j:Int)+1)] 51)
        have hvA:=hv.alloc (.cells #[.int .i64 x.1,.string (S tok),.int .i64 x.2,.int .i64 nn,.int .i64 ((j:Int)+1)] 51)
        have h2A:=h2.alloc (.cells #[.int .i64 x.1,.string (S tok),.int .i64 x.2,.int .i64 nn,.int .i64 ((j:Int)+1)] 51)
        have h3A:=h3.alloc (.cells #[.int .i64 x.1,.string (S tok),.int .i64 x.2,.int .i64 nn,.int .i64 ((j:Int)+1)] 51)
        have h4A:=h4.alloc (.cells #[.int .i64 x.1,.string (S tok),.int .i64 x.2,.int .i64 nn,.int .i64 ((j:Int)+1)] 51)
        have htA:=Hold.new w3 #[.int .i64 x.1,.string (S tok),.int .i64 x.2,.int .i64 nn,.int .i64 ((j:Int)+1)] 51
        have hnA:w.heap.size≤(w3.alloc (.cells #[.int .i64 x.1,.string (S tok),.int .i64 x.2,.int .i64 nn,.int .i64 ((j:Int)+1)] 51)).heap.size:=by have:=hB3.size;simp;omega
        have htr:=row_lt hrow
        have hBA:Below w.heap.size w3 (w3.alloc (.cells #[.int .i64 x.1,.string (S tok),.int .i64 x.2,.int .i64 nn,.int .i64 ((j:Int)+1)] 51)):=(Below.refl _ w3).alloc hB3.size _
        have hOA:KeepsOthers w3 (w3.alloc (.cells #[.int .i64 x.1,.string (S tok),.int .i64 x.2,.int .i64 nn,.int .i64 ((j:Int)+1)] 51)):=KeepsOthers.alloc _ _
        have hsz:(S tok).size=k:=by rw [S_size,HTL.out]
        gi_wp2_with (gi_at_builtin;refine wpListIn_append_own _ rfl _ _ 22 rfl w.heap.size 51 i0 t0 5 48 Tryz.underlying22 hi hz0 hz1 hz2 rfl (by decide) _ _ _ rfl (hrowA.alloc _) ⟨w3.heap.size+1,0,none⟩ 1 1 (tc ⟨x.1,tok,x.2,nn,(j:Int)+1⟩) rfl rfl (by have:=cell_five_new (w3.alloc (.cells #[.int .i64 x.1,.string (S tok),.int .i64 x.2,.int .i64 nn,.int .i64 ((j:Int)+1)] 51)) (.int .i64 x.1) (.string (S tok)) (.int .i64 x.2) (.int .i64 nn) (.int .i64 ((j:Int)+1)) 51;rw [World.size_alloc] at this;exact this) (by simp [Value.oneCell',tc]) (by unfold maxLen;omega) (by omega) (by simp;omega) ?_;intro v' w4 hown' hgrow _;obtain ⟨g',cap',rfl⟩:=ownsRow_succ hown';obtain ⟨hv1,hv2,hr2,hk2,hb2⟩:=hvA.appended (by decide) hrowA hnA n5 hown' hgrow;have hc1:=hv1.cell;have hf1:=hv1.frozen;have ht2:=hold_app (htA.alloc _) hgrow htr (Ne.symm z5) (.slice (some ⟨g',0,none⟩) (ts.length+1) cap');have ct:=ht2.cell 1)
        have q2:=hold_app (h2A.alloc _) hgrow (row_ne h2A hrowA (by decide)) d25 (.slice (some ⟨g',0,none⟩) (ts.length+1) cap')
        have q3:=hold_app (h3A.alloc _) hgrow (row_ne h3A hrowA (by decide)) d35 (.slice (some ⟨g',0,none⟩) (ts.length+1) cap')
        have q4:=hold_app (h4A.alloc _) hgrow (row_ne h4A hrowA (by decide)) d45 (.slice (some ⟨g',0,none⟩) (ts.length+1) cap')
        have S5:St w b2 b3 b4 b5 (ts ++ [⟨x.1,tok,x.2,nn,(j:Int)+1⟩]) (w4.setCell ⟨b5,0,none⟩ (.slice (some ⟨g',0,none⟩) (ts.length+1) cap')):=by
         refine ⟨⟨some ⟨g',0,none⟩,cap',?_,?_⟩,q2,q3,q4,(hB3.trans hBA).trans hb2⟩
         ·rw [List.length_append,List.length_singleton];exact hv2
         ·rw [List.length_append,List.length_singleton,tcs_snoc];exact hr2
        have O5:KeepsOthers wr (w4.setCell ⟨b5,0,none⟩ (.slice (some ⟨g',0,none⟩) (ts.length+1) cap')):=(O3.trans hOA).trans hk2
        have B5:Below w.heap.size wr (w4.setCell ⟨b5,0,none⟩ (.slice (some ⟨g',0,none⟩) (ts.length+1) cap')):=(K3.below.trans hBA).trans hb2
        generalize w4.setCell ⟨b5,0,none⟩ (.slice (some ⟨g',0,none⟩) (ts.length+1) cap')=w5 at *
        have hB5:=S5.2.2.2.2
        have HSK:=skip_any (some ⟨b,o,none⟩) m1 c1 (j+k) l1 w5 hl1 (by omega) hmc1 (by omega) (fun h=>by cases h) (hM1.below (Nat.le_refl _) hB5)
        rw [show ((j+k:Nat):Int)=(j:Int)+(k:Int) from by omega] at HSK
        clear hv1 hv2 hr2 hk2 hb2 hc1 hf1 ht2 ct q2 q3 q4 hgrow hown' hrowA hvA h2A h3A h4A htA hnA htr hBA hOA hv hrow h2 h3 h4 c2 f2 c30 c31 f30 f31 c4 f4 c5 f5 l2 l3 l4 l5 z2 z3 z4 z5 hi hz0 hz1 hz2 K3 O3 hsz
        refine ⟨trivial,(CallsIn.inRound ld (callsIn_wide.2 HSK)).mono ?_⟩
        rintro e w6 ⟨rfl,hb6⟩
        have K6:Keep w.heap.size w5 w6:=Keep.of_below hb6 hB5.size
        have S6:=S5.keep K6
        have O6:=O5.trans (keepsOthers_below hb6)
        have B6:=B5.trans K6.below
        have hdk:(cc :: r).drop k=l1.drop (j+k):=by rw [← HD.out,List.drop_drop]
        rw [hdk] at HR
        have hsl:=sk_le (l1.drop (j+k))
        have hss:=sk_suffix (l1.drop (j+k))
        have hrs:=raw_skip nn (j+k) (l1.drop (j+k))
        have hid:=sk_idem (l1.drop (j+k))
        have hdl:(l1.drop (j+k)).length=m1 - (j+k):=by rw [List.length_drop,hl1]
        rw [hdl] at hsl hss hrs
        rw [List.drop_drop] at hss
        generalize sk (l1.drop (j+k))=u at *
        have hu:l1.drop (m1 - u.length)=u:=by
         conv=>rhs;rw [hss]
         congr 1
         omega
        have HU:=hide hu
        have HRS:=hide hrs
        have HID:=hide hid
        have HRW:=hide hraw
        have HBD:=hide hbad
        have HSS:=hide hss
        clear hu hrs hid hraw hbad hss hdk hsk hlr hk htok htk HSK S5 O5 B5 HBADR HTOKR
        gi_wp2_with fail
        go_roundw
        case rel=>
         refine ⟨m1 - u.length,ts ++ [⟨x.1,tok,x.2,nn,(j:Int)+1⟩],rfl,by omega,by rw [HU.out];exact HID.out,S6,by rw [List.length_append];simp;omega,?_,?_,hF.trans (O6.from _),hB.trans B6⟩
         ·rw [HRW.out,HR.out,HU.out,HRS.out,List.append_assoc,show j+k+(m1 - (j+k) - u.length)=m1 - u.length from by omega];rfl
         ·rw [HBD.out,HR.out,HU.out,HRS.out,show j+k+(m1 - (j+k) - u.length)=m1 - u.length from by omega]
        case measure=>simp [intOf];omega
   ·have hd:l1.drop j=[]:=List.drop_eq_nil_of_le (by omega)
    rw [hd,raw_end] at hraw hbad
    rw [List.append_nil] at hraw
    gi_wp2_with fail
    obtain ⟨t1,t2,t3⟩:=hT0.out ⟨(nn,p1,m1,c1,l1),hn1,hn2,hl1,hm1,hmc1,hM1,hp1⟩ rfl
    refine ⟨hF,hB,?_,?_,?_⟩
    ·rw [t2,hbad]
    ·rw [t1,hraw];exact hlen
    ·rw [t1,hraw];exact hSt
 case done=>
  rintro D ys W hD hS ⟨hbad,hlen,⟨pa,cp,hv,hrow⟩,h2,h3,h4,hB⟩ hK
  have c5:=hv.cell
  have c2:=h2.cell 0
  have f2:=h2.frozen 0
  have c30:=h3.cell 0
  have c31:=h3.cell 1
  have f30:=h3.frozen 0
  have f31:=h3.frozen 1
  have c4:=h4.cell 0
  have f4:=h4.frozen 0
  gi_wp2
  have hK':=((((KeepsOthers.setCell W ⟨b2,0,none⟩ (.slice pa (toksOf ys).length cp)).trans (KeepsOthers.setCell _ ⟨b3,0,none⟩ (.int .i64 0))).trans (KeepsOthers.setCell _ ⟨b3,1,none⟩ (.int .i64 0))).trans (KeepsOthers.setCell _ ⟨b4,0,none⟩ (.int .i64 0))).same D _ hK rfl
  have H2:=((((h2.set 0 (.slice pa (toksOf ys).length cp)).other d23 0 (.int .i64 0)).other d23 1 (.int .i64 0)).other d24 0 (.int .i64 0)).put (.deferred none) hK' rfl
  have H3:=(((((h3.other d23.symm 0 (.slice pa (toksOf ys).length cp)).set 0 (.int .i64 0)).set 1 (.int .i64 0)).other d34 0 (.int .i64 0))).put (.deferred none) hK' rfl
  have H4:=(((((h4.other d24.symm 0 (.slice pa (toksOf ys).length cp)).other d34.symm 0 (.int .i64 0)).other d34.symm 1 (.int .i64 0)).set 0 (.int .i64 0))).put (.deferred none) hK' rfl
  have B1:=(((hB.setCell (p:=⟨b2,0,none⟩) n2' (.slice pa (toksOf ys).length cp)).setCell (p:=⟨b3,0,none⟩) n3 (.int .i64 0)).setCell (p:=⟨b3,1,none⟩) n3 (.int .i64 0)).setCell (p:=⟨b4,0,none⟩) n4 (.int .i64 0)
  have B2:=B1.trans (belowK_b (w:=w) (Nat.le_refl _) _ D _ (.deferred none) (by omega) hK' rfl rfl)
  have R1:=row_other (row_other (row_other (row_other hrow h2 (by decide) 0 (.slice pa (toksOf ys).length cp)) (h3.other d23.symm 0 (.slice pa (toksOf ys).length cp)) (by decide) 0 (.int .i64 0)) ((h3.other d23.symm 0 (.slice pa (toksOf ys).length cp)).set 0 (.int .i64 0)) (by decide) 1 (.int .i64 0)) (((h4.other d24.symm 0 (.slice pa (toksOf ys).length cp)).other d34.symm 0 (.int .i64 0)).other d34.symm 1 (.int .i64 0)) (by decide) 0 (.int .i64 0)
  have R2:=ownsRow_putObj R1 (.deferred none) hK' rfl
  have e1:=H2.cell 0
  have e2:=H3.cell 0
  have e3:=H3.cell 1
  have e4:=H4.cell 0
  refine ⟨by simp,.inl ⟨_,_,rfl,run_takeDeferred hK',?_⟩⟩
  generalize ((((W.setCell ⟨b2,0,none⟩ (.slice pa (toksOf ys).length cp)).setCell ⟨b3,0,none⟩ (.int .i64 0)).setCell ⟨b3,1,none⟩ (.int .i64 0)).setCell ⟨b4,0,none⟩ (.int .i64 0)).putObj D (.deferred none)=W4 at *
  refine ⟨.tuple #[.slice pa (toksOf ys).length cp,.agg #[.int .i64 0,.int .i64 0],.int .i64 0],?_,?_⟩
  ·simp [results,Tryz.f19,go_sem,e1,e2,e3,e4]
  ·have hlx:lexM l=(toksOf ys,none):=by
    unfold lexM;rw [← hS];exact cap_of_ok hlen hbad
   refine ⟨_,0,0,0,rfl,?_,.inl ⟨by rw [hlx],rfl,rfl,rfl⟩,B2⟩
   rw [hlx]
   exact R2
 case stop=>
  rintro D c pre W hD ⟨r,hr⟩ ⟨rfl,e,hcap,h2,h3,h4,hB⟩ hK
  gi_wp2
  have e1:=(h2.put (.deferred none) hK rfl).cell 0
  have e2:=(h3.put (.deferred none) hK rfl).cell 0
  have e3:=(h3.put (.deferred none) hK rfl).cell 1
  have e4:=(h4.put (.deferred none) hK rfl).cell 0
  have B2:=hB.trans (belowK_b (w:=w) (Nat.le_refl _) _ D _ (.deferred none) (by omega) hK rfl rfl)
  refine ⟨by simp,.inl ⟨_,_,rfl,run_takeDeferred hK,?_⟩⟩
  refine ⟨.tuple #[.slice none 0 0,.agg #[.int .i64 e.1,.int .i64 e.2],.int .i64 20],?_,?_⟩
  ·simp [results,Tryz.f19,go_sem,e1,e2,e3,e4]
  ·have hlx:lexM l=([],some e):=by
    unfold lexM;rw [← hr];exact cap_stays _ r hcap
   exact ⟨_,e.1,e.2,20,rfl,by rw [hlx];exact World.ownsRow_nil _ _ _ _,.inr ⟨by rw [hlx],rfl⟩,B2⟩
theorem lex_any (p:Option Addr) (m c:Nat) (l:List UInt8) (w:World) (hl:l.length=m) (hm2:m≤2147483646) (hmc:m≤c) (hM:Mem w p l) (hp:p=none→c=0) (hg:Glob w) :
 Calls Tryz.prog 19 #[.slice p m c] w (Told w l):=callsIn_wide.1 (lex_in 8 (Nat.le_refl _) p m c l w hl hm2 hmc hM hp hg)
end Go.Proofs.YtcnnlecjdkfdjaaGreatDoor.Ly
