/- Parts of the proof. -/
import Derived.Test.YtcnnlecjdkfdjaaGreatDoorLyMath2
set_option linter.unusedVariables false
set_option linter.unusedSimpArgs false
set_option maxRecDepth 100000
set_option maxHeartbeats 8000000
namespace Go.Proofs.YtcnnlecjdkfdjaaGreatDoor.Ly
open Go.RowKit Go.Shelf
attribute [local go_sem] Oper.semAt_some
theorem info33:(Tryz.prog.info? 51).map (fun i=>(i.zero,i.size,i.bytes))=some (some t0,5,48):=by kernel_rfl
structure Keep (n:Nat) (W W':World):Prop where
 all:∀ (b:Nat) (C:Array Value) (t:TypeId) (f:Nat × Nat),W.heap[b]?=some (Obj.cells C t f)→W'.heap[b]?=some (Obj.cells C t f)
 below:Below n W W'
theorem Hold.put {b D:Nat} {C:Array Value} {t:TypeId} {W:World} (h:Hold b C t W) {o:Obj} (o':Obj) (hD:W.heap[D]?=some o) (ho:o.isCells=false):Hold b C t (W.putObj D o'):=by
 refine (World.putObj_heap_other (fun e=>?_)).trans h
 subst e;rw [show W.heap[b]?=_ from h] at hD;cases hD;cases ho
theorem ownsRow_keep {n:Nat} {W W':World} (h:Keep n W W') {base:Nat} {e:TypeId} {size:Nat} {v:Value} {k:Nat} {xs:List Value} (hr:W.ownsRow base e size v k xs):W'.ownsRow base e size v k xs:=by
 rcases hr with ⟨h1,h2 | ⟨g,cap,cur,hv,hb,hg,r⟩⟩
 ·exact ⟨h1,.inl h2⟩
 ·exact ⟨h1,.inr ⟨g,cap,cur,hv,hb,h.all _ _ _ _ hg,r⟩⟩
theorem Keep.of_below {n:Nat} {W W':World} (h:Below W.heap.size W W') (hn:n≤W.heap.size):Keep n W W':=
 ⟨fun b C t f hb=>(h.block b (Array.getElem?_eq_some_iff.1 hb).1).trans hb,h.mono hn⟩
theorem Keep.trans {n:Nat} {A B C:World} (h:Keep n A B) (k:Keep n B C):Keep n A C:=⟨fun b C t f hb=>k.all _ _ _ _ (h.all _ _ _ _ hb),h.below.trans k.below⟩
theorem Keep.own {n B:Nat} {W W':World} {row:Option Nat} (hB:n≤B) (hn:n≤W.heap.size) (hg:W.grownBy W' row) (hr:∀ r,row=some r→B≤r∧∃ o:Obj,W.heap[r]?=some o∧o.isCells=false):Keep n W W':=by
 refine ⟨fun b C t f hb=>(hg.block b (Array.getElem?_eq_some_iff.1 hb).1 (fun e=>?_)).trans hb,hg.os,hg.tape,hg.output,hg.size,fun k hk=>hg.block k (by omega) (fun e=>?_)⟩
 ·obtain ⟨_,o,ho,hc⟩:=hr b e.symm
  rw [hb] at ho;cases ho;cases hc
 ·have:=(hr k e.symm).1;omega
theorem keepsOthers_below {W W':World} (h:Below W.heap.size W W'):KeepsOthers W W':=
 ⟨h.size,fun k o hk ho=>(h.block k (Array.getElem?_eq_some_iff.1 hk).1).trans hk⟩
theorem skip_any (p:Option Addr) (n c k:Nat) (l:List UInt8) (w:World) (hl:l.length=n) (hn:n≤2147483647) (hc:n≤c) (hk:k≤n) (hp:p=none→c=0) (hM:Mem w p l) :
 Calls Tryz.prog 42 #[.slice p n c,.int .i64 k] w fun e w'=>e=.returned (.int .i64 ((n - (sk (l.drop k)).length:Nat):Int))∧Below w.heap.size w w':=by
 rcases hM with rfl | ⟨b,o,rfl,hb,hm⟩
 ·obtain rfl:n=0:=by simpa using hl.symm
  obtain rfl:k=0:=by omega
  exact skip_none 0 c p w hp
 ·refine (skip_at b o n c k l w hl hn hc hk hb hm).mono ?_
  rintro e w' ⟨rfl,hb'⟩
  refine ⟨ret_int ?_,hb'⟩
  have:=sk_le (l.drop k)
  rw [List.length_drop] at this
  omega
def St (w:World) (b2 b3 b4 b5:Nat) (ts:List Tok) (W:World):Prop:=
 (∃ pa cap,Boxed W b5 22 (.slice pa ts.length cap)∧W.ownsRow w.heap.size 51 5 (.slice pa ts.length cap) ts.length (tcs ts))∧Hold b2 #[.slice none 0 0] 22 W∧Hold b3 #[.int .i64 0,.int .i64 0] 29 W∧Hold b4 #[.int .i64 0] 30 W∧Below w.heap.size w W
theorem St.keep {w W W':World} {b2 b3 b4 b5:Nat} {ts:List Tok} (h:St w b2 b3 b4 b5 ts W) (hk:Keep w.heap.size W W'):St w b2 b3 b4 b5 ts W':=by
 obtain ⟨⟨pa,cap,h1,h2⟩,h3,h4,h5,h6⟩:=h
 exact ⟨⟨pa,cap,hk.all _ _ _ _ h1,ownsRow_keep hk h2⟩,hk.all _ _ _ _ h3,hk.all _ _ _ _ h4,hk.all _ _ _ _ h5,h6.trans hk.below⟩
def Er (w:World) (b2 b3 b4:Nat) (e:Int × Int) (W:World):Prop:=
 Hold b2 #[.slice none 0 0] 22 W∧Hold b3 #[.int .i64 e.1,.int .i64 e.2] 29 W∧Hold b4 #[.int .i64 20] 30 W∧Below w.heap.size w W
theorem Er.keep {w W W':World} {b2 b3 b4:Nat} {e:Int × Int} (h:Er w b2 b3 b4 e W) (hk:Keep w.heap.size W W'):Er w b2 b3 b4 e W':=by
 obtain ⟨h3,h4,h5,h6⟩:=h
 exact ⟨hk.all _ _ _ _ h3,hk.all _ _ _ _ h4,hk.all _ _ _ _ h5,h6.trans hk.below⟩
theorem er_mk {w w3:World} {b2 b3 b4:Nat} (h2:Hold b2 #[.slice none 0 0] 22 w3) (h3:Hold b3 #[.int .i64 0,.int .i64 0] 29 w3) (h4:Hold b4 #[.int .i64 0] 30 w3) (hB:Below w.heap.size w w3) (d23:b2≠b3) (d24:b2≠b4) (d34:b3≠b4) (n2:w.heap.size≤b2) (n3:w.heap.size≤b3) (n4:w.heap.size≤b4) (a b:Int) (o:Obj) :
 Er w b2 b3 b4 (a,b) (((((w3.setCell ⟨b2,0,none⟩ (.slice none 0 0)).setCell ⟨b3,0,none⟩ (.int .i64 a)).setCell ⟨b3,1,none⟩ (.int .i64 b)).setCell ⟨b4,0,none⟩ (.int .i64 20)).alloc o) ∧
 KeepsOthers w3 (((((w3.setCell ⟨b2,0,none⟩ (.slice none 0 0)).setCell ⟨b3,0,none⟩ (.int .i64 a)).setCell ⟨b3,1,none⟩ (.int .i64 b)).setCell ⟨b4,0,none⟩ (.int .i64 20)).alloc o):=by
 refine ⟨⟨?_,?_,?_,?_⟩,?_⟩
 ·exact ((((h2.set 0 _).other d23 0 _).other d23 1 _).other d24 0 _).alloc o
 ·exact ((((h3.other d23.symm 0 _).set 0 _).set 1 _).other d34 0 _).alloc o
 ·exact ((((h4.other d24.symm 0 _).other d34.symm 0 _).other d34.symm 1 _).set 0 _).alloc o
 ·have hz:(((((w3.setCell ⟨b2,0,none⟩ (.slice none 0 0)).setCell ⟨b3,0,none⟩ (.int .i64 a)).setCell ⟨b3,1,none⟩ (.int .i64 b)).setCell ⟨b4,0,none⟩ (.int .i64 20))).heap.size=w3.heap.size:=by simp
  exact ((((hB.setCell (p:=⟨b2,0,none⟩) n2 _).setCell (p:=⟨b3,0,none⟩) n3 _).setCell (p:=⟨b3,1,none⟩) n3 _).setCell (p:=⟨b4,0,none⟩) n4 _).alloc (by rw [hz];exact hB.size) o
 ·exact ((((KeepsOthers.setCell _ _ _).trans (KeepsOthers.setCell _ _ _)).trans (KeepsOthers.setCell _ _ _)).trans (KeepsOthers.setCell _ _ _)).trans (KeepsOthers.alloc _ _)
theorem hold_app {W w1:World} {b B:Nat} {C:Array Value} {t:TypeId} {row:Option Nat} (h:Hold b C t W) (hg:W.grownBy w1 row) (hne:some b≠row) (hb:b≠B) (u:Value):Hold b C t (w1.setCell ⟨B,0,none⟩ u):=
 Hold.other ((hg.block b h.lt hne).trans h) hb 0 u
def toksOf {w:World} (pre:List (Ln w)):List Tok:=(rawLs (pre.map bare)).1
def badOf {w:World} (pre:List (Ln w)):Option (Int × Int):=(rawLs (pre.map bare)).2
def Told (w:World) (l:List UInt8) (e:Ending) (W':World):Prop:=
 ∃ v a b k,e=.returned (.tuple #[v,.agg #[.int .i64 a,.int .i64 b],.int .i64 k])∧W'.ownsRow w.heap.size 51 5 v (lexM l).1.length (tcs (lexM l).1)∧(((lexM l).2=none∧a=0∧b=0∧k=0)∨((lexM l).2=some (a,b)∧k=20))∧Below w.heap.size w W'
theorem lex_in (n:Nat) (hn:8≤n) (p:Option Addr) (m c:Nat) (l:List UInt8) (w:World) (hl:l.length=m) (hm2:m≤2147483646) (hmc:m≤c) (hM:Mem w p l) (hp:p=none→c=0) (hg:Glob w) :
 CallsIn Fence.wide n Tryz.prog 19 #[.slice p m c] w (Told w l):=by
 have h1:1≤n:=by omega
 refine callsIn_of_wp_marks Tryz.func19 rfl trivial ?_ rfl
 simp only [Tryz.ntmps19,List.size_toArray,List.length_cons,List.length_nil,Nat.reduceAdd,Nat.reduceSub,Array.replicate_succ,Array.replicate_zero,List.push_toArray,List.append_toArray,List.nil_append,List.cons_append]
 gi_wp2_with fail
 refine ⟨trivial,(lines_in (n - 1) _ _ _ _).mono ?_⟩
 rintro e w' ⟨rfl,rfl⟩
 gi_wp2_with fail
 have A2:=((((Hold.new w #[.slice none 0 0] 22).alloc (.cells #[.int .i64 0,.int .i64 0] 29)).alloc (.cells #[.int .i64 0] 30)).alloc (.cells #[.slice none 0 0] 22)).alloc (.cells #[.slice p m c] 42)
 have A3:=(((Hold.new (w.alloc (.cells #[.slice none 0 0] 22)) #[.int .i64 0,.int .i64 0] 29).alloc (.cells #[.int .i64 0] 30)).alloc (.cells #[.slice none 0 0] 22)).alloc (.cells #[.slice p m c] 42)
 have A4:=((Hold.new ((w.alloc (.cells #[.slice none 0 0] 22)).alloc (.cells #[.int .i64 0,.int .i64 0] 29)) #[.int .i64 0] 30).alloc (.cells #[.slice none 0 0] 22)).alloc (.cells #[.slice p m c] 42)
 have A5:=(Hold.new (((w.alloc (.cells #[.slice none 0 0] 22)).alloc (.cells #[.int .i64 0,.int .i64 0] 29)).alloc (.cells #[.int .i64 0] 30)) #[.slice none 0 0] 22).alloc (.cells #[.slice p m c] 42)
 have A6:=Hold.new ((((w.alloc (.cells #[.slice none 0 0] 22)).alloc (.cells #[.int .i64 0,.int .i64 0] 29)).alloc (.cells #[.int .i64 0] 30)).alloc (.cells #[.slice none 0 0] 22)) #[.slice p m c] 42
 have AB:Below w.heap.size w (((((w.alloc (.cells #[.slice none 0 0] 22)).alloc (.cells #[.int .i64 0,.int .i64 0] 29)).alloc (.cells #[.int .i64 0] 30)).alloc (.cells #[.slice none 0 0] 22)).alloc (.cells #[.slice p m c] 42)):=(((((Below.refl _ w).alloc (Nat.le_refl _) _).alloc (by simp) _).alloc (by simp;omega) _).alloc (by simp;omega) _).alloc (by simp;omega) _
 have AZ:(((((w.alloc (.cells #[.slice none 0 0] 22)).alloc (.cells #[.int .i64 0,.int .i64 0] 29)).alloc (.cells #[.int .i64 0] 30)).alloc (.cells #[.slice none 0 0] 22)).alloc (.cells #[.slice p m c] 42)).heap.size=w.heap.size+1+1+1+1+1:=by simp
 simp only [World.size_alloc] at A3 A4 A5 A6
 generalize (((((w.alloc (.cells #[.slice none 0 0] 22)).alloc (.cells #[.int .i64 0,.int .i64 0] 29)).alloc (.cells #[.int .i64 0] 30)).alloc (.cells #[.slice none 0 0] 22)).alloc (.cells #[.slice p m c] 42))=W0 at *
 have n6:w.heap.size≤w.heap.size+1+1+1+1:=by omega
 have n5:w.heap.size≤w.heap.size+1+1+1:=by omega
 have d25:w.heap.size≠w.heap.size+1+1+1:=by omega
 have d35:w.heap.size+1≠w.heap.size+1+1+1:=by omega
 have d45:w.heap.size+1+1≠w.heap.size+1+1+1:=by omega
 have d23:w.heap.size≠w.heap.size+1:=by omega
 have d24:w.heap.size≠w.heap.size+1+1:=by omega
 have d34:w.heap.size+1≠w.heap.size+1+1:=by omega
 have n3:w.heap.size≤w.heap.size+1:=by omega
 have n4:w.heap.size≤w.heap.size+1+1:=by omega
 have n2:w.heap.size≤w.heap.size:=by omega
 have AZ':w.heap.size+1+1+1+1<W0.heap.size:=by omega
 have AN:w.heap.size≤W0.heap.size:=by omega
 clear AZ
 generalize w.heap.size+1+1+1+1=b6 at *
 generalize w.heap.size+1+1+1=b5 at *
 generalize w.heap.size+1+1=b4 at *
 generalize w.heap.size+1=b3 at *
 obtain ⟨b2,hb2⟩:∃ b2,b2=w.heap.size:=⟨_,rfl⟩
 rw [show (Value.pointer (some { block:=w.heap.size,off:=0 }))=Value.pointer (some ⟨b2,0,none⟩) from by rw [hb2]]
 rw [← hb2] at A2 d25 d23 d24
 have n2':w.heap.size≤b2:=by omega
 clear hb2 n2
 refine wpIn_rangeFunc_ownG rfl h1 (gf:=93) (lb:=#[.pointer (some ⟨b6,0,none⟩)]) rfl trivial (enters_of Tryz.func93 (by kernel_rfl) rfl)
  (lines_stops (n - 1) (by omega) b6 p m c l w W0 hl hm2 hmc hM hp A6.lt (Boxed.cell A6) AB) belowK_t (belowK_b AN) (Below.refl _ _) (fun _=>rfl)
  (fun pre W=>badOf pre=none∧(toksOf pre).length≤2000∧St w b2 b3 b4 b5 (toksOf pre) W)
  (fun c pre W=>c=.ret∧∃ e,(cap (rawLs (pre.map bare))).2=some e∧Er w b2 b3 b4 e W)
  (fun s A B row hs hg hr=>⟨hs.1,hs.2.1,hs.2.2.keep (Keep.own AN hs.2.2.2.2.2.2.size hg hr)⟩)
  (fun c s A B row hs hg hr=>⟨hs.1,let ⟨e,h1,h2⟩:=hs.2;⟨e,h1,h2.keep (Keep.own AN h2.2.2.2.size hg hr)⟩⟩)
  ⟨rfl,by show ([]:List Tok).length≤2000;simp,⟨⟨none,0,A5,World.ownsRow_nil _ _ _ _⟩,A2,A3,A4,AB⟩⟩
  (fun x=>{ tmps:=#[.slice p m c,undef,.pointer (some ⟨b2,0,none⟩),.pointer (some ⟨b3,0,none⟩),.pointer (some ⟨b4,0,none⟩),.pointer (some ⟨b5,0,none⟩),.int .i64 x.1.1,.slice x.1.2.1 x.1.2.2.1 x.1.2.2.2.1,undef,undef,undef,undef,.slice p m c,.func (.func 93) #[] #[.pointer (some ⟨b6,0,none⟩)],.int .i64 x.1.1,.slice x.1.2.1 x.1.2.2.1 x.1.2.2.2.1,undef,undef,undef,undef,undef,undef,undef,undef,undef,undef,undef,undef,undef,undef,undef,undef,undef,undef,undef,undef,undef,undef,undef,undef,undef,undef,undef,undef,undef,undef,undef,undef,undef,undef,undef,undef,undef,undef,undef,undef,undef,undef,undef,undef,undef,undef,undef,undef],defers:=[] }) ?assign ?body ?done ?stop
 case assign=>
  intro ld x W K hK
  unfold enc
  gi_wp2
  exact hK
 case body=>
  rintro ld pre ⟨⟨nn,p1,m1,c1,l1⟩,hx⟩ W ⟨hbad,hlen,hSt⟩ hlt
  obtain ⟨hn1,hn2,hl1,hm1,hmc1,hM1,hp1⟩:=hx
  dsimp only at hn1 hn2 hl1 hm1 hmc1 hM1 hp1 ⊢
  have h1':1≤n - 1 - 1:=by omega
  have hBW:=hSt.2.2.2.2
  have HSK:=zz (skip_any p1 m1 c1 0 l1 W hl1 (by omega) hmc1 (by omega) hp1 (hM1.below (Nat.le_refl _) hBW))
  have hT0:Hid (∀ (x:Ln w),bare x=(nn,l1)→toksOf (pre ++ [x])=toksOf pre ++ (raw nn 0 l1).1∧badOf (pre ++ [x])=(raw nn 0 l1).2∧rawLs ((pre ++ [x]).map bare)=(toksOf pre ++ (raw nn 0 l1).1,(raw nn 0 l1).2)):=by
   intro x hx
   have e:=rawLs_snoc (pre.map bare) (nn,l1) hbad
   unfold toksOf badOf
   rw [List.map_append,List.map_cons,List.map_nil,hx,e]
   exact ⟨rfl,rfl,rfl⟩
  generalize hts0:toksOf pre=ts0 at *
  clear hts0 hbad hlt A2 A3 A4 A5 A6 AB n6 AZ'
  gi_wp2_with fail
  refine ⟨trivial,?_⟩
  gi_wp2_with fail
  refine (CallsIn.inRound ld (callsIn_wide.2 HSK.out)).mono ?_
  rintro e w1 ⟨rfl,hb1⟩
  have hK1:Keep w.heap.size W w1:=Keep.of_below hb1 hBW.size
  have hSt1:=hSt.keep hK1
  have hF1:KeepsFrom W0.heap.size W w1:=(keepsOthers_below hb1).from _
  have hk1:=sk_le l1
  have HJ0:=zz (sk_suffix l1)
  have HR0:=zz (raw_skip nn 0 l1)
  have HI0:=zz (sk_idem l1)
  rw [List.drop_zero] at *
  clear HSK hSt
  gi_wp2_with fail
  gi_loopw [8] (fun i wr=>∃ (j:Nat) (ts:List Tok),i=.int .i64 j∧j≤m1∧sk (l1.drop j)=l1.drop j∧St w b2 b3 b4 b5 ts wr∧ts.length≤2000∧ts0 ++ (raw nn 0 l1).1=ts ++ (raw nn j (l1.drop j)).1∧(raw nn 0 l1).2=(raw nn j (l1.drop j)).2∧KeepsFrom W0.heap.size W wr∧Below w.heap.size W wr) (fun i _=>m1 - (intOf i).toNat)
  case atStart=>
   refine ⟨m1 - (sk l1).length,ts0,rfl,by omega,?_,hSt1,hlen,?_,?_,hF1,hK1.below⟩
   ·rw [← hl1,← HJ0.out,HI0.out]
   ·rw [HR0.out,hl1,Nat.zero_add]
    rw [← hl1,← HJ0.out]
   ·rw [HR0.out,hl1,Nat.zero_add]
    rw [← hl1,← HJ0.out]
  case round=>
   obtain ⟨j,ts,rfl,hj,hsk,hSt,hlen,hraw,hbad,hF,hB⟩:=hrel
   clear hSt1 hF1 HJ0 HR0 HI0 hb1 hK1
   by_cases hjm:j<m1
   ·cases hd:l1.drop j with
    | nil=>exfalso;have:=congrArg List.length hd;simp at this;omega
    | cons cc r=>
     rw [hd] at hsk hraw hbad
     have hlr:(cc :: r).length=m1 - j:=by rw [← hd,List.length_drop,hl1]
     have hBw:=hSt.2.2.2.2
     have hNw:=hBw.size
     have MR:Mem wr p1 l1:=hM1.below (Nat.le_refl _) hBw
     rcases MR with he | ⟨b,o,rfl,hbb,hmm⟩
     ·rw [he] at hl1;simp at hl1;omega
     ·have M2:Mem wr (some ⟨b,o+j,none⟩) (cc :: r):=by
       rw [← hd];exact Mem.dropAt (.inr ⟨b,o,rfl,hbb,hmm⟩) j
      have hmm2:∀ i y,(cc :: r)[i]?=some y→wr.cell? ⟨b,o+j+i,none⟩=some (.int .u8 y.toNat):=by
       rcases M2 with he | ⟨b',o',he,_,hq⟩
       ·cases he
       ·cases he;exact hq
      have HEN:=zz (end_any b (o+j) (c1 - j) (m1 - j) (cc :: r) wr (by simp) hlr (by omega) hbb hmm2)
      have HTL:=zz (tok_len (cc :: r))
      have hkp:=tl_pos cc r
      have hkl:=tl_le (cc :: r)
      rw [hlr] at hkl
      have HNE:=zz (tok_ne cc r)
      have HDG:=zz (tok_dig (cc :: r))
      have HBADR:=fun h=>zz (raw_bad nn j cc r hsk h)
      have HTOKR:=fun (x:Int × Int) h=>zz (raw_tok nn j cc r hsk (x:=x) h)
      have M3:=M2.take (tl (cc :: r))
      have hgl:Glob wr:=hg.below (Nat.le_refl _) hBw
      clear hmm hmm2 M2
      generalize hk:tl (cc :: r)=k at *
      generalize htok:(cc :: r).take k=tok at *
      have HD:=zz hd
      clear hd
      gi_wp2_with fail
      refine ⟨trivial,(CallsIn.inRound ld (callsIn_wide.2 HEN.out)).mono ?_⟩
      rintro e w2 ⟨rfl,hb2⟩
      have M4:=M3.below (Nat.le_refl _) hb2
      have hcv:=M4.str HNE.out (c1 - j)
      rw [HTL.out] at hcv
      have HTK:=zz (token_any tok w2 HNE.out HDG.out (by rw [HTL.out];omega) (hgl.below (Nat.le_refl _) hb2))
      have K2:Keep w.heap.size wr w2:=Keep.of_below hb2 hNw
      have O2:=keepsOthers_below hb2
      clear M3 M4 HEN hgl
      have hkc:k≤c1 - j:=by omega
      gi_wp2_with fail
      refine ⟨trivial,(CallsIn.inRound ld (callsIn_wide.2 HTK.out)).mono ?_⟩
      rintro e w3 ⟨rfl,hb3⟩
      have K3:Keep w.heap.size wr w3:=K2.trans (Keep.of_below hb3 (Nat.le_trans hNw hb2.size))
      have O3:=O2.trans (keepsOthers_below hb3)
      have S3:=hSt.keep K3
      clear K2 O2 hSt HTK hcv hb2 hb3
      obtain ⟨⟨pa,cp,hv,hrow⟩,h2,h3,h4,hB3⟩:=S3
      have c5:=hv.cell
      have f5:=hv.frozen
      have c2:w3.cell? ⟨b2,0,none⟩=some (.slice none 0 0):=h2.cell 0
      have f2:=h2.frozen 0
      have c30:w3.cell? ⟨b3,0,none⟩=some (.int .i64 0):=h3.cell 0
      have c31:w3.cell? ⟨b3,1,none⟩=some (.int .i64 0):=h3.cell 1
      have f30:=h3.frozen 0
      have f31:=h3.frozen 1
      have c4:w3.cell? ⟨b4,0,none⟩=some (.int .i64 0):=h4.cell 0
      have f4:=h4.frozen 0
      have l2:=h2.lt
      have l3:=h3.lt
      have l4:=h4.lt
      have l5:=hv.lt
      have z2:¬ b2=w3.heap.size:=by omega
      have z3:¬ b3=w3.heap.size:=by omega
      have z4:¬ b4=w3.heap.size:=by omega
      have z5:¬ b5=w3.heap.size:=by omega
      cases htk:tk tok with
      | none=>
       have HR:=HBADR htk
       unfold tkv t0
       gi_wp2_with fail
       obtain ⟨e1,e2⟩:=er_mk h2 h3 h4 hB3 d23 d24 d34 n2' n3 n4 nn ((j:Int)+1) (.cells #[.int .i64 0,.string ⟨#[]⟩,.int .i64 0,.int .i64 0,.int .i64 0] 51)
       refine ⟨hF.trans ((O3.trans e2).from _),rfl,(nn,(j:Int)+1),?_,e1⟩
       rw [(hT0.out _ rfl).2.2]
       rw [HR.out] at hraw hbad
       rw [List.append_nil] at hraw
       exact cap_of_bad (by rw [hraw];exact hlen) hbad
      | some x=>
       have HR:=HTOKR x htk
       unfold tkv tvx
       by_cases h20:ts.length=2000
       ·have h20':((ts.length:Int) == 2000)=true:=by rw [h20];rfl
        have H20:=zz h20
        clear h20
        gi_wp2_with fail
        obtain ⟨e1,e2⟩:=er_mk h2 h3 h4 hB3 d23 d24 d34 n2' n3 n4 nn ((j:Int)+1) (.cells #[.int .i64 x.1,.string (S tok),.int .i64 x.2,.int .i64 0,.int .i64 0] 51)
        refine ⟨hF.trans ((O3.trans e2).from _),rfl,(nn,(j:Int)+1),?_,e1⟩
        rw [(hT0.out _ rfl).2.2]
        rw [HR.out] at hraw
        exact cap_of_over (t:=⟨x.1,tok,x.2,nn,(j:Int)+1⟩) (by rw [hraw,List.getElem?_append_right (by rw [H20.out];omega),H20.out];rfl)
       ·have h20':((ts.length:Int) == 2000)=false:=by rw [beq_eq_false_iff_ne];omega
        have h21:ts.length+1≤2000:=by omega
        clear h20
        obtain ⟨i0,hi,hz0,hz1,hz2⟩:=info_parts info33
        have hrowA:=hrow.alloc (.cells #[.int .i64 x.1,.string (S tok),.int .i64 x.2,.int .i64 nn,.int .i64 ((j:Int)+1)] 51)
        have hvA:=hv.alloc (.cells #[.int .i64 x.1,.string (S tok),.int .i64 x.2,.int .i64 nn,.int .i64 ((j:Int)+1)] 51)
        have h2A:=h2.alloc (.cells #[.int .i64 x.1,.string (S tok),.int .i64 x.2,.int .i64 nn,.int .i64 ((j:Int)+1)] 51)
        have h3A:=h3.alloc (.cells #[.int .i64 x.1,.string (S tok),.int .i64 x.2,.int .i64 nn,.int .i64 ((j:Int)+1)] 51)
        have h4A:=h4.alloc (.cells #[.int .i64 x.1,.string (S tok),.int .i64 x.2,.int .i64 nn,.int .i64 ((j:Int)+1)] 51)
        have htA:=Hold.new w3 #[.int .i64 x.1,.string (S tok),.int .i64 x.2,.int .i64 nn,.int .i64 ((j:Int)+1)] 51
        have hnA:w.heap.size≤(w3.alloc (.cells #[.int .i64 x.1,.string (S tok),.int .i64 x.2,.int .i64 nn,.int .i64 ((j:Int)+1)] 51)).heap.size:=by have:=hB3.size;simp;omega
        have htr:=row_lt hrow
        have hBA:Below w.heap.size w3 (w3.alloc (.cells #[.int .i64 x.1,.string (S tok),.int .i64 x.2,.int .i64 nn,.int .i64 ((j:Int)+1)] 51)):=(Below.refl _ w3).alloc hB3.size _
        have hOA:KeepsOthers w3 (w3.alloc (.cells #[.int .i64 x.1,.string (S tok),.int .i64 x.2,.int .i64 nn,.int .i64 ((j:Int)+1)] 51)):=KeepsOthers.alloc _ _
        have hsz:(S tok).size=k:=by rw [S_size,HTL.out]
        gi_wp2_with (gi_at_builtin;refine wpListIn_append_own _ rfl _ _ 22 rfl w.heap.size 51 i0 t0 5 48 Tryz.underlying22 hi hz0 hz1 hz2 rfl (by decide) _ _ _ rfl (hrowA.alloc _) ⟨w3.heap.size+1,0,none⟩ 1 1 (tc ⟨x.1,tok,x.2,nn,(j:Int)+1⟩) rfl rfl (by have:=cell_five_new (w3.alloc (.cells #[.int .i64 x.1,.string (S tok),.int .i64 x.2,.int .i64 nn,.int .i64 ((j:Int)+1)] 51)) (.int .i64 x.1) (.string (S tok)) (.int .i64 x.2) (.int .i64 nn) (.int .i64 ((j:Int)+1)) 51;rw [World.size_alloc] at this;exact this) (by simp [Value.oneCell',tc]) (by unfold maxLen;omega) (by omega) (by simp;omega) ?_;intro v' w4 hown' hgrow _;obtain ⟨g',cap',rfl⟩:=ownsRow_succ hown';obtain ⟨hv1,hv2,hr2,hk2,hb2⟩:=hvA.appended (by decide) hrowA hnA n5 hown' hgrow;have hc1:=hv1.cell;have hf1:=hv1.frozen;have ht2:=hold_app (htA.alloc _) hgrow htr (Ne.symm z5) (.slice (some ⟨g',0,none⟩) (ts.length+1) cap');have ct:=ht2.cell 1)
        have q2:=hold_app (h2A.alloc _) hgrow (row_ne h2A hrowA (by decide)) d25 (.slice (some ⟨g',0,none⟩) (ts.length+1) cap')
        have q3:=hold_app (h3A.alloc _) hgrow (row_ne h3A hrowA (by decide)) d35 (.slice (some ⟨g',0,none⟩) (ts.length+1) cap')
        have q4:=hold_app (h4A.alloc _) hgrow (row_ne h4A hrowA (by decide)) d45 (.slice (some ⟨g',0,none⟩) (ts.length+1) cap')
        have S5:St w b2 b3 b4 b5 (ts ++ [⟨x.1,tok,x.2,nn,(j:Int)+1⟩]) (w4.setCell ⟨b5,0,none⟩ (.slice (some ⟨g',0,none⟩) (ts.length+1) cap')):=by
         refine ⟨⟨some ⟨g',0,none⟩,cap',?_,?_⟩,q2,q3,q4,(hB3.trans hBA).trans hb2⟩
         ·rw [List.length_append,List.length_singleton];exact hv2
         ·rw [List.length_append,List.length_singleton,tcs_snoc];exact hr2
        have O5:KeepsOthers wr (w4.setCell ⟨b5,0,none⟩ (.slice (some ⟨g',0,none⟩) (ts.length+1) cap')):=(O3.trans hOA).trans hk2
        have B5:Below w.heap.size wr (w4.setCell ⟨b5,0,none⟩ (.slice (some ⟨g',0,none⟩) (ts.length+1) cap')):=(K3.below.trans hBA).trans hb2
        generalize w4.setCell ⟨b5,0,none⟩ (.slice (some ⟨g',0,none⟩) (ts.length+1) cap')=w5 at *
        have hB5:=S5.2.2.2.2
        have HSK:=skip_any (some ⟨b,o,none⟩) m1 c1 (j+k) l1 w5 hl1 (by omega) hmc1 (by omega) (fun h=>by cases h) (hM1.below (Nat.le_refl _) hB5)
        rw [show ((j+k:Nat):Int)=(j:Int)+(k:Int) from by omega] at HSK
        clear hv1 hv2 hr2 hk2 hb2 hc1 hf1 ht2 ct q2 q3 q4 hgrow hown' hrowA hvA h2A h3A h4A htA hnA htr hBA hOA hv hrow h2 h3 h4 c2 f2 c30 c31 f30 f31 c4 f4 c5 f5 l2 l3 l4 l5 z2 z3 z4 z5 hi hz0 hz1 hz2 K3 O3 hsz
        refine ⟨trivial,(CallsIn.inRound ld (callsIn_wide.2 HSK)).mono ?_⟩
        rintro e w6 ⟨rfl,hb6⟩
        have K6:Keep w.heap.size w5 w6:=Keep.of_below hb6 hB5.size
        have S6:=S5.keep K6
        have O6:=O5.trans (keepsOthers_below hb6)
        have B6:=B5.trans K6.below
        have hdk:(cc :: r).drop k=l1.drop (j+k):=by rw [← HD.out,List.drop_drop]
        rw [hdk] at HR
        have hsl:=sk_le (l1.drop (j+k))
        have hss:=sk_suffix (l1.drop (j+k))
        have hrs:=raw_skip nn (j+k) (l1.drop (j+k))
        have hid:=sk_idem (l1.drop (j+k))
        have hdl:(l1.drop (j+k)).length=m1 - (j+k):=by rw [List.length_drop,hl1]
        rw [hdl] at hsl hss hrs
        rw [List.drop_drop] at hss
        generalize sk (l1.drop (j+k))=u at *
        have hu:l1.drop (m1 - u.length)=u:=by
         conv=>rhs;rw [hss]
         congr 1
         omega
        have HU:=zz hu
        have HRS:=zz hrs
        have HID:=zz hid
        have HRW:=zz hraw
        have HBD:=zz hbad
        have HSS:=zz hss
        clear hu hrs hid hraw hbad hss hdk hsk hlr hk htok htk HSK S5 O5 B5 HBADR HTOKR
        gi_wp2_with fail
        go_roundw
        case rel=>
         refine ⟨m1 - u.length,ts ++ [⟨x.1,tok,x.2,nn,(j:Int)+1⟩],rfl,by omega,by rw [HU.out];exact HID.out,S6,by rw [List.length_append];simp;omega,?_,?_,hF.trans (O6.from _),hB.trans B6⟩
         ·rw [HRW.out,HR.out,HU.out,HRS.out,List.append_assoc,show j+k+(m1 - (j+k) - u.length)=m1 - u.length from by omega];rfl
         ·rw [HBD.out,HR.out,HU.out,HRS.out,show j+k+(m1 - (j+k) - u.length)=m1 - u.length from by omega]
        case measure=>simp [intOf];omega
   ·have hd:l1.drop j=[]:=List.drop_eq_nil_of_le (by omega)
    rw [hd,raw_end] at hraw hbad
    rw [List.append_nil] at hraw
    gi_wp2_with fail
    obtain ⟨t1,t2,t3⟩:=hT0.out ⟨(nn,p1,m1,c1,l1),hn1,hn2,hl1,hm1,hmc1,hM1,hp1⟩ rfl
    refine ⟨hF,hB,?_,?_,?_⟩
    ·rw [t2,hbad]
    ·rw [t1,hraw];exact hlen
    ·rw [t1,hraw];exact hSt
 case done=>
  rintro D ys W hD hS ⟨hbad,hlen,⟨pa,cp,hv,hrow⟩,h2,h3,h4,hB⟩ hK
  have c5:=hv.cell
  have c2:=h2.cell 0
  have f2:=h2.frozen 0
  have c30:=h3.cell 0
  have c31:=h3.cell 1
  have f30:=h3.frozen 0
  have f31:=h3.frozen 1
  have c4:=h4.cell 0
  have f4:=h4.frozen 0
  gi_wp2
  have hK':=((((KeepsOthers.setCell W ⟨b2,0,none⟩ (.slice pa (toksOf ys).length cp)).trans (KeepsOthers.setCell _ ⟨b3,0,none⟩ (.int .i64 0))).trans (KeepsOthers.setCell _ ⟨b3,1,none⟩ (.int .i64 0))).trans (KeepsOthers.setCell _ ⟨b4,0,none⟩ (.int .i64 0))).same D _ hK rfl
  have H2:=((((h2.set 0 (.slice pa (toksOf ys).length cp)).other d23 0 (.int .i64 0)).other d23 1 (.int .i64 0)).other d24 0 (.int .i64 0)).put (.deferred none) hK' rfl
  have H3:=(((((h3.other d23.symm 0 (.slice pa (toksOf ys).length cp)).set 0 (.int .i64 0)).set 1 (.int .i64 0)).other d34 0 (.int .i64 0))).put (.deferred none) hK' rfl
  have H4:=(((((h4.other d24.symm 0 (.slice pa (toksOf ys).length cp)).other d34.symm 0 (.int .i64 0)).other d34.symm 1 (.int .i64 0)).set 0 (.int .i64 0))).put (.deferred none) hK' rfl
  have B1:=(((hB.setCell (p:=⟨b2,0,none⟩) n2' (.slice pa (toksOf ys).length cp)).setCell (p:=⟨b3,0,none⟩) n3 (.int .i64 0)).setCell (p:=⟨b3,1,none⟩) n3 (.int .i64 0)).setCell (p:=⟨b4,0,none⟩) n4 (.int .i64 0)
  have B2:=B1.trans (belowK_b (w:=w) (Nat.le_refl _) _ D _ (.deferred none) (by omega) hK' rfl rfl)
  have R1:=row_other (row_other (row_other (row_other hrow h2 (by decide) 0 (.slice pa (toksOf ys).length cp)) (h3.other d23.symm 0 (.slice pa (toksOf ys).length cp)) (by decide) 0 (.int .i64 0)) ((h3.other d23.symm 0 (.slice pa (toksOf ys).length cp)).set 0 (.int .i64 0)) (by decide) 1 (.int .i64 0)) (((h4.other d24.symm 0 (.slice pa (toksOf ys).length cp)).other d34.symm 0 (.int .i64 0)).other d34.symm 1 (.int .i64 0)) (by decide) 0 (.int .i64 0)
  have R2:=ownsRow_putObj R1 (.deferred none) hK' rfl
  have e1:=H2.cell 0
  have e2:=H3.cell 0
  have e3:=H3.cell 1
  have e4:=H4.cell 0
  refine ⟨by simp,.inl ⟨_,_,rfl,run_takeDeferred hK',?_⟩⟩
  generalize ((((W.setCell ⟨b2,0,none⟩ (.slice pa (toksOf ys).length cp)).setCell ⟨b3,0,none⟩ (.int .i64 0)).setCell ⟨b3,1,none⟩ (.int .i64 0)).setCell ⟨b4,0,none⟩ (.int .i64 0)).putObj D (.deferred none)=W4 at *
  refine ⟨.tuple #[.slice pa (toksOf ys).length cp,.agg #[.int .i64 0,.int .i64 0],.int .i64 0],?_,?_⟩
  ·simp [results,Tryz.f19,go_sem,e1,e2,e3,e4]
  ·have hlx:lexM l=(toksOf ys,none):=by
    unfold lexM;rw [← hS];exact cap_of_ok hlen hbad
   refine ⟨_,0,0,0,rfl,?_,.inl ⟨by rw [hlx],rfl,rfl,rfl⟩,B2⟩
   rw [hlx]
   exact R2
 case stop=>
  rintro D c pre W hD ⟨r,hr⟩ ⟨rfl,e,hcap,h2,h3,h4,hB⟩ hK
  gi_wp2
  have e1:=(h2.put (.deferred none) hK rfl).cell 0
  have e2:=(h3.put (.deferred none) hK rfl).cell 0
  have e3:=(h3.put (.deferred none) hK rfl).cell 1
  have e4:=(h4.put (.deferred none) hK rfl).cell 0
  have B2:=hB.trans (belowK_b (w:=w) (Nat.le_refl _) _ D _ (.deferred none) (by omega) hK rfl rfl)
  refine ⟨by simp,.inl ⟨_,_,rfl,run_takeDeferred hK,?_⟩⟩
  refine ⟨.tuple #[.slice none 0 0,.agg #[.int .i64 e.1,.int .i64 e.2],.int .i64 20],?_,?_⟩
  ·simp [results,Tryz.f19,go_sem,e1,e2,e3,e4]
  ·have hlx:lexM l=([],some e):=by
    unfold lexM;rw [← hr];exact cap_stays _ r hcap
   exact ⟨_,e.1,e.2,20,rfl,by rw [hlx];exact World.ownsRow_nil _ _ _ _,.inr ⟨by rw [hlx],rfl⟩,B2⟩
theorem lex_any (p:Option Addr) (m c:Nat) (l:List UInt8) (w:World) (hl:l.length=m) (hm2:m≤2147483646) (hmc:m≤c) (hM:Mem w p l) (hp:p=none→c=0) (hg:Glob w) :
 Calls Tryz.prog 19 #[.slice p m c] w (Told w l):=callsIn_wide.1 (lex_in 8 (Nat.le_refl _) p m c l w hl hm2 hmc hM hp hg)
end Go.Proofs.YtcnnlecjdkfdjaaGreatDoor.Ly
namespace Go.Proofs.YtcnnlecjdkfdjaaGreatDoor.Ly
open Go.RowKit
def isK (t:Tok) (l:List UInt8):Bool:=t.kd == 4 && t.tx == l
theorem is_any (t:Tok) (l:List UInt8) (w:World):Calls Tryz.prog 45 #[tv t,.string (S l)] w fun e w'=>e=.returned (.bool (isK t l))∧Below w.heap.size w w':=by
 have h1:=S_list t.tx
 have h2:=S_list l
 unfold isK tv
 generalize S t.tx=s at *
 generalize S l=u at *
 generalize t.kd=k at *
 by_cases h:k=4
 ·subst h
  go_enter Tryz.func45,Tryz.ntmps45
  go_wp2
  go_ret
  exact ⟨rfl,(Below.refl _ _).alloc (Nat.le_refl _) _⟩
 ·have h4:(k == 4)=false:=by simpa using h
  go_enter Tryz.func45,Tryz.ntmps45
  go_wp2
  go_ret
  exact ⟨by simp [h],(Below.refl _ _).alloc (Nat.le_refl _) _⟩
def opensK (t:Tok):Bool:=isK t [40] || isK t [123]
def closesK (t:Tok):Bool:=isK t [41] || isK t [125]
def beginsK (t:Tok):Bool:=isK t [111,102] || isK t [100,111] || isK t [100,111,115]
theorem opens_any (t:Tok) (w:World):Calls Tryz.prog 106 #[tv t] w fun e w'=>e=.returned (.bool (opensK t))∧Below w.heap.size w w':=by
 unfold opensK
 have A:=zz (fun w=>is_any t [40] w)
 have C:=zz (fun w=>is_any t [123] w)
 have T0:=TB.new w t
 unfold tv at A C ⊢
 cases h:isK t [40] <;> rw [h] at A
 ·go_enter Tryz.func106,Tryz.ntmps106
  go_wp2_with fail
  refine (A.out _).mono ?_;rintro e w1 ⟨rfl,b1⟩
  obtain ⟨c0,c1,c2,c3,c4⟩:=(T0.below b1 (by simp)).cells
  go_wp2_with fail
  refine (C.out _).mono ?_;rintro e w2 ⟨rfl,b2⟩;go_wp2_with fail
  go_ret
  exact ⟨by simp,(below_next b1).trans (b2.mono (below_next b1).size)⟩
 ·go_enter Tryz.func106,Tryz.ntmps106
  go_wp2_with fail
  refine (A.out _).mono ?_;rintro e w1 ⟨rfl,b1⟩
  go_wp2_with fail
  go_ret
  exact ⟨by simp,below_next b1⟩
theorem closes_any (t:Tok) (w:World):Calls Tryz.prog 48 #[tv t] w fun e w'=>e=.returned (.bool (closesK t))∧Below w.heap.size w w':=by
 unfold closesK
 have A:=zz (fun w=>is_any t [41] w)
 have C:=zz (fun w=>is_any t [125] w)
 have T0:=TB.new w t
 unfold tv at A C ⊢
 cases h:isK t [41] <;> rw [h] at A
 ·go_enter Tryz.func48,Tryz.ntmps48
  go_wp2_with fail
  refine (A.out _).mono ?_;rintro e w1 ⟨rfl,b1⟩
  obtain ⟨c0,c1,c2,c3,c4⟩:=(T0.below b1 (by simp)).cells
  go_wp2_with fail
  refine (C.out _).mono ?_;rintro e w2 ⟨rfl,b2⟩;go_wp2_with fail
  go_ret
  exact ⟨by simp,(below_next b1).trans (b2.mono (below_next b1).size)⟩
 ·go_enter Tryz.func48,Tryz.ntmps48
  go_wp2_with fail
  refine (A.out _).mono ?_;rintro e w1 ⟨rfl,b1⟩
  go_wp2_with fail
  go_ret
  exact ⟨by simp,below_next b1⟩
theorem begins_any (t:Tok) (w:World):Calls Tryz.prog 107 #[tv t] w fun e w'=>e=.returned (.bool (beginsK t))∧Below w.heap.size w w':=by
 unfold beginsK
 have A:=zz (fun w=>is_any t [111,102] w)
 have C:=zz (fun w=>is_any t [100,111] w)
 have D:=zz (fun w=>is_any t [100,111,115] w)
 have T0:=TB.new w t
 unfold tv at A C D ⊢
 cases h:isK t [111,102] <;> rw [h] at A
 ·cases h2:isK t [100,111] <;> rw [h2] at C
  ·go_enter Tryz.func107,Tryz.ntmps107
   go_wp2_with fail
   refine (A.out _).mono ?_;rintro e w1 ⟨rfl,b1⟩
   have T1:=T0.below b1 (by simp)
   obtain ⟨c0,c1,c2,c3,c4⟩:=T1.cells
   go_wp2_with fail
   refine (C.out _).mono ?_;rintro e w2 ⟨rfl,b2⟩
   obtain ⟨d0,d1,d2,d3,d4⟩:=(T1.below b2 (Hold.lt T1)).cells
   go_wp2_with fail
   refine (D.out _).mono ?_;rintro e w3 ⟨rfl,b3⟩
   go_wp2_with fail
   go_ret
   have B2:=(below_next b1).trans (b2.mono (below_next b1).size)
   exact ⟨by simp,B2.trans (b3.mono B2.size)⟩
  ·go_enter Tryz.func107,Tryz.ntmps107
   go_wp2_with fail
   refine (A.out _).mono ?_;rintro e w1 ⟨rfl,b1⟩
   have T1:=T0.below b1 (by simp)
   obtain ⟨c0,c1,c2,c3,c4⟩:=T1.cells
   go_wp2_with fail
   refine (C.out _).mono ?_;rintro e w2 ⟨rfl,b2⟩
   go_wp2_with fail
   go_ret
   exact ⟨by simp,(below_next b1).trans (b2.mono (below_next b1).size)⟩
 ·go_enter Tryz.func107,Tryz.ntmps107
  go_wp2_with fail
  refine (A.out _).mono ?_;rintro e w1 ⟨rfl,b1⟩
  go_wp2_with fail
  go_ret
  exact ⟨by simp,below_next b1⟩
theorem LS.put {P:Nat→Prop} {B:Nat} {o:List Tok} {st:List Blk} {f:Bool} {pa:Option Addr} {ca:Nat} {po:Option Addr} {co:Nat} {w W W1:World} (h:LS P B o st f pa ca po co w) (hB:Below w.heap.size w W) (t:Tok) {g cap H:Nat}
 (hown:W1.ownsRow 0 51 5 (.slice (some ⟨g,0,none⟩) (o.length+1) cap) (o.length+1) (tcs o ++ tc t)) (hg:W.grownBy W1 (Value.slice pa o.length ca).ownBlock) (hat:(Value.slice pa o.length ca).ownBlock=some g∨g=H) (hH:w.heap.size≤H) :
 L P B (o ++ [t]) st f (W1.setCell ⟨B,0,none⟩ (.slice (some ⟨g,0,none⟩) (o.length+1) cap))∧KP P w (W1.setCell ⟨B,0,none⟩ (.slice (some ⟨g,0,none⟩) (o.length+1) cap)):=by
 obtain ⟨hH1,hT,hO,hA⟩:=h
 have nB:some B≠(Value.slice pa o.length ca).ownBlock:=row_ne hH1 hT (by decide)
 have hlt:=hH1.lt
 have HB:Hold B #[.slice pa o.length ca,.slice po st.length co,.bool f] 89 W1:=(hg.block B (Nat.lt_of_lt_of_le hlt hB.size) nB).trans (hH1.below hB hlt)
 have hk:∀ b,b<w.heap.size→some b≠(Value.slice pa o.length ca).ownBlock→W1.heap[b]?=w.heap[b]?:=fun b hb hne=>(hg.block b (Nat.lt_of_lt_of_le hb hB.size) hne).trans (hB.block b hb)
 have hO1:W1.ownsRow 0 146 2 (.slice po st.length co) st.length (bcs st.reverse):=row_keep hO fun x hx hl=>hk x hl (rows_ne hO hT (by decide) x hx)
 refine ⟨⟨some ⟨g,0,none⟩,cap,po,co,?_,?_,?_,?_⟩,?_⟩
 ·have:=HB.set 0 (.slice (some ⟨g,0,none⟩) (o.length+1) cap)
  rw [List.length_append,List.length_singleton];exact this
 ·rw [List.length_append,List.length_singleton,tcs_snoc]
  exact row_other hown HB (by decide) 0 _
 ·exact row_other hO1 HB (by decide) 0 _
 ·intro b hb
  obtain ⟨a1,a2,a3,a4⟩:=hA b hb
  refine ⟨?_,a2,?_,a4⟩
  ·have:=hg.size;have:=hB.size;simp;omega
  ·intro e
   have e2:b=g:=by simpa [Value.ownBlock] using e
   subst e2
   rcases hat with h1 | h1
   ·exact a3 h1.symm
   ·omega
 ·refine KP.trans (KP.trans (KP.of_below hB fun b hb=>(hA b hb).1) (KP.of_grown hg fun b hb=>⟨Nat.lt_of_lt_of_le (hA b hb).1 hB.size,(hA b hb).2.2.1⟩)) (KP.setCell _ _ _ _ fun hb=>(hA B hb).2.1 rfl)
theorem frozen_ad (w:World) (o:Obj) (a:Addr) (h:a.block<w.heap.size):((w.alloc o).drew).frozen? a=w.frozen? a:=by
 have e:((w.alloc o).drew).heap[a.block]?=w.heap[a.block]?:=Below.heap_alloc w o _ h
 unfold World.frozen?;rw [e]
theorem put_any (P:Nat→Prop) (B:Nat) (c:List UInt8) (t:Tok) (o:List Tok) (st:List Blk) (f:Bool) (w:World) (hL:L P B o st f w) (hn:o.length≤1000000) :
 Calls Tryz.prog 101 #[.pointer (some ⟨B,0,none⟩),.string (S c),tv t] w fun e w'=>e=.returned (.tuple #[])∧L P B (o ++ [⟨4,c,0,t.ln,t.co⟩]) st f w'∧KP P w w':=by
 obtain ⟨pa,ca,po,co,hS⟩:=hL
 have T0:=TB.new w t
 obtain ⟨c0,c1,c2,c3,c4⟩:=T0.cells
 have B0:=(Below.refl _ w).alloc (Nat.le_refl _) (.cells #[.int .i64 t.kd,.string (S t.tx),.int .i64 t.nu,.int .i64 t.ln,.int .i64 t.co] 51)
 have hH1:=hS.hold.alloc (.cells #[.int .i64 t.kd,.string (S t.tx),.int .i64 t.nu,.int .i64 t.ln,.int .i64 t.co] 51)
 have hT1:=hS.told.alloc (.cells #[.int .i64 t.kd,.string (S t.tx),.int .i64 t.nu,.int .i64 t.ln,.int .i64 t.co] 51)
 have hq:w.heap.size<(w.alloc (.cells #[.int .i64 t.kd,.string (S t.tx),.int .i64 t.nu,.int .i64 t.ln,.int .i64 t.co] 51)).heap.size:=by simp
 have b0:(w.alloc (.cells #[.int .i64 t.kd,.string (S t.tx),.int .i64 t.nu,.int .i64 t.ln,.int .i64 t.co] 51)).cell? ⟨B,0,none⟩=some (.slice pa o.length ca):=hH1.cell 0
 have f0:=hH1.frozen 0
 have hlt:=hH1.lt
 have nB:(Value.slice pa o.length ca).ownBlock≠some B:=Ne.symm (row_ne hH1 hT1 (by decide))
 have nq:(Value.slice pa o.length ca).ownBlock≠some w.heap.size:=Ne.symm (row_lt hS.told)
 obtain ⟨i0,hi,hz0,hz1,hz2⟩:=info_parts info32
 have HS:=zz hS
 have HB0:=zz B0
 clear hS B0 T0 c0 c1 c2
 unfold tv
 go_enter Tryz.func101,Tryz.ntmps101
 go_wp2_with fail
 generalize (w.alloc (.cells #[.int .i64 t.kd,.string (S t.tx),.int .i64 t.nu,.int .i64 t.ln,.int .i64 t.co] 51))=w1 at *
 generalize hqq:w.heap.size=q at *
 have hfz:∀ x:Obj,((w1.alloc x).drew).frozen? ⟨B,0,none⟩=false:=fun x=>(frozen_ad w1 x ⟨B,0,none⟩ hlt).trans f0
 go_region_law
  ((refine step_append_lies _ (by rfl) _ _ _ (by rfl) 0 51 i0 _ 5 48 Tryz.underlying22 hi hz0 hz1 hz2 rfl (by omega) (.slice pa o.length ca) o.length (tcs o) (by rfl) ((hT1.alloc _).drew) ⟨w1.heap.size,0,none⟩ 1 1 [.int .i64 4,.string (S c),.int .i64 0,.int .i64 t.ln,.int .i64 t.co] (by rfl) (by rfl) (World.news_of_block (cs:=#[.int .i64 4,.string (S c),.int .i64 0,.int .i64 t.ln,.int .i64 t.co]) (t:=51) (fr:=(0,0)) (heap_alloc_new w1 _)) (by simp [Value.oneCell']) (by omega) (by unfold maxLen;omega) (by omega) (by simp) (w1.heap.size+1) (by simp) ?_;intro gg cap w2 hown1 hgrow hat hlt2;have HB2:Hold B #[.slice pa o.length ca,.slice po st.length co,.bool f] 89 w2:=(hgrow.block B (Hold.lt (hH1.alloc _)) (Ne.symm nB)).trans (hH1.alloc _);have d0:w2.cell? ⟨B,0,none⟩=some (.slice pa o.length ca):=HB2.cell 0;have d1:=HB2.frozen 0;clear HB2))
 all_goals go_wp2_with fail
 all_goals go_end0
 all_goals
  have hB2:Below w.heap.size w ((w1.alloc (.cells #[.int .i64 4,.string (S c),.int .i64 0,.int .i64 t.ln,.int .i64 t.co] 51)).drew):=by
   rw [hqq];exact (HB0.out.alloc (Nat.le_of_lt hq) _).trans ⟨rfl,rfl,rfl,Nat.le_refl _,fun _ _=>rfl⟩
  exact ⟨rfl,HS.out.put hB2 ⟨4,c,0,t.ln,t.co⟩ hown1 hgrow hat (by omega)⟩
theorem L.below {P:Nat→Prop} {B:Nat} {o:List Tok} {st:List Blk} {f:Bool} {w w':World} (h:L P B o st f w) (hb:Below w.heap.size w w'):L P B o st f w':=by
 obtain ⟨pa,ca,po,co,hH,hT,hO,hA⟩:=h
 refine ⟨pa,ca,po,co,hH.below hb hH.lt,row_keep hT fun g _ hg=>hb.block g hg,row_keep hO fun g _ hg=>hb.block g hg,fun b hP=>?_⟩
 obtain ⟨h1,h2,h3,h4⟩:=hA b hP
 exact ⟨Nat.lt_of_lt_of_le h1 hb.size,h2,h3,h4⟩
theorem L.weak {P Q:Nat→Prop} {B:Nat} {o:List Tok} {st:List Blk} {f:Bool} {w:World} (h:L P B o st f w) (hq:∀ b,Q b→P b):L Q B o st f w:=by
 obtain ⟨pa,ca,po,co,hH,hT,hO,hA⟩:=h
 exact ⟨pa,ca,po,co,hH,hT,hO,fun b hb=>hA b (hq b hb)⟩
theorem L.drew {P:Nat→Prop} {B:Nat} {o:List Tok} {st:List Blk} {f:Bool} {w:World} (h:L P B o st f w):L P B o st f w.drew:=by
 obtain ⟨pa,ca,po,co,hH,hT,hO,hA⟩:=h
 exact ⟨pa,ca,po,co,hH,hT,hO,hA⟩
theorem KP.drew {P:Nat→Prop} {w w':World} (h:KP P w w'):KP P w w'.drew:=⟨h.os,h.tape,h.output,h.size,h.block⟩
theorem LS.pop {P:Nat→Prop} {B:Nat} {o:List Tok} {b:Blk} {st:List Blk} {f:Bool} {pa:Option Addr} {ca:Nat} {po:Option Addr} {co:Nat} {w:World} (h:LS P B o (b :: st) f pa ca po co w) :
 L P B o st f (w.setCell ⟨B,1,none⟩ (.slice po st.length co))∧KP P w (w.setCell ⟨B,1,none⟩ (.slice po st.length co)):=by
 obtain ⟨hH,hT,hO,hA⟩:=h
 refine ⟨⟨pa,ca,po,co,hH.set 1 _,row_other hT hH (by decide) 1 _,?_,fun x hx=>?_⟩,KP.setCell _ _ _ _ fun hb=>(hA B hb).2.1 rfl⟩
 ·refine row_other ?_ hH (by decide) 1 _
  have:=row_cut hO (j:=st.length) (by simp)
  have e:(bcs (b :: st).reverse).take (st.length * 2)=bcs st.reverse:=by
   rw [List.reverse_cons,bcs_snoc,List.take_append_of_le_length (by rw [bcs_len];simp),List.take_of_length_le (by rw [bcs_len];simp)]
  rw [e] at this;exact this
 ·obtain ⟨h1,h2,h3,h4⟩:=hA x hx
  refine ⟨by simpa using h1,h2,h3,?_⟩
  cases po with
  | none=>simp [Value.ownBlock]
  | some a=>simpa [Value.ownBlock] using h4
theorem LS.fresh {P:Nat→Prop} {B:Nat} {o:List Tok} {st:List Blk} {f:Bool} {pa:Option Addr} {ca:Nat} {po:Option Addr} {co:Nat} {w:World} (h:LS P B o st f pa ca po co w) (f':Bool) :
 L P B o st f' (w.setCell ⟨B,2,none⟩ (.bool f'))∧KP P w (w.setCell ⟨B,2,none⟩ (.bool f')):=by
 obtain ⟨hH,hT,hO,hA⟩:=h
 refine ⟨⟨pa,ca,po,co,hH.set 2 _,row_other hT hH (by decide) 2 _,row_other hO hH (by decide) 2 _,fun x hx=>?_⟩,KP.setCell _ _ _ _ fun hb=>(hA B hb).2.1 rfl⟩
 obtain ⟨h1,h2,h3,h4⟩:=hA x hx
 exact ⟨by simpa using h1,h2,h3,h4⟩
theorem LS.push {P:Nat→Prop} {B:Nat} {o:List Tok} {st:List Blk} {f:Bool} {pa:Option Addr} {ca:Nat} {po:Option Addr} {co:Nat} {w W W1:World} (h:LS P B o st f pa ca po co w) (hB:Below w.heap.size w W) (b:Blk) {g cap H:Nat}
 (hown:W1.ownsRow 0 146 2 (.slice (some ⟨g,0,none⟩) (st.length+1) cap) (st.length+1) (bcs st.reverse ++ bc b)) (hg:W.grownBy W1 (Value.slice po st.length co).ownBlock) (hat:(Value.slice po st.length co).ownBlock=some g∨g=H) (hH:w.heap.size≤H) :
 L P B o (b :: st) f (W1.setCell ⟨B,1,none⟩ (.slice (some ⟨g,0,none⟩) (st.length+1) cap))∧KP P w (W1.setCell ⟨B,1,none⟩ (.slice (some ⟨g,0,none⟩) (st.length+1) cap)):=by
 obtain ⟨hH1,hT,hO,hA⟩:=h
 have nB:some B≠(Value.slice po st.length co).ownBlock:=row_ne hH1 hO (by decide)
 have hlt:=hH1.lt
 have HB:Hold B #[.slice pa o.length ca,.slice po st.length co,.bool f] 89 W1:=(hg.block B (Nat.lt_of_lt_of_le hlt hB.size) nB).trans (hH1.below hB hlt)
 have hk:∀ b,b<w.heap.size→some b≠(Value.slice po st.length co).ownBlock→W1.heap[b]?=w.heap[b]?:=fun b hb hne=>(hg.block b (Nat.lt_of_lt_of_le hb hB.size) hne).trans (hB.block b hb)
 have hT1:W1.ownsRow 0 51 5 (.slice pa o.length ca) o.length (tcs o):=row_keep hT fun x hx hl=>hk x hl (rows_ne hT hO (by decide) x hx)
 refine ⟨⟨pa,ca,some ⟨g,0,none⟩,cap,?_,?_,?_,?_⟩,?_⟩
 ·exact HB.set 1 (.slice (some ⟨g,0,none⟩) (st.length+1) cap)
 ·exact row_other hT1 HB (by decide) 1 _
 ·rw [List.reverse_cons,bcs_snoc]
  exact row_other hown HB (by decide) 1 _
 ·intro b hb
  obtain ⟨a1,a2,a3,a4⟩:=hA b hb
  refine ⟨?_,a2,a3,?_⟩
  ·have:=hg.size;have:=hB.size;simp;omega
  ·intro e
   have e2:b=g:=by simpa [Value.ownBlock] using e
   subst e2
   rcases hat with h1 | h1
   ·exact a4 h1.symm
   ·omega
 ·refine KP.trans (KP.trans (KP.of_below hB fun b hb=>(hA b hb).1) (KP.of_grown hg fun b hb=>⟨Nat.lt_of_lt_of_le (hA b hb).1 hB.size,(hA b hb).2.2.2⟩)) (KP.setCell _ _ _ _ fun hb=>(hA B hb).2.1 rfl)
def top:List Blk→Blk
 | []=>⟨[],0⟩
 | b :: _=>b
theorem top_cells {P:Nat→Prop} {B:Nat} {o:List Tok} {b:Blk} {st:List Blk} {f:Bool} {pa:Option Addr} {ca:Nat} {po:Option Addr} {co:Nat} {W:World} (h:LS P B o (b :: st) f pa ca po co W) :
 ∃ g,po=some ⟨g,0,none⟩∧W.cell? ⟨g,st.length * 2,none⟩=some (.string (S b.sg))∧W.cell? ⟨g,st.length * 2+1,none⟩=some (.int .i64 b.cl):=by
 obtain ⟨g,cap,he,_,_⟩:=h.opn.form (by simp)
 cases he
 refine ⟨g,rfl,?_,?_⟩
 ·refine row_cell h.opn ?_
  have:=bcs_at (b :: st).reverse st.length b 0 (by simp) (by omega)
  rw [Nat.add_zero] at this;rw [this];rfl
 ·refine row_cell h.opn ?_
  have:=bcs_at (b :: st).reverse st.length b 1 (by simp) (by omega)
  rw [this];rfl
theorem last_any (P:Nat→Prop) (B:Nat) (o:List Tok) (st:List Blk) (f:Bool) (w:World) (hL:L P B o st f w) (hn:st.length≤1000000) :
 Calls Tryz.prog 104 #[.pointer (some ⟨B,0,none⟩)] w fun e w'=>e=.returned (bv (top st))∧Below w.heap.size w w':=by
 obtain ⟨pa,ca,po,co,hS⟩:=hL
 have c1:w.cell? ⟨B,1,none⟩=some (.slice po st.length co):=hS.hold.cell 1
 have e1:(w.alloc (.cells #[.string ⟨#[]⟩,.int .i64 0] 146)).cell? ⟨B,1,none⟩=some (.slice po st.length co):=(hS.hold.alloc _).cell 1
 cases st with
 | nil=>
  simp only [List.length_nil] at c1 e1
  go_enter Tryz.func104,Tryz.ntmps104
  go_wp2_with fail
  exact bodyPost_ret (v:=bv ⟨[],0⟩) (by simp only [results,Tryz.results104];go_simp;rfl) rfl ⟨rfl,(Below.refl _ _).alloc (Nat.le_refl _) _⟩
 | cons b st=>
  obtain ⟨g,rfl,d0,d1⟩:=top_cells hS
  have hg:=World.block_lt_of_cell? w _ d0
  have e2:(w.alloc (.cells #[.string ⟨#[]⟩,.int .i64 0] 146)).cell? ⟨g,st.length * 2,none⟩=some (.string (S b.sg)):=(World.cell?_of_block (Below.heap_alloc w _ g hg)).trans d0
  have e3:(w.alloc (.cells #[.string ⟨#[]⟩,.int .i64 0] 146)).cell? ⟨g,st.length * 2+1,none⟩=some (.int .i64 b.cl):=(World.cell?_of_block (Below.heap_alloc w _ g hg)).trans d1
  simp only [List.length_cons] at c1 e1 hn
  clear hS
  generalize st.length=n at *
  go_enter Tryz.func104,Tryz.ntmps104
  go_wp2_with fail
  go_region
  all_goals go_wp2_with fail
  all_goals exact bodyPost_ret (v:=bv b) (by simp only [results,Tryz.results104];go_simp;try rfl) rfl ⟨rfl,((Below.refl _ _).alloc (Nat.le_refl _) _).trans ⟨rfl,rfl,rfl,Nat.le_refl _,fun _ _=>rfl⟩⟩
theorem pop_any (P:Nat→Prop) (B:Nat) (o:List Tok) (b:Blk) (st:List Blk) (f:Bool) (w:World) (hL:L P B o (b :: st) f w) (hn:st.length≤1000000) :
 Calls Tryz.prog 105 #[.pointer (some ⟨B,0,none⟩)] w fun e w'=>e=.returned (.tuple #[])∧L P B o st f w'∧KP P w w':=by
 obtain ⟨pa,ca,po,co,hS⟩:=hL
 have c1:w.cell? ⟨B,1,none⟩=some (.slice po (st.length+1) co):=hS.hold.cell 1
 have f1:=hS.hold.frozen 1
 obtain ⟨g,rfl,d0,d1⟩:=top_cells hS
 have hcap:st.length+1≤co:=by
  rcases hS.opn.2 with ⟨hv,_⟩ | ⟨g',cap,cur,hv,_,_,h1,_⟩
  ·cases hv
  ·cases hv;exact h1
 have HS:=zz hS
 clear hS d0 d1
 generalize hk:st.length=n at *
 go_enter Tryz.func105,Tryz.ntmps105
 go_wp2_with fail
 go_region
 all_goals go_wp2_with fail
 all_goals
  go_end0
  have k:=HS.out.pop
  rw [hk] at k
  exact ⟨rfl,k.1.drew,k.2.drew⟩
theorem begin_any (P:Nat→Prop) (B:Nat) (t:Tok) (c:Int) (o:List Tok) (st:List Blk) (f:Bool) (w:World) (hL:L P B o st f w) (hn:o.length≤1000000) (hn2:st.length≤1000000) :
 Calls Tryz.prog 46 #[.pointer (some ⟨B,0,none⟩),tv t,.int .i64 c] w fun e w'=>e=.returned (.tuple #[])∧L P B (o ++ [⟨4,[123],0,t.ln,t.co⟩]) (⟨[],c⟩ :: st) true w'∧KP P w w':=by
 have hLA:∀ b,P b→b<w.heap.size:=fun b hb=>by obtain ⟨_,_,_,_,h⟩:=hL;exact (h.apart b hb).1
 have A:=zz (fun w hL=>put_any P B [123] t o st f w hL hn)
 unfold tv at A ⊢
 obtain ⟨i0,hi,hz0,hz1,hz2⟩:=info_parts info78
 go_enter Tryz.func46,Tryz.ntmps46
 go_wp2_with fail
 refine (A.out _ (hL.below ((Below.refl _ w).alloc (Nat.le_refl _) _))).mono ?_
 rintro e w1 ⟨rfl,L1,k1⟩
 have K0:KP P w w1:=(KP.alloc w _ fun b hb=>(hLA b hb)).trans k1
 clear k1
 generalize hoe:o ++ [(⟨4,[123],0,t.ln,t.co⟩:Tok)]=o1 at *
 obtain ⟨pa,ca,po,co,hS⟩:=L1
 have hH1:=hS.hold
 have hO1:=hS.opn
 have b0:w1.cell? ⟨B,1,none⟩=some (.slice po st.length co):=hH1.cell 1
 have f0:=hH1.frozen 1
 have hlt:=hH1.lt
 have nB:(Value.slice po st.length co).ownBlock≠some B:=Ne.symm (row_ne hH1 hO1 (by decide))
 have HS:=zz hS
 clear hS hL
 have HX:=fun ops rest o' a Q hgd s x ho hs hx=>@wpList_append_lies Tryz.prog (w1.alloc (.cells #[.string ⟨#[]⟩,.int .i64 c] 146)) ops rest o' a Q hgd s x 87 ho 0 146 i0 _ 2 24 Tryz.underlying87 hi hz0 hz1 hz2 rfl (by omega) (.slice po st.length co) st.length (bcs st.reverse) hs (hO1.alloc _) ⟨w1.heap.size,0,none⟩ 1 1 [.string ⟨#[]⟩,.int .i64 c] hx rfl (cell_two_new w1 (.string ⟨#[]⟩) (.int .i64 c) 146) (by simp [Value.oneCell']) (by omega) (by unfold maxLen;omega) (by omega) (by simp) (w1.heap.size+1) (by simp)
 have HX:=zz HX
 have HBF:Hid (∀ w2:World,(w1.alloc (.cells #[.string ⟨#[]⟩,.int .i64 c] 146)).grownBy w2 (Value.slice po st.length co).ownBlock→Hold B #[.slice pa o1.length ca,.slice po st.length co,.bool f] 89 w2):=fun w2 hgrow=>(hgrow.block B (Hold.lt (hH1.alloc _)) (Ne.symm nB)).trans (hH1.alloc _)
 go_wp2_with (at_builtin;have HY:=HX.out;refine HY _ _ _ _ _ rfl _ _ rfl rfl rfl ?_;clear HY;intro gg cap w2 hown1 hgrow hat hlt2;have HB2:=HBF.out _ hgrow;have d0:w2.cell? ⟨B,1,none⟩=some (.slice po st.length co):=HB2.cell 1;have d1:=HB2.frozen 1;have d2:w2.cell? ⟨B,2,none⟩=some (.bool f):=HB2.cell 2;have d3:=HB2.frozen 2;clear HB2)
 go_end0
 have k:=HS.out.push ((Below.refl _ w1).alloc (Nat.le_refl _) _) ⟨[],c⟩ hown1 hgrow hat (by omega)
 obtain ⟨pa2,ca2,po2,co2,h2⟩:=k.1
 exact ⟨rfl,by rw [hoe];exact (h2.fresh true).1,(K0.trans k.2).trans (h2.fresh true).2⟩
end Go.Proofs.YtcnnlecjdkfdjaaGreatDoor.Ly
