/- PrefixesWalk: the texts of these names, of which the claim is made. -/
import Derived.Test.YtcnnlecjdkfdjaaGreatDoorAppT
import Derived.Test.YtcnnlecjdkfdjaaGreatDoorRegInv
set_option linter.unusedVariables false
set_option linter.unusedSimpArgs false
set_option maxRecDepth 100000
set_option maxHeartbeats 8000000
namespace Go.Proofs.YtcnnlecjdkfdjaaGreatDoor
open Go.RowKit
theorem KM.take {P:Nat→Prop} {w:World} {p:Option Addr} {l:List Tk} (h:KM P w p l) (k:Nat):KM P w p (l.take k):=by
 rcases h with rfl | ⟨b,o,h1,h2,h3⟩
 ·left;simp
 ·refine .inr ⟨b,o,h1,h2,fun i t ht=>h3 i t ?_⟩
  rw [List.getElem?_take] at ht
  split at ht
  ·exact ht
  ·cases ht
theorem act_var {P:Program} {c:Code} {Q:Exit→Act→World→Prop} {a:Act} {w:World} (h:∀ a0:Act,a0=a→c.wp P Q a0 w):c.wp P Q a w:=h _ rfl
def OutV (X:(Int × Int) × Int) (v:Value):Prop:=∃ pa na ca pb nb cb,v=.tuple #[.agg #[.slice pa na ca,.slice pb nb cb],.agg #[.int .i64 X.1.1,.int .i64 X.1.2],.int .i64 X.2]
def G6 (W:World) (p:Option Addr) (m c:Nat) (l:List Tk) (more:Tk) (X:(Int × Int) × Int) (o0 o2 o5 o14:Option Value) (w:World):Nat→Value→Prop
 | 0,v=>o2=none→TR W.heap.size w v []
 | 1,v=>v=.slice p m c
 | 2,v=>o0≠none∧(o5=none→TR W.heap.size w v l)
 | 3,v=>v=.agg (tkC more).toArray
 | 4,v=>o5=none→∃ g,v=.slice (some ⟨g,0,none⟩) 1 1∧W.heap.size≤g∧Hold g (tkC more).toArray 51 w∧(o2=none→∀ u,o0=some u→u.ownBlock≠some g)∧∀ u,o2=some u→u.ownBlock≠some g
 | 5,v=>o2≠none∧TR W.heap.size w v (l ++ [more])
 | 6,v=>OutV X v
 | 7,v=>OutV X v
 | 8,v=>∃ pa na ca pb nb cb,v=.agg #[.slice pa na ca,.slice pb nb cb]
 | 9,v=>v=.agg #[.int .i64 X.1.1,.int .i64 X.1.2]
 | 10,v=>v=.int .i64 X.2
 | 11,v=>∃ g C,v=.pointer (some ⟨g,0,none⟩)∧W.heap.size≤g∧Hold g C 38 w∧C.size=2
 | 12,v=>∃ g C,v=.pointer (some ⟨g,0,none⟩)∧W.heap.size≤g∧Hold g C 29 w∧C.size=2∧(o14≠none→C=#[.int .i64 X.1.1,.int .i64 X.1.2])
 | 15,v=>v=.int .i64 X.2
 | _,_=>True
theorem G6.grow {W:World} {p:Option Addr} {m c:Nat} {l:List Tk} {more:Tk} {X:(Int × Int) × Int} {o0 o2 o5 o14:Option Value} {w w':World} (hb:Below w.heap.size w w') (i:Nat) (v:Value) (h:G6 W p m c l more X o0 o2 o5 o14 w i v):G6 W p m c l more X o0 o2 o5 o14 w' i v:=by
 unfold G6 at h ⊢
 split
 all_goals try simp only at h
 ·exact fun e=>(h e).below hb
 ·exact h
 ·exact ⟨h.1,fun e=>(h.2 e).below hb⟩
 ·exact h
 ·intro e
  obtain ⟨g,h1,h2,h3,h4⟩:=h e
  exact ⟨g,h1,h2,h3.below hb h3.lt,h4⟩
 ·exact ⟨h.1,h.2.below hb⟩
 ·exact h
 ·exact h
 ·exact h
 ·exact h
 ·exact h
 ·obtain ⟨g,C,h1,h2,h3,h4⟩:=h
  exact ⟨g,C,h1,h2,h3.below hb h3.lt,h4⟩
 ·obtain ⟨g,C,h1,h2,h3,h4⟩:=h
  exact ⟨g,C,h1,h2,h3.below hb h3.lt,h4⟩
 ·exact h
 ·trivial
theorem G6.move {W:World} {p:Option Addr} {m c:Nat} {l:List Tk} {more:Tk} {X:(Int × Int) × Int} {o0 o2 o5 o14 q0 q2 q5 q14:Option Value} {w w':World} (i:Nat) (v:Value) (h:G6 W p m c l more X o0 o2 o5 o14 w i v) (k0:i=0→q2=none→TR W.heap.size w' v []) (k2:i=2→q0≠none∧(q5=none→TR W.heap.size w' v l))
 (k4:i=4→q5=none→∃ g,v=.slice (some ⟨g,0,none⟩) 1 1∧W.heap.size≤g∧Hold g (tkC more).toArray 51 w'∧(q2=none→∀ u,q0=some u→u.ownBlock≠some g)∧∀ u,q2=some u→u.ownBlock≠some g) (k5:i=5→q2≠none∧TR W.heap.size w' v (l ++ [more]))
 (k11:i=11→∃ g C,v=.pointer (some ⟨g,0,none⟩)∧W.heap.size≤g∧Hold g C 38 w'∧C.size=2) (k12:i=12→∃ g C,v=.pointer (some ⟨g,0,none⟩)∧W.heap.size≤g∧Hold g C 29 w'∧C.size=2∧(q14≠none→C=#[.int .i64 X.1.1,.int .i64 X.1.2])):G6 W p m c l more X q0 q2 q5 q14 w' i v:=by
 unfold G6 at h ⊢
 split
 all_goals try simp only at h
 ·exact k0 rfl
 ·exact h
 ·exact k2 rfl
 ·exact h
 ·exact k4 rfl
 ·exact k5 rfl
 ·exact h
 ·exact h
 ·exact h
 ·exact h
 ·exact h
 ·exact k11 rfl
 ·exact k12 rfl
 ·exact h
 ·trivial
theorem TR.lt {base:Nat} {w:World} {v:Value} {l:List Tk} (h:TR base w v l):v.ownBlock≠some w.heap.size:=by
 rcases h.1.2 with ⟨rfl,_⟩ | ⟨g',cap,cur,rfl,_,h3,_⟩
 ·intro e;cases e
 ·intro e
  have h4:g'=w.heap.size:=Option.some.inj e
  have:=(Array.getElem?_eq_some_iff.1 h3).1
  omega
theorem one_new' (w:World) (A:Array Value) (t:TypeId):Below w.heap.size w (w.alloc (.cells A t))∧Hold w.heap.size A t (w.alloc (.cells A t))∧(w.alloc (.cells A t)).heap.size=w.heap.size+1:=⟨(Below.refl _ w).alloc (Nat.le_refl _) _,Hold.new w A t,by simp⟩
theorem ev_at {a:Act} {t:Tmp} {v:Value} (h:a.eval (.tmp t)=v):a.tmps[t]?.getD undef=v:=by
 unfold Act.eval at h
 simpa using h
theorem KM.one {P:Nat→Prop} {w:World} {g:Nat} {t:Tk} (hP:P g) (h:Hold g (tkC t).toArray 51 w) (ht:TkB t):KM P w (some ⟨g,0,none⟩) [t]:=by
 refine .inr ⟨g,0,rfl,hP,fun i t' hi=>?_⟩
 cases i with
 | zero=>
  cases hi
  refine ⟨tkC t,rfl,fun j d hj=>?_,rfl,ht⟩
  rw [show 0+0 * 5+j=j by omega,h.cell j]
  simpa using hj
 | succ i=>cases hi
structure F6 (W:World) (p:Option Addr) (m c:Nat) (l:List Tk) (more:Tk) (X:(Int × Int) × Int) (val:Nat→Option Value) (w:World):Prop where
 bel:Below W.heap.size W w
 all:∀ i v,val i=some v→G6 W p m c l more X (val 0) (val 2) (val 5) (val 14) w i v
 ord:val 14≠none→val 12≠none
theorem setV_some {val:Nat→Option Value} {i j:Nat} {v:Value} (h:val j≠none):setV val i v j≠none:=by
 unfold setV
 split
 ·simp
 ·exact h
theorem F6.go {W:World} {p:Option Addr} {m c:Nat} {l:List Tk} {more:Tk} {X:(Int × Int) × Int} {val:Nat→Option Value} {w w':World} (h:F6 W p m c l more X val w) (hb:Below w.heap.size w w') (i:Nat) (v:Value) (h0:i≠0) (h2:i≠2) (h5:i≠5) (h14:i≠14) (hv:G6 W p m c l more X (val 0) (val 2) (val 5) (val 14) w' i v):F6 W p m c l more X (setV val i v) w':=by
 refine ⟨h.bel.trans (hb.mono h.bel.size),fun j u hj=>?_,fun e=>setV_some (h.ord (by rwa [setV_ne _ _ (Ne.symm h14)] at e))⟩
 rw [setV_ne _ _ (Ne.symm h0),setV_ne _ _ (Ne.symm h2),setV_ne _ _ (Ne.symm h5),setV_ne _ _ (Ne.symm h14)]
 by_cases e:j=i
 ·subst e
  rw [setV_at] at hj
  cases hj
  exact hv
 ·rw [setV_ne _ _ e] at hj
  exact (h.all j u hj).grow hb
theorem prefixes_walk {p:Option Addr} {m c cut:Nat} {l:List Tk} {more:Tk} (w:World) (hl:l.length=m) (h0:0<m) (hm:m≤300) (hmc:m≤c) (hK:KM (fun b=>b<w.heap.size) w p l) (hp:p=none→c=0) (hcut:cut≤65535) (hmore:TkB more) (hg:Ly.Glob w) (hG:GP (fun b=>b<w.heap.size) w):Calls Tryz.prog 8 #[.slice p m c,.int .u16 cut,.agg (tkC more).toArray] w fun e w'=>e=.returned (.bool true)∧Below w.heap.size w w':=by
 have hm2:¬ (300:Int)<m:=by omega
 have hm3:((m:Int) == 0)=false:=by rw [beq_eq_false_iff_ne];omega
 have HL:=hide hg
 have HG:=hide hG
 have HK:=hide hK
 have HM:=hide hmore
 clear hG hg hK hmore
 have HB0:=hide ((Below.refl w.heap.size w).alloc (Nat.le_refl _) (.cells (tkC more).toArray 51))
 have HH0:=hide (Hold.new w (tkC more).toArray 51)
 have HS0:(w.alloc (.cells (tkC more).toArray 51)).heap.size=w.heap.size+1:=by simp
 go_enter Tryz.func8,Tryz.ntmps8
 go_wp2_with fail
 generalize hW0:w.alloc (.cells (tkC more).toArray 51)=w0 at *
 have HZ0:=hide HS0
 clear hW0 HS0
 refine (awake_any w0 (HL.out.below (Nat.le_refl _) HB0.out) (gp_below HG.out HB0.out)).mono ?_
 rintro r w1 ⟨rfl,hb1⟩
 have HB1:=hide (HB0.out.trans (hb1.mono HB0.out.size))
 have HH1:=hide (HH0.out.below hb1 HH0.out.lt)
 clear hb1 HB0 HH0 HZ0
 go_wp2_with fail
 refine (pprog_any (fun b hb=>hb) hl (HK.out.keep (KP.of_below HB1.out (fun b hb=>hb)) (fun b hb=>Nat.lt_of_lt_of_le hb HB1.out.size) (fun _ _ h=>h)) (by omega)).mono ?_
 rintro r w2 ⟨pd,cd,pf,cf,rfl,-,hb2⟩
 have HB2:=hide (HB1.out.trans (hb2.mono HB1.out.size))
 have HH2:=hide (HH1.out.below hb2 HH1.out.lt)
 clear hb2 HB1 HH1
 have HE:=hide (fun h=>cut_out (l:=l) (c:=cut % m) (by rw [hl];exact Nat.mod_lt _ h0) h)
 have HF:=hide (fun h=>ext_out (l:=l) (m:=more) h)
 generalize hX:progOut l=X at *
 have HX:=hide hX
 clear hX
 obtain ⟨XP,⟨x0,x1⟩,xe⟩:=X
 simp only at HE HF ⊢
 go_upto_region 5 with fail
 obtain ⟨nB,-,-,nS⟩:=two_new w2 #[.slice pd XP.ds.length cd,.slice pf XP.fs.length cf] #[.int .i64 x0,.int .i64 x1] 38 29
 generalize hW2:(w2.alloc (.cells #[.slice pd XP.ds.length cd,.slice pf XP.fs.length cf] 38)).alloc (.cells #[.int .i64 x0,.int .i64 x1] 29)=W2 at *
 have HB3:=hide (HB2.out.trans (nB.mono HB2.out.size))
 have HH3:=hide (HH2.out.below nB HH2.out.lt)
 clear hW2 nB nS HB2 HH2
 have hkm:cut % m<m:=Nat.mod_lt _ h0
 have hrem:(cut:Int).tmod m=((cut % m:Nat):Int):=by rw [Int.ofNat_tmod]
 have hnz:¬ ((m:Int)=0):=by omega
 generalize hk:cut % m=k at *
 go_wp2_with fail
 refine (pprog_any (fun b hb=>hb) (by rw [List.length_take,hl];exact Nat.min_eq_left (Nat.le_of_lt hkm)) ((HK.out.take k).keep (KP.of_below HB3.out (fun b hb=>hb)) (fun b hb=>Nat.lt_of_lt_of_le hb HB3.out.size) (fun _ _ h=>h)) (by omega)).mono ?_
 rintro r w3 ⟨pe,ce,pg,cg,rfl,-,hb3⟩
 have HB4:=hide (HB3.out.trans (hb3.mono HB3.out.size))
 have HH4:=hide (HH3.out.below hb3 HH3.out.lt)
 clear hb3 HB3 HH3
 generalize hY:progOut (l.take k)=Y at *
 have HY:=hide hY
 clear hY
 obtain ⟨YP,⟨y0,y1⟩,ye⟩:=Y
 simp only at HE HF ⊢
 go_upto_region 6 with fail
 obtain ⟨nB,-,n1,nS⟩:=two_new w3 #[.slice pe YP.ds.length ce,.slice pg YP.fs.length cg] #[.int .i64 y0,.int .i64 y1] 38 29
 generalize hW3:(w3.alloc (.cells #[.slice pe YP.ds.length ce,.slice pg YP.fs.length cg] 38)).alloc (.cells #[.int .i64 y0,.int .i64 y1] 29)=W3 at *
 have HB5:=hide (HB4.out.trans (nB.mono HB4.out.size))
 have HH5:=hide (HH4.out.below nB HH4.out.lt)
 have HP5:=hide n1
 clear hW3 nB n1 nS HB4 HH4
 refine act_var fun a0 ha0=>?_
 have e0:a0.eval (.tmp 0)=.slice p m c:=by rw [ha0];rfl
 have e5:a0.eval (.tmp 5)=.pointer (some ⟨w.heap.size,0,none⟩):=by rw [ha0];rfl
 have es:a0.tmps.size=112:=by rw [ha0];rfl
 have HA0:=hide ha0
 clear ha0
 obtain ⟨X2,hX2⟩:∃ X2,X2=(progOut (l ++ [more])).2:=⟨_,rfl⟩
 rw [← hX2] at HF
 have HX2:=hide hX2
 clear hX2
 refine region_df 16 (F6 W3 p m c l more X2) (by kernel_rfl) (by kernel_rfl) (by kernel_rfl) (by rw [es];kernel_rfl) ?_ ?_ ?_ ?_
 ·exact ⟨⟨rfl,rfl,rfl,Nat.le_refl _,fun _ _=>rfl⟩,fun i v h=>(by cases h),fun h=>absurd rfl h⟩
 ·intro vs w' hvs hF
  match vs,hvs with
  | [v0,v1,v2,v3,v4,v5,v6,v7,v8,v9,v10,v11,v12,v13,v14,v15],_=>
  obtain ⟨g,C,rfl,hg1,hg2,hg3,hg4⟩:=hF.all 12 v12 rfl
  obtain rfl:=hg4 (by simp)
  obtain rfl:=hF.all 15 v15 rfl
  obtain ⟨_,_,rfl,_⟩:=hF.all 11 v11 rfl
  have HB6:=hide (HB5.out.trans (hF.bel.mono HB5.out.size))
  have HH6:=hide (HH5.out.below hF.bel HH5.out.lt)
  have HP6:=hide (HP5.out.below hF.bel HP5.out.lt)
  have HQ6:=hide hg2
  clear hF hg1 hg2 hg4 HB5 HH5 HP5 e0 e5 es
  have hA0:=HA0.out
  subst hA0
  clear HA0
  simp only [List.map_cons,List.map_nil,List.zip_cons_cons,List.zip_nil_left,putsA,Act.put,lSI,lSZ,lSS]
  generalize hX2':X2=XX at *
  obtain ⟨⟨z0,z1⟩,ze⟩:=XX
  simp only at HQ6 ⊢
  go_upto_region 8 with fail
  obtain ⟨nB,n0,nS⟩:=one_new' w' #[.int .i64 0,.int .i64 0] 29
  have hnn:g≠w'.heap.size∧w3.heap.size+1≠w'.heap.size∧w.heap.size≠w'.heap.size∧w.heap.size≤w'.heap.size:=by
   have h0:=HB6.out.size
   have h1:=HQ6.out.lt
   have h2:=HP6.out.lt
   have h3:=HH6.out.lt
   omega
  generalize hbn:w'.heap.size=bn at *
  generalize hW4:w'.alloc (.cells #[.int .i64 0,.int .i64 0] 29)=W4 at *
  have HB7:=hide (HB6.out.trans (nB.mono (by rw [← hbn];exact HB6.out.size)))
  have HH7:=hide (HH6.out.below nB (by rw [← hbn];exact HH6.out.lt))
  have HP7:=hide (HP6.out.below nB (by rw [← hbn];exact HP6.out.lt))
  have HQ7:=hide (HQ6.out.below nB (by rw [← hbn];exact HQ6.out.lt))
  have HN7:=hide n0
  have HNN:=hide hnn
  clear hW4 nB n0 nS HB6 HH6 HP6 HQ6 hbn hnn hX2'
  cases hk0:k with
  | zero=>
   subst hk0
   have HLP:Hid (lastP l 0=(0,0)):=rfl
   have hnk:¬ ((0:Int)<0):=by omega
   by_cases hx:xe=0
   ·subst hx
    have hE:=HE.out rfl
    have hF:=HF.out rfl
    rw [HLP.out] at hE
    cases hE
    cases hF
    clear HE HF HLP
    have a0:=HP7.out.cell 0
    have a1:=HP7.out.cell 1
    have b0:=HQ7.out.cell 0
    have b1:=HQ7.out.cell 1
    have c0:=HN7.out.cell 0
    have c1:=HN7.out.cell 1
    have d3:=HH7.out.cell 3
    have d4:=HH7.out.cell 4
    unfold tkC at d3 d4
    simp only [lGA,lGS,lGZ] at a0 a1 b0 b1 c0 c1 d3 d4
    go_wp2_with fail
    go_ret
    exact ⟨rfl,HB7.out⟩
   ·have hxn:(xe != 0)=true:=by simpa using hx
    clear HE HF
    go_wp2_with fail
    go_ret
    exact ⟨rfl,HB7.out⟩
  | succ j=>
   subst hk0
   have hrem2:(cut:Int).tmod m=(j:Int)+1:=by rw [hrem];push_cast;rfl
   clear hrem
   have hjl:j<l.length:=by omega
   have HLP:Hid (lastP l (j+1)=(l[j].ln,l[j].co)):=by
    show lastP l (j+1)=_
    unfold lastP
    rw [if_neg (by omega),Nat.add_sub_cancel]
    unfold tkAt
    simp [List.getD,hjl]
   obtain ⟨pb,po,rfl⟩:∃ b o,p=some ⟨b,o,none⟩:=by
    rcases HK.out with h | ⟨b,o,h,_⟩
    ·rw [h] at hl;simp at hl;omega
    ·exact ⟨b,o,h⟩
   have hKM:KM (fun b=>b<W4.heap.size) W4 (some ⟨pb,po,none⟩) l:=HK.out.keep (KP.of_below HB7.out (fun b hb=>hb)) (fun b hb=>Nat.lt_of_lt_of_le hb HB7.out.size) (fun _ _ h=>h)
   have hC:=hKM.cells
   have q3:W4.cell? ⟨pb,po+j * 5+3,none⟩=some (.int .i64 l[j].ln):=by
    have:=hC (j * 5+3) _ (tcs_at (List.getElem?_eq_getElem hjl) (j:=3) rfl)
    rw [Go.WideShapes.add_plain] at this
    rw [show po+j * 5+3=po+(j * 5+3) by omega];exact this
   have q4:W4.cell? ⟨pb,po+j * 5+4,none⟩=some (.int .i64 l[j].co):=by
    have:=hC (j * 5+4) _ (tcs_at (List.getElem?_eq_getElem hjl) (j:=4) rfl)
    rw [Go.WideShapes.add_plain] at this
    rw [show po+j * 5+4=po+(j * 5+4) by omega];exact this
   clear hKM hC
   have hj0:(0:Int)<(j:Int)+1:=by omega
   have hjm:(j:Int)<m:=by omega
   have b0:=HN7.out.cell 0
   have b1:=HN7.out.cell 1
   have f0:=HN7.out.frozen 0
   have f1:=HN7.out.frozen 1
   simp only [lGA,lGS,lGZ] at b0 b1
   go_wp2_with fail
   go_region
   generalize l[j]=tj at *
   have hbe:∀ b,b<w.heap.size→b≠bn:=fun b hb=>by have:=HNN.out.2.2.2;omega
   have hbb:∀ b,b<w.heap.size→((W4.setCell ⟨bn,0,none⟩ (.int .i64 tj.ln)).setCell ⟨bn,1,none⟩ (.int .i64 tj.co)).heap[b]?=W4.heap[b]?:=fun b hb=>(Below.heap_setCell _ _ _ b (hbe b hb)).trans (Below.heap_setCell _ _ _ b (hbe b hb))
   have HN8:Hid (Hold bn #[.int .i64 tj.ln,.int .i64 tj.co] 29 (((W4.setCell ⟨bn,0,none⟩ (.int .i64 tj.ln)).setCell ⟨bn,1,none⟩ (.int .i64 tj.co)).drew)):=(HN7.out.set 0 _).set 1 _
   have HP8:Hid (Hold (w3.heap.size+1) #[.int .i64 y0,.int .i64 y1] 29 (((W4.setCell ⟨bn,0,none⟩ (.int .i64 tj.ln)).setCell ⟨bn,1,none⟩ (.int .i64 tj.co)).drew)):=(HP7.out.other HNN.out.2.1 _ _).other HNN.out.2.1 _ _
   have HQ8:Hid (Hold g #[.int .i64 z0,.int .i64 z1] 29 (((W4.setCell ⟨bn,0,none⟩ (.int .i64 tj.ln)).setCell ⟨bn,1,none⟩ (.int .i64 tj.co)).drew)):=(HQ7.out.other HNN.out.1 _ _).other HNN.out.1 _ _
   have HH8:Hid (Hold w.heap.size (tkC more).toArray 51 (((W4.setCell ⟨bn,0,none⟩ (.int .i64 tj.ln)).setCell ⟨bn,1,none⟩ (.int .i64 tj.co)).drew)):=(HH7.out.other HNN.out.2.2.1 _ _).other HNN.out.2.2.1 _ _
   have HB8:Hid (Below w.heap.size w (((W4.setCell ⟨bn,0,none⟩ (.int .i64 tj.ln)).setCell ⟨bn,1,none⟩ (.int .i64 tj.co)).drew)):=⟨HB7.out.os,HB7.out.tape,HB7.out.output,by simpa using HB7.out.size,fun b hb=>(hbb b hb).trans (HB7.out.block b hb)⟩
   clear hbb HN7 HP7 HQ7 HH7 HB7 q3 q4 b0 b1 f0 f1 HK
   generalize ((W4.setCell ⟨bn,0,none⟩ (.int .i64 tj.ln)).setCell ⟨bn,1,none⟩ (.int .i64 tj.co)).drew=W5 at *
   by_cases hx:xe=0
   ·subst hx
    have hE:=HE.out rfl
    have hF:=HF.out rfl
    rw [HLP.out] at hE
    cases hE
    cases hF
    clear HE HF HLP
    have a0:=HP8.out.cell 0
    have a1:=HP8.out.cell 1
    have b0:=HQ8.out.cell 0
    have b1:=HQ8.out.cell 1
    have c0:=HN8.out.cell 0
    have c1:=HN8.out.cell 1
    have d3:=HH8.out.cell 3
    have d4:=HH8.out.cell 4
    unfold tkC at d3 d4
    simp only [lGA,lGS,lGZ] at a0 a1 b0 b1 c0 c1 d3 d4
    go_wp2_with fail
    go_ret
    exact ⟨rfl,HB8.out⟩
   ·have hxn:(xe != 0)=true:=by simpa using hx
    clear HE HF
    go_wp2_with fail
    go_ret
    exact ⟨rfl,HB8.out⟩
 ·intro i hi val w' a hF hno hdep hD
  match i,hi with
  | 0,_=>
   refine op_J rfl rfl fun K hK=>?_
   go_simp
   refine hK _ _ ⟨_,rfl,?_⟩
   clear hK hdep hD
   have hB:Below w'.heap.size w' (w'.alloc (.cells #[] 51)):=(Below.refl _ _).alloc (Nat.le_refl _) _
   refine ⟨hF.bel.trans (hB.mono hF.bel.size),fun j u hj=>?_,fun e=>setV_some (hF.ord e)⟩
   by_cases e:j=0
   ·subst e
    rw [setV_at] at hj
    cases hj
    exact fun _=>TR.lit (l:=[]) (fun t ht=>by cases ht) (Nat.zero_le _) _ hF.bel.size
   ·rw [setV_ne _ _ e] at hj
    have hg:=(hF.all j u hj).grow hB
    refine hg.move j u (fun h=>absurd h e) (fun h=>?_) (fun h h5=>?_) (fun h=>?_) (fun h=>?_) (fun h=>?_)
    ·subst h
     exact ⟨by rw [setV_at];simp,fun h5=>hg.2 h5⟩
    ·subst h
     obtain ⟨g,h1,h2,h3,h4,h6⟩:=hg h5
     obtain ⟨g',h1',h2',h3',_⟩:=hF.all 4 u hj h5
     refine ⟨g,h1,h2,h3,fun _ x hx=>?_,h6⟩
     rw [setV_at] at hx
     cases hx
     rw [h1] at h1'
     cases h1'
     have:=h3'.lt
     intro e
     have:w'.heap.size=g:=Option.some.inj e
     omega
    ·subst h;exact hg
    ·subst h;exact hg
    ·subst h;exact hg
  | 1,_=>
   have e1:=ev_at ((hD.was 0).trans e0)
   refine op_J rfl rfl fun K hK=>?_
   clear hdep hD
   go_simp
   exact hK _ _ ⟨_,rfl,hF.go (Below.refl _ _) 1 _ (by decide) (by decide) (by decide) (by decide) rfl⟩
  | 3,_=>
   have e1:=ev_at ((hD.was 5).trans e5)
   have hH:=HH5.out.below hF.bel HH5.out.lt
   have c0:=hH.cell 0
   have c1:=hH.cell 1
   have c2:=hH.cell 2
   have c3:=hH.cell 3
   have c4:=hH.cell 4
   unfold tkC at c0 c1 c2 c3 c4
   simp only [lGA,lGS,lGZ] at c0 c1 c2 c3 c4
   refine op_J rfl rfl fun K hK=>?_
   clear hdep hD
   go_simp
   refine hK _ _ ⟨_,rfl,hF.go (Below.refl _ _) 3 _ (by decide) (by decide) (by decide) (by decide) rfl⟩
  | 4,_=>
   obtain ⟨v3,h3⟩:=hdep 3 (by kernel_rfl)
   obtain rfl:=hF.all 3 v3 h3
   have e1:=ev_at (hD.at 3 h3 50)
   refine op_J rfl rfl fun K hK=>?_
   clear hdep hD
   unfold tkC at e1
   go_simp
   exact hK _ _ ⟨_,rfl,hF.go ((Below.refl _ _).alloc (Nat.le_refl _) _) 4 _ (by decide) (by decide) (by decide) (by decide) fun h5=>⟨w'.heap.size,rfl,hF.bel.size,Hold.new _ _ _,fun h2 u hu=>(hF.all 0 u hu h2).lt,fun u hu=>((hF.all 2 u hu).2 h5).lt⟩⟩
  | 7,_=>
   obtain ⟨v6,h6⟩:=hdep 6 (by kernel_rfl)
   have e1:=ev_at (hD.at 6 h6 53)
   have hv:=hF.all 6 v6 h6
   refine op_J rfl rfl fun K hK=>?_
   clear hdep hD
   go_simp
   exact hK _ _ ⟨_,rfl,hF.go (Below.refl _ _) 7 _ (by decide) (by decide) (by decide) (by decide) hv⟩
  | 8,_=>
   obtain ⟨v7,h7⟩:=hdep 7 (by kernel_rfl)
   obtain ⟨pa,na,ca,pb,nb,cb,rfl⟩:=hF.all 7 v7 h7
   have e1:=ev_at (hD.at 7 h7 46)
   refine op_J rfl rfl fun K hK=>?_
   clear hdep hD
   go_simp
   exact hK _ _ ⟨_,rfl,hF.go (Below.refl _ _) 8 _ (by decide) (by decide) (by decide) (by decide) ⟨pa,na,ca,pb,nb,cb,rfl⟩⟩
  | 9,_=>
   obtain ⟨v7,h7⟩:=hdep 7 (by kernel_rfl)
   obtain ⟨pa,na,ca,pb,nb,cb,rfl⟩:=hF.all 7 v7 h7
   have e1:=ev_at (hD.at 7 h7 46)
   refine op_J rfl rfl fun K hK=>?_
   clear hdep hD
   go_simp
   exact hK _ _ ⟨_,rfl,hF.go (Below.refl _ _) 9 _ (by decide) (by decide) (by decide) (by decide) rfl⟩
  | 10,_=>
   obtain ⟨v7,h7⟩:=hdep 7 (by kernel_rfl)
   obtain ⟨pa,na,ca,pb,nb,cb,rfl⟩:=hF.all 7 v7 h7
   have e1:=ev_at (hD.at 7 h7 46)
   refine op_J rfl rfl fun K hK=>?_
   clear hdep hD
   go_simp
   exact hK _ _ ⟨_,rfl,hF.go (Below.refl _ _) 10 _ (by decide) (by decide) (by decide) (by decide) rfl⟩
  | 11,_=>
   refine op_J rfl rfl fun K hK=>?_
   clear hdep hD
   go_simp
   exact hK _ _ ⟨_,rfl,hF.go ((Below.refl _ _).alloc (Nat.le_refl _) _) 11 _ (by decide) (by decide) (by decide) (by decide) ⟨_,_,rfl,hF.bel.size,Hold.new _ _ _,rfl⟩⟩
  | 12,_=>
   have h14:val 14=none:=Classical.byContradiction fun h=>hF.ord h hno
   refine op_J rfl rfl fun K hK=>?_
   clear hdep hD
   go_simp
   exact hK _ _ ⟨_,rfl,hF.go ((Below.refl _ _).alloc (Nat.le_refl _) _) 12 _ (by decide) (by decide) (by decide) (by decide) ⟨_,_,rfl,hF.bel.size,Hold.new _ _ _,rfl,fun h=>absurd h14 h⟩⟩
  | 15,_=>
   obtain ⟨v10,h10⟩:=hdep 10 (by kernel_rfl)
   obtain rfl:=hF.all 10 v10 h10
   have e1:=ev_at (hD.at 10 h10 56)
   refine op_J rfl rfl fun K hK=>?_
   clear hdep hD
   go_simp
   exact hK _ _ ⟨_,rfl,hF.go (Below.refl _ _) 15 _ (by decide) (by decide) (by decide) (by decide) rfl⟩
  | 2,_=>
   obtain ⟨v0,h0'⟩:=hdep 0 (by kernel_rfl)
   obtain ⟨v1,h1⟩:=hdep 1 (by kernel_rfl)
   obtain rfl:=hF.all 1 v1 h1
   have hT:TR W3.heap.size w' v0 []:=hF.all 0 v0 h0' hno
   have hB:=hF.bel
   have hgo:∀ (g:Nat) (C:Array Value) (t:TypeId),t≠51→Hold g C t w'→some g≠v0.ownBlock:=fun g C t ht h=>row_ne h hT.1 ht
   refine op_J rfl rfl fun K hK=>?_
   refine wp_appT (.tmp 47) (.tmp 48) rfl W3.heap.size v0 [] (hD.at 0 h0' 47) hT p m c l (hD.at 1 h1 48) hl (HK.out.keep (Q:=fun b=>b<w'.heap.size) (KP.of_below (HB5.out.trans (hB.mono HB5.out.size)) (fun b hb=>hb)) (fun b hb=>Nat.lt_of_lt_of_le hb (Nat.le_trans HB5.out.size hB.size)) (fun _ _ h=>h)) hp (by simp;omega) hB.size ?_
   intro v' w'' hT2 hg hob
   refine hK _ _ ⟨v',rfl,?_⟩
   clear hK hdep hD
   have hkeep:∀ {g:Nat} {C:Array Value} {t:TypeId},Hold g C t w'→some g≠v0.ownBlock→Hold g C t w'':=fun h hn=>(hg.block _ h.lt hn).trans h
   have hown:∀ g,v0.ownBlock=some g→W3.heap.size≤g:=fun g e=>by
    rcases hT.1.2 with ⟨rfl,_⟩ | ⟨g',cap,cur,rfl,h2,_⟩
    ·cases e
    ·cases e;exact h2
   refine ⟨⟨hg.os.trans hB.os,hg.tape.trans hB.tape,hg.output.trans hB.output,Nat.le_trans hB.size hg.size,fun b hb=>(hg.block b (Nat.lt_of_lt_of_le hb hB.size) (fun e=>by have:=hown b e.symm;omega)).trans (hB.block b hb)⟩,fun j u hj=>?_,fun e=>setV_some (hF.ord e)⟩
   by_cases e:j=2
   ·subst e
    rw [setV_at] at hj
    cases hj
    exact ⟨by rw [setV_ne _ _ (by decide),h0'];simp,fun _=>hT2⟩
   ·rw [setV_ne _ _ e] at hj
    have hh:=hF.all j u hj
    refine hh.move j u (fun h=>?_) (fun h=>absurd h e) (fun h h5=>?_) (fun h=>?_) (fun h=>?_) (fun h=>?_)
    ·intro h2
     rw [setV_at] at h2
     cases h2
    ·subst h
     rw [setV_ne _ _ (by decide)] at h5
     obtain ⟨g,h1,h2,h3,h4,h6⟩:=hh h5
     refine ⟨g,h1,h2,hkeep h3 (fun e=>h4 hno v0 h0' e.symm),fun h=>(by rw [setV_at] at h;cases h),fun x hx=>?_⟩
     rw [setV_at] at hx
     cases hx
     rcases hob with h | h
     ·rw [h];exact h4 hno v0 h0'
     ·rw [h]
      intro e
      have:=h3.lt
      have:=Option.some.inj e
      omega
    ·subst h
     exact absurd hno hh.1
    ·subst h
     obtain ⟨g,C,h1,h2,h3,h4⟩:=hh
     exact ⟨g,C,h1,h2,hkeep h3 (hgo _ _ _ (by decide) h3),h4⟩
    ·subst h
     obtain ⟨g,C,h1,h2,h3,h4⟩:=hh
     exact ⟨g,C,h1,h2,hkeep h3 (hgo _ _ _ (by decide) h3),h4⟩
  | 5,_=>
   obtain ⟨v2,h2'⟩:=hdep 2 (by kernel_rfl)
   obtain ⟨v4,h4'⟩:=hdep 4 (by kernel_rfl)
   have hT:TR W3.heap.size w' v2 l:=(hF.all 2 v2 h2').2 hno
   obtain ⟨g4,rfl,hg1,hg2,hg3,hg4⟩:=hF.all 4 v4 h4' hno
   have hB:=hF.bel
   have hgo:∀ (g:Nat) (C:Array Value) (t:TypeId),t≠51→Hold g C t w'→some g≠v2.ownBlock:=fun g C t ht h=>row_ne h hT.1 ht
   refine op_J rfl rfl fun K hK=>?_
   refine wp_appT (.tmp 49) (.tmp 51) rfl W3.heap.size v2 l (hD.at 2 h2' 49) hT (some ⟨g4,0,none⟩) 1 1 [more] (hD.at 4 h4' 51) rfl (KM.one (P:=fun b=>b<w'.heap.size) hg2.lt hg2 HM.out) (fun h=>by cases h) (by omega) hB.size ?_
   intro v' w'' hT2 hg hob
   refine hK _ _ ⟨v',rfl,?_⟩
   clear hK hdep hD
   have hkeep:∀ {g:Nat} {C:Array Value} {t:TypeId},Hold g C t w'→some g≠v2.ownBlock→Hold g C t w'':=fun h hn=>(hg.block _ h.lt hn).trans h
   have hown:∀ g,v2.ownBlock=some g→W3.heap.size≤g:=fun g e=>by
    rcases hT.1.2 with ⟨rfl,_⟩ | ⟨g',cap,cur,rfl,h2,_⟩
    ·cases e
    ·cases e;exact h2
   refine ⟨⟨hg.os.trans hB.os,hg.tape.trans hB.tape,hg.output.trans hB.output,Nat.le_trans hB.size hg.size,fun b hb=>(hg.block b (Nat.lt_of_lt_of_le hb hB.size) (fun e=>by have:=hown b e.symm;omega)).trans (hB.block b hb)⟩,fun j u hj=>?_,fun e=>setV_some (hF.ord e)⟩
   by_cases e:j=5
   ·subst e
    rw [setV_at] at hj
    cases hj
    exact ⟨by rw [setV_ne _ _ (by decide),h2'];simp,hT2⟩
   ·rw [setV_ne _ _ e] at hj
    have hh:=hF.all j u hj
    refine hh.move j u (fun h=>?_) (fun h=>?_) (fun h h5=>?_) (fun h=>absurd h e) (fun h=>?_) (fun h=>?_)
    ·intro h2
     rw [setV_ne _ _ (by decide),h2'] at h2
     cases h2
    ·subst h
     exact ⟨by rw [setV_ne _ _ (by decide)];exact hh.1,fun h5=>by rw [setV_at] at h5;cases h5⟩
    ·rw [setV_at] at h5;cases h5
    ·subst h
     obtain ⟨g,C,h1,h2,h3,h4⟩:=hh
     exact ⟨g,C,h1,h2,hkeep h3 (hgo _ _ _ (by decide) h3),h4⟩
    ·subst h
     obtain ⟨g,C,h1,h2,h3,h4⟩:=hh
     exact ⟨g,C,h1,h2,hkeep h3 (hgo _ _ _ (by decide) h3),h4⟩
  | 6,_=>
   obtain ⟨v5,h5⟩:=hdep 5 (by kernel_rfl)
   have hT:=(hF.all 5 v5 h5).2
   obtain ⟨p5,c5,rfl,_,_⟩:=hT.slice
   have e1:=ev_at (hD.at 5 h5 52)
   have hc:Calls Tryz.prog 14 #[.slice p5 (l ++ [more]).length c5] w' fun r w''=>∃ v,r=.returned v∧OutV X2 v∧Below w'.heap.size w' w'':=by
    refine (pprog_any (fun b hb=>hb.2) rfl hT.km (by rw [List.length_append,List.length_singleton];omega)).mono ?_
    rintro r w'' ⟨pa,ca,pb,cb,rfl,-,hb⟩
    rw [HX2.out]
    exact ⟨_,rfl,⟨_,_,_,_,_,_,rfl⟩,hb⟩
   refine op_J rfl rfl fun K hK=>?_
   clear hdep hD
   generalize (l ++ [more]).length=n5 at *
   have HC:=hide hc
   clear hc
   go_simp
   refine HC.out.mono ?_
   rintro r w'' ⟨v,rfl,hv,hb⟩
   exact hK _ _ ⟨_,rfl,hF.go hb 6 _ (by decide) (by decide) (by decide) (by decide) hv⟩
  | 13,_=>
   obtain ⟨v8,h8⟩:=hdep 8 (by kernel_rfl)
   obtain ⟨pa,na,ca,pb,nb,cb,rfl⟩:=hF.all 8 v8 h8
   obtain ⟨v11,h11⟩:=hdep 11 (by kernel_rfl)
   obtain ⟨g,C,rfl,hg1,hg2,hg3⟩:=hF.all 11 v11 h11
   obtain ⟨v2,h2⟩:=hdep 2 (by kernel_rfl)
   obtain ⟨v5,h5⟩:=hdep 5 (by kernel_rfl)
   have e1:=ev_at (hD.at 11 h11 14)
   have e2:=ev_at (hD.at 8 h8 54)
   have z0:=hg2.frozen 0
   have z1:=hg2.frozen 1
   match C,hg3 with
   | ⟨[k0,k1]⟩,_=>
   have y0:=hg2.cell 0
   have y1:=hg2.cell 1
   simp only [lGA,lGS,lGZ] at y0 y1
   refine op_J rfl rfl fun K hK=>?_
   clear hdep hD
   go_simp
   refine hK a _ ⟨undef,rfl,?_⟩
   clear hK
   have hk:∀ {g':Nat} {C:Array Value} {t:TypeId},Hold g' C t w'→g'≠g→Hold g' C t ((w'.setCell ⟨g,0,none⟩ (.slice pa na ca)).setCell ⟨g,1,none⟩ (.slice pb nb cb)):=fun h hn=>(h.other hn _ _).other hn _ _
   refine ⟨?_,fun j u hj=>?_,fun e=>setV_some (hF.ord (by rwa [setV_ne _ _ (by decide)] at e))⟩
   ·have hB:=hF.bel
    have hb:∀ b,b<W3.heap.size→((w'.setCell ⟨g,0,none⟩ (.slice pa na ca)).setCell ⟨g,1,none⟩ (.slice pb nb cb)).heap[b]?=w'.heap[b]?:=fun b hb=>(Below.heap_setCell _ _ _ b (fun e=>absurd (show b=g from e) (by omega))).trans (Below.heap_setCell _ _ _ b (fun e=>absurd (show b=g from e) (by omega)))
    exact ⟨hB.os,hB.tape,hB.output,by simpa using hB.size,fun b h=>(hb b h).trans (hB.block b h)⟩
   ·by_cases e:j=13
    ·subst e
     trivial
    ·rw [setV_ne _ _ e] at hj
     have hh:=hF.all j u hj
     refine hh.move j u (fun h=>?_) (fun h=>?_) (fun h h5'=>?_) (fun h=>?_) (fun h=>?_) (fun h=>?_)
     ·intro h2'
      rw [setV_ne _ _ (by decide),h2] at h2'
      cases h2'
     ·subst h
      exact ⟨by rw [setV_ne _ _ (by decide)];exact hh.1,fun h5'=>by rw [setV_ne _ _ (by decide),h5] at h5';cases h5'⟩
     ·rw [setV_ne _ _ (by decide),h5] at h5';cases h5'
     ·subst h
      refine ⟨by rw [setV_ne _ _ (by decide)];exact hh.1,hh.2.keep fun b hb hlt=>?_⟩
      have hne:b≠g:=fun e=>row_ne hg2 hh.2.1 (by decide) (by rw [hb,e])
      exact (Below.heap_setCell _ _ _ b hne).trans (Below.heap_setCell _ _ _ b hne)
     ·subst h
      rw [h11] at hj
      cases hj
      exact ⟨g,_,rfl,hg1,(hg2.set 0 _).set 1 _,by simp⟩
     ·subst h
      obtain ⟨g',C',k1,k2,k3,k4,k5⟩:=hh
      refine ⟨g',C',k1,k2,hk k3 fun e=>?_,k4,fun h=>k5 (by rwa [setV_ne _ _ (by decide)] at h)⟩
      rw [e] at k3
      exact absurd ((k3:_=_).symm.trans hg2) (by simp)
  | 14,_=>
   obtain ⟨v9,h9⟩:=hdep 9 (by kernel_rfl)
   obtain rfl:=hF.all 9 v9 h9
   obtain ⟨v12,h12⟩:=hdep 12 (by kernel_rfl)
   obtain ⟨g,C,rfl,hg1,hg2,hg3,hg4⟩:=hF.all 12 v12 h12
   obtain ⟨v2,h2⟩:=hdep 2 (by kernel_rfl)
   obtain ⟨v5,h5⟩:=hdep 5 (by kernel_rfl)
   have e1:=ev_at (hD.at 12 h12 15)
   have e2:=ev_at (hD.at 9 h9 55)
   have z0:=hg2.frozen 0
   have z1:=hg2.frozen 1
   clear hg4
   match C,hg3 with
   | ⟨[k0,k1]⟩,_=>
   have y0:=hg2.cell 0
   have y1:=hg2.cell 1
   simp only [lGA,lGS,lGZ] at y0 y1
   refine op_J rfl rfl fun K hK=>?_
   clear hdep hD
   go_simp
   refine hK a _ ⟨undef,rfl,?_⟩
   clear hK
   have hk:∀ {g':Nat} {C:Array Value} {t:TypeId},Hold g' C t w'→g'≠g→Hold g' C t ((w'.setCell ⟨g,0,none⟩ (.int .i64 X2.1.1)).setCell ⟨g,1,none⟩ (.int .i64 X2.1.2)):=fun h hn=>(h.other hn _ _).other hn _ _
   refine ⟨?_,fun j u hj=>?_,fun _=>setV_some (by rw [h12];simp)⟩
   ·have hB:=hF.bel
    have hb:∀ b,b<W3.heap.size→((w'.setCell ⟨g,0,none⟩ (.int .i64 X2.1.1)).setCell ⟨g,1,none⟩ (.int .i64 X2.1.2)).heap[b]?=w'.heap[b]?:=fun b hb=>(Below.heap_setCell _ _ _ b (fun e=>absurd (show b=g from e) (by omega))).trans (Below.heap_setCell _ _ _ b (fun e=>absurd (show b=g from e) (by omega)))
    exact ⟨hB.os,hB.tape,hB.output,by simpa using hB.size,fun b h=>(hb b h).trans (hB.block b h)⟩
   ·by_cases e:j=14
    ·subst e
     trivial
    ·rw [setV_ne _ _ e] at hj
     have hh:=hF.all j u hj
     refine hh.move j u (fun h=>?_) (fun h=>?_) (fun h h5'=>?_) (fun h=>?_) (fun h=>?_) (fun h=>?_)
     ·intro h2'
      rw [setV_ne _ _ (by decide),h2] at h2'
      cases h2'
     ·subst h
      exact ⟨by rw [setV_ne _ _ (by decide)];exact hh.1,fun h5'=>by rw [setV_ne _ _ (by decide),h5] at h5';cases h5'⟩
     ·rw [setV_ne _ _ (by decide),h5] at h5';cases h5'
     ·subst h
      refine ⟨by rw [setV_ne _ _ (by decide)];exact hh.1,hh.2.keep fun b hb hlt=>?_⟩
      have hne:b≠g:=fun e=>row_ne hg2 hh.2.1 (by decide) (by rw [hb,e])
      exact (Below.heap_setCell _ _ _ b hne).trans (Below.heap_setCell _ _ _ b hne)
     ·subst h
      obtain ⟨g',C',k1,k2,k3,k4⟩:=hh
      refine ⟨g',C',k1,k2,hk k3 fun e=>?_,k4⟩
      rw [e] at k3
      exact absurd ((k3:_=_).symm.trans hg2) (by simp)
     ·subst h
      rw [h12] at hj
      cases hj
      exact ⟨g,_,rfl,hg1,(hg2.set 0 _).set 1 _,by simp,fun _=>by simp⟩
  | i+16,h=>omega
 ·intro val w' h val' he
  refine ⟨h.bel,fun i v hv=>?_,by rw [he 14 (by omega),he 12 (by omega)];exact h.ord⟩
  rw [he 0 (by omega),he 2 (by omega),he 5 (by omega),he 14 (by omega)]
  by_cases hi:i<16
  ·exact h.all i v (by rw [← he i hi];exact hv)
  ·have:G6 W3 p m c l more X2 (val 0) (val 2) (val 5) (val 14) w' i v=True:=by
    unfold G6
    split <;> first | rfl | omega
   rw [this]
   trivial
theorem prefixes_long {p:Option Addr} {m c cut:Nat} {more:Tk} (w:World) (hg:Ly.Glob w) (hG:GP (fun b=>b<w.heap.size) w) (hm:m=0∨300<m):Calls Tryz.prog 8 #[.slice p m c,.int .u16 cut,.agg (tkC more).toArray] w fun e w'=>e=.returned (.bool true)∧Below w.heap.size w w':=by
 have HL:=hide hg
 have HG:=hide hG
 clear hG hg
 have HB0:=hide ((Below.refl w.heap.size w).alloc (Nat.le_refl _) (.cells (tkC more).toArray 51))
 rcases hm with rfl | hm
 ·go_enter Tryz.func8,Tryz.ntmps8
  go_wp2_with fail
  generalize w.alloc (.cells (tkC more).toArray 51)=w0 at *
  refine (awake_any w0 (HL.out.below (Nat.le_refl _) HB0.out) (gp_below HG.out HB0.out)).mono ?_
  rintro r w1 ⟨rfl,hb1⟩
  have HB1:=hide (HB0.out.trans (hb1.mono HB0.out.size))
  clear hb1
  go_wp2_with fail
  go_ret
  exact ⟨rfl,HB1.out⟩
 ·have hm2:(300:Int)<m:=by omega
  have hm3:((m:Int) == 0)=false:=by rw [beq_eq_false_iff_ne];omega
  go_enter Tryz.func8,Tryz.ntmps8
  go_wp2_with fail
  generalize w.alloc (.cells (tkC more).toArray 51)=w0 at *
  refine (awake_any w0 (HL.out.below (Nat.le_refl _) HB0.out) (gp_below HG.out HB0.out)).mono ?_
  rintro r w1 ⟨rfl,hb1⟩
  have HB1:=hide (HB0.out.trans (hb1.mono HB0.out.size))
  clear hb1
  go_wp2_with fail
  go_ret
  exact ⟨rfl,HB1.out⟩
end Go.Proofs.YtcnnlecjdkfdjaaGreatDoor
