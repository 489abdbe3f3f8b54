/- Parts of the proof. -/
import Derived.Test.YtcnnlecjdkfdjaaGreatDoorLyBegin
set_option linter.unusedVariables false
set_option linter.unusedSimpArgs false
set_option maxRecDepth 100000
set_option maxHeartbeats 8000000
namespace Go.Proofs.YtcnnlecjdkfdjaaGreatDoor.Ly
open Go.RowKit
def endM (may:Int→Bool) (t:Tok):List Blk→List Tok→List Blk × List Tok
 | [],o=>([],o)
 | b :: r,o=>if b.sg == [] && may b.cl then endM may t r (o ++ [⟨4,[125],0,t.ln,t.co⟩]) else (b :: r,o)
theorem leftOf_any (q:Nat) (t:Tok) (c:Int) (w:World) (h:TB q t w) :
 Calls Tryz.prog 103 #[.int .i64 c,.pointer (some ⟨q,0,none⟩)] w fun e w'=>e=.returned (.bool (decide (t.co<c)))∧w'=w:=by
 obtain ⟨c0,c1,c2,c3,c4⟩:=h.cells
 go_enter Tryz.func103,Tryz.ntmps103
 go_wp2_with fail
 go_ret
 exact ⟨rfl,rfl⟩
theorem always_any (c:Int) (w:World) :
 Calls Tryz.prog 109 #[.int .i64 c] w fun e w'=>e=.returned (.bool true)∧w'=w:=by
 go_enter Tryz.func109,Tryz.ntmps109
 go_wp2_with fail
 go_ret
 exact ⟨rfl,rfl⟩
theorem Hold.kp {P:Nat→Prop} {b:Nat} {C:Array Value} {t:TypeId} {W W':World} (h:Hold b C t W) (k:KP P W W') (hb:P b):Hold b C t W':=(k.block b hb).trans h
theorem L.lt {P:Nat→Prop} {B:Nat} {o:List Tok} {st:List Blk} {f:Bool} {w:World} (h:L P B o st f w) (b:Nat) (hb:P b):b<w.heap.size:=by obtain ⟨_,_,_,_,h⟩:=h;exact (h.apart b hb).1
theorem endM_stop {may:Int→Bool} {t:Tok} {b:Blk} {r:List Blk} {o:List Tok} (h:(b.sg == [] && may b.cl)=false):endM may t (b :: r) o=(b :: r,o):=by unfold endM;rw [h];rfl
theorem endM_go {may:Int→Bool} {t:Tok} {b:Blk} {r:List Blk} {o:List Tok} (h:(b.sg == [] && may b.cl)=true):endM may t (b :: r) o=endM may t r (o ++ [⟨4,[125],0,t.ln,t.co⟩]):=by rw [endM,h];rfl
theorem end_line (P:Nat→Prop) (B:Nat) (t:Tok) (q:Nat) (o:List Tok) (st:List Blk) (f:Bool) (w:World) (hL:L P B o st f w) (hn:o.length+st.length≤1000000) (hq:TB q t w) (hPq:P q) (may:Int→Bool) (hM:∀ c w,TB q t w→Calls Tryz.prog 103 #[.int .i64 c,.pointer (some ⟨q,0,none⟩)] w fun e w'=>e=.returned (.bool (may c))∧w'=w) :
 Calls Tryz.prog 102 #[.pointer (some ⟨B,0,none⟩),tv t,.func (.func 103) #[] #[.pointer (some ⟨q,0,none⟩)]] w fun e w'=>e=.returned (.tuple #[])∧L P B (endM may t st o).2 (endM may t st o).1 f w'∧KP P w w':=by
 have hLA:∀ b,P b→b<w.heap.size:=fun b hb=>by obtain ⟨_,_,_,_,h⟩:=hL;exact (h.apart b hb).1
 have T0:=TB.new w t
 have K0:=KP.alloc (P:=P) w (.cells #[.int .i64 t.kd,.string (S t.tx),.int .i64 t.nu,.int .i64 t.ln,.int .i64 t.co] 51) hLA
 have L0:L (fun b=>P b∨b=w.heap.size) B o st f (w.alloc (.cells #[.int .i64 t.kd,.string (S t.tx),.int .i64 t.nu,.int .i64 t.ln,.int .i64 t.co] 51)):=by
  obtain ⟨pa,ca,po,co,hS⟩:=hL
  refine ⟨pa,ca,po,co,hS.hold.alloc _,hS.told.alloc _,hS.opn.alloc _,fun b hb=>?_⟩
  rcases hb with hb | rfl
  ·obtain ⟨h1,h2,h3,h4⟩:=hS.apart b hb
   exact ⟨by simp;omega,h2,h3,h4⟩
  ·have:=hS.hold.lt
   exact ⟨by simp,by omega,row_lt hS.told,row_lt hS.opn⟩
 have TQ:TB q t (w.alloc (.cells #[.int .i64 t.kd,.string (S t.tx),.int .i64 t.nu,.int .i64 t.ln,.int .i64 t.co] 51)):=Hold.kp hq K0 hPq
 unfold tv
 go_enter Tryz.func102,Tryz.ntmps102
 go_wp2_with fail
 go_step3
 go_wp2_with fail
 go_step3
 go_wp2_with fail
 generalize w.alloc (.cells #[.int .i64 t.kd,.string (S t.tx),.int .i64 t.nu,.int .i64 t.ln,.int .i64 t.co] 51)=w0 at *
 generalize w.heap.size=q0 at *
 clear hLA hq
 have HM:=zz hM
 clear hM
 go_loopg [] st.length (fun k wr=>∃ o1 st1,st1.length=k∧o1.length+st1.length≤1000000∧L (fun b=>P b∨b=q0) B o1 st1 f wr∧KP P w wr∧TB q0 t wr∧TB q t wr∧endM may t st o=endM may t st1 o1)
 case atStart=>exact ⟨o,st,rfl,hn,L0,K0,T0,TQ,rfl⟩
 case round=>
  obtain ⟨o1,st1,hk,hn1,L1,K1,T1,Q1,hend⟩:=hrel
  have HE:=zz hend
  have HL:=zz L1
  clear hend L0 T0 TQ hL K0
  have HN:Hid (∀ o2 st2 (w':World),L (fun b=>P b∨b=q0) B o2 st2 f w'→KP P w w'→endM may t st o=(st2,o2)→L P B (endM may t st o).2 (endM may t st o).1 f w'∧KP P w w'):=by
   intro o2 st2 w' h1 h2 h3
   rw [h3];exact ⟨h1.weak fun b hb=>.inl hb,h2⟩
  obtain ⟨pa,ca,po,co,hS⟩:=L1
  have c1:wr.cell? ⟨B,1,none⟩=some (.slice po st1.length co):=hS.hold.cell 1
  clear hS
  cases st1 with
  | nil=>
   simp only [List.length_nil] at c1
   go_wp2_with fail
   rw [Exit.noGoto_normal]
   go_end0
   exact ⟨rfl,HN.out _ _ _ HL.out K1 HE.out⟩
  | cons b st1=>
   simp only [List.length_cons] at c1 hn1 hk
   have A:=zz (last_any _ B o1 (b :: st1) f wr HL.out (by simp;omega))
   have hs:=S_list b.sg
   have HB1:=HL.out
   unfold top bv at A
   generalize S b.sg=s at *
   by_cases hb:b.sg=[]
   ·rw [hb] at hs
    have hs2:s.toList.isEmpty=true:=by rw [hs];rfl
    cases hm:may b.cl
    ·have HE2:=zz (HE.out.trans (endM_stop (by rw [hb,hm];rfl)))
     have HC:=zz (fun w h=>HM.out b.cl w h)
     rw [hm] at HC
     clear hm HE HM
     generalize b.cl=cc at *
     go_wp2_with fail
     refine A.out.mono ?_
     rintro e w1 ⟨rfl,b1⟩
     have Q2:=TB.below Q1 b1 (Hold.lt Q1)
     have L2:=HB1.below b1
     have B2:=b1.alloc b1.size (.cells #[.string s,.int .i64 cc] 146)
     have Q3:TB q t (w1.alloc (.cells #[.string s,.int .i64 cc] 146)):=Hold.alloc Q2 _
     have K3:=K1.trans (KP.of_below B2 (fun b hb=>((HB1.lt b (.inl hb)))))
     have L3:=HB1.below B2
     go_wp2_with fail
     refine (HC.out _ Q3).mono ?_
     rintro e w2 ⟨rfl,rfl⟩
     go_wp2_with fail
     rw [Exit.noGoto_normal]
     go_end0
     exact ⟨rfl,HN.out _ _ _ L3 K3 HE2.out⟩
    ·have HE2:=zz (HE.out.trans (endM_go (by rw [hb,hm];rfl)))
     have HC:=zz (fun w h=>HM.out b.cl w h)
     rw [hm] at HC
     have HP:=zz (fun w h=>put_any (fun b=>P b∨b=q0) B [125] t o1 (b :: st1) f w h (by omega))
     unfold tv at HP
     clear hm HE HM
     generalize hcc:b.cl=cc at *
     go_wp2_with fail
     refine A.out.mono ?_
     rintro e w1 ⟨rfl,b1⟩
     have Q2:=TB.below Q1 b1 (Hold.lt Q1)
     have T2:=TB.below T1 b1 (Hold.lt T1)
     have B2:=b1.alloc b1.size (.cells #[.string s,.int .i64 cc] 146)
     have Q3:TB q t (w1.alloc (.cells #[.string s,.int .i64 cc] 146)):=Hold.alloc Q2 _
     have T3:TB q0 t (w1.alloc (.cells #[.string s,.int .i64 cc] 146)):=Hold.alloc T2 _
     have K3:=K1.trans (KP.of_below B2 (fun b hb=>((HB1.lt b (.inl hb)))))
     have L3:=HB1.below B2
     obtain ⟨c30,c31,c32,c33,c34⟩:=T3.cells
     go_wp2_with fail
     refine (HC.out _ Q3).mono ?_
     rintro e w2 ⟨rfl,rfl⟩
     go_wp2_with fail
     refine (HP.out _ L3).mono ?_
     rintro e w3 ⟨rfl,L4,K4⟩
     have K5:=K3.trans (K4.mono fun b hb=>.inl hb)
     have T4:TB q0 t w3:=Hold.kp T3 K4 (.inr rfl)
     have Q4:TB q t w3:=Hold.kp Q3 K4 (.inl hPq)
     have HO:=zz (pop_any _ B _ b st1 f w3 L4 (by omega))
     clear c30 c31 c32 c33 c34 T3 Q3 L3 K3 K4 L4
     go_wp2_with fail
     refine HO.out.mono ?_
     rintro e w4 ⟨rfl,L6,K6⟩
     go_wp2_with fail
     go_roundg st1.length
     case rel=>exact ⟨_,st1,rfl,by simp;omega,L6,K5.trans (K6.mono fun b hb=>.inl hb),Hold.kp T4 K6 (.inr rfl),Hold.kp Q4 K6 (.inl hPq),HE2.out⟩
     case measure=>omega
   ·have hs2:s.toList.isEmpty=false:=by rw [hs];cases h:b.sg with | nil=>exact absurd h hb | cons=>rfl
    have hs3:¬ s.toList=[]:=by rw [hs];exact hb
    have HE2:=zz (HE.out.trans (endM_stop (by rw [← hs];simp [hs3])))
    clear HE HM
    generalize hcc:b.cl=cc at *
    go_wp2_with fail
    refine A.out.mono ?_
    rintro e w1 ⟨rfl,b1⟩
    have B2:=b1.alloc b1.size (.cells #[.string s,.int .i64 cc] 146)
    have K3:=K1.trans (KP.of_below B2 (fun b hb=>((HB1.lt b (.inl hb)))))
    have L3:=HB1.below B2
    go_wp2_with fail
    rw [Exit.noGoto_normal]
    go_end0
    exact ⟨rfl,HN.out _ _ _ L3 K3 HE2.out⟩
theorem end_all (P:Nat→Prop) (B:Nat) (t:Tok) (o:List Tok) (st:List Blk) (f:Bool) (w:World) (hL:L P B o st f w) (hn:o.length+st.length≤1000000) (may:Int→Bool) (hM:∀ c w,Calls Tryz.prog 109 #[.int .i64 c] w fun e w'=>e=.returned (.bool (may c))∧w'=w) :
 Calls Tryz.prog 102 #[.pointer (some ⟨B,0,none⟩),tv t,.func (.func 109) #[] #[]] w fun e w'=>e=.returned (.tuple #[])∧L P B (endM may t st o).2 (endM may t st o).1 f w'∧KP P w w':=by
 have hLA:∀ b,P b→b<w.heap.size:=fun b hb=>by obtain ⟨_,_,_,_,h⟩:=hL;exact (h.apart b hb).1
 have T0:=TB.new w t
 have K0:=KP.alloc (P:=P) w (.cells #[.int .i64 t.kd,.string (S t.tx),.int .i64 t.nu,.int .i64 t.ln,.int .i64 t.co] 51) hLA
 have L0:L (fun b=>P b∨b=w.heap.size) B o st f (w.alloc (.cells #[.int .i64 t.kd,.string (S t.tx),.int .i64 t.nu,.int .i64 t.ln,.int .i64 t.co] 51)):=by
  obtain ⟨pa,ca,po,co,hS⟩:=hL
  refine ⟨pa,ca,po,co,hS.hold.alloc _,hS.told.alloc _,hS.opn.alloc _,fun b hb=>?_⟩
  rcases hb with hb | rfl
  ·obtain ⟨h1,h2,h3,h4⟩:=hS.apart b hb
   exact ⟨by simp;omega,h2,h3,h4⟩
  ·have:=hS.hold.lt
   exact ⟨by simp,by omega,row_lt hS.told,row_lt hS.opn⟩
 unfold tv
 go_enter Tryz.func102,Tryz.ntmps102
 go_wp2_with fail
 go_step3
 go_wp2_with fail
 go_step3
 go_wp2_with fail
 generalize w.alloc (.cells #[.int .i64 t.kd,.string (S t.tx),.int .i64 t.nu,.int .i64 t.ln,.int .i64 t.co] 51)=w0 at *
 generalize w.heap.size=q0 at *
 clear hLA
 have HM:=zz hM
 clear hM
 go_loopg [] st.length (fun k wr=>∃ o1 st1,st1.length=k∧o1.length+st1.length≤1000000∧L (fun b=>P b∨b=q0) B o1 st1 f wr∧KP P w wr∧TB q0 t wr∧endM may t st o=endM may t st1 o1)
 case atStart=>exact ⟨o,st,rfl,hn,L0,K0,T0,rfl⟩
 case round=>
  obtain ⟨o1,st1,hk,hn1,L1,K1,T1,hend⟩:=hrel
  have HE:=zz hend
  have HL:=zz L1
  clear hend L0 T0 hL K0
  have HN:Hid (∀ o2 st2 (w':World),L (fun b=>P b∨b=q0) B o2 st2 f w'→KP P w w'→endM may t st o=(st2,o2)→L P B (endM may t st o).2 (endM may t st o).1 f w'∧KP P w w'):=by
   intro o2 st2 w' h1 h2 h3
   rw [h3];exact ⟨h1.weak fun b hb=>.inl hb,h2⟩
  obtain ⟨pa,ca,po,co,hS⟩:=L1
  have c1:wr.cell? ⟨B,1,none⟩=some (.slice po st1.length co):=hS.hold.cell 1
  clear hS
  cases st1 with
  | nil=>
   simp only [List.length_nil] at c1
   go_wp2_with fail
   rw [Exit.noGoto_normal]
   go_end0
   exact ⟨rfl,HN.out _ _ _ HL.out K1 HE.out⟩
  | cons b st1=>
   simp only [List.length_cons] at c1 hn1 hk
   have A:=zz (last_any _ B o1 (b :: st1) f wr HL.out (by simp;omega))
   have hs:=S_list b.sg
   have HB1:=HL.out
   unfold top bv at A
   generalize S b.sg=s at *
   by_cases hb:b.sg=[]
   ·rw [hb] at hs
    have hs2:s.toList.isEmpty=true:=by rw [hs];rfl
    cases hm:may b.cl
    ·have HE2:=zz (HE.out.trans (endM_stop (by rw [hb,hm];rfl)))
     have HC:=zz (fun w=>HM.out b.cl w)
     rw [hm] at HC
     clear hm HE HM
     generalize b.cl=cc at *
     go_wp2_with fail
     refine A.out.mono ?_
     rintro e w1 ⟨rfl,b1⟩
     have L2:=HB1.below b1
     have B2:=b1.alloc b1.size (.cells #[.string s,.int .i64 cc] 146)
     have K3:=K1.trans (KP.of_below B2 (fun b hb=>((HB1.lt b (.inl hb)))))
     have L3:=HB1.below B2
     go_wp2_with fail
     refine (HC.out _).mono ?_
     rintro e w2 ⟨rfl,rfl⟩
     go_wp2_with fail
     rw [Exit.noGoto_normal]
     go_end0
     exact ⟨rfl,HN.out _ _ _ L3 K3 HE2.out⟩
    ·have HE2:=zz (HE.out.trans (endM_go (by rw [hb,hm];rfl)))
     have HC:=zz (fun w=>HM.out b.cl w)
     rw [hm] at HC
     have HP:=zz (fun w h=>put_any (fun b=>P b∨b=q0) B [125] t o1 (b :: st1) f w h (by omega))
     unfold tv at HP
     clear hm HE HM
     generalize hcc:b.cl=cc at *
     go_wp2_with fail
     refine A.out.mono ?_
     rintro e w1 ⟨rfl,b1⟩
     have T2:=TB.below T1 b1 (Hold.lt T1)
     have B2:=b1.alloc b1.size (.cells #[.string s,.int .i64 cc] 146)
     have T3:TB q0 t (w1.alloc (.cells #[.string s,.int .i64 cc] 146)):=Hold.alloc T2 _
     have K3:=K1.trans (KP.of_below B2 (fun b hb=>((HB1.lt b (.inl hb)))))
     have L3:=HB1.below B2
     obtain ⟨c30,c31,c32,c33,c34⟩:=T3.cells
     go_wp2_with fail
     refine (HC.out _).mono ?_
     rintro e w2 ⟨rfl,rfl⟩
     go_wp2_with fail
     refine (HP.out _ L3).mono ?_
     rintro e w3 ⟨rfl,L4,K4⟩
     have K5:=K3.trans (K4.mono fun b hb=>.inl hb)
     have T4:TB q0 t w3:=Hold.kp T3 K4 (.inr rfl)
     have HO:=zz (pop_any _ B _ b st1 f w3 L4 (by omega))
     clear c30 c31 c32 c33 c34 T3 L3 K3 K4 L4
     go_wp2_with fail
     refine HO.out.mono ?_
     rintro e w4 ⟨rfl,L6,K6⟩
     go_wp2_with fail
     go_roundg st1.length
     case rel=>exact ⟨_,st1,rfl,by simp;omega,L6,K5.trans (K6.mono fun b hb=>.inl hb),Hold.kp T4 K6 (.inr rfl),HE2.out⟩
     case measure=>omega
   ·have hs2:s.toList.isEmpty=false:=by rw [hs];cases h:b.sg with | nil=>exact absurd h hb | cons=>rfl
    have hs3:¬ s.toList=[]:=by rw [hs];exact hb
    have HE2:=zz (HE.out.trans (endM_stop (by rw [← hs];simp [hs3])))
    clear HE HM
    generalize hcc:b.cl=cc at *
    go_wp2_with fail
    refine A.out.mono ?_
    rintro e w1 ⟨rfl,b1⟩
    have B2:=b1.alloc b1.size (.cells #[.string s,.int .i64 cc] 146)
    have K3:=K1.trans (KP.of_below B2 (fun b hb=>((HB1.lt b (.inl hb)))))
    have L3:=HB1.below B2
    go_wp2_with fail
    rw [Exit.noGoto_normal]
    go_end0
    exact ⟨rfl,HN.out _ _ _ L3 K3 HE2.out⟩
theorem endM_sum (may:Int→Bool) (t:Tok) (st:List Blk):∀ o,(endM may t st o).2.length+(endM may t st o).1.length=o.length+st.length:=by
 induction st with
 | nil=>intro o;simp [endM]
 | cons b r ih=>
  intro o
  unfold endM
  split
  ·rw [ih];simp;omega
  ·simp
def every:Int→Bool:=fun _=>true
def pt1 (c:UInt8) (t:Tok):Tok:=⟨4,[c],0,t.ln,t.co⟩
theorem endAll_any (P:Nat→Prop) (B:Nat) (t:Tok) (o:List Tok) (st:List Blk) (f:Bool) (w:World) (hL:L P B o st f w) (hn:o.length+st.length≤1000000) :
 Calls Tryz.prog 52 #[.pointer (some ⟨B,0,none⟩),tv t] w fun e w'=>e=.returned (.tuple #[])∧L P B (endM every t st o).2 (endM every t st o).1 f w'∧KP P w w':=by
 have A:=zz (fun w hL=>end_all P B t o st f w hL hn every (fun c w=>always_any c w))
 have hA:=hL.lt
 unfold tv at A ⊢
 go_enter Tryz.func52,Tryz.ntmps52
 go_wp2_with fail
 refine (A.out _ (hL.below ((Below.refl _ w).alloc (Nat.le_refl _) _))).mono ?_
 rintro e w1 ⟨rfl,L1,k1⟩
 go_wp2_with fail
 go_end0
 exact ⟨rfl,L1,(KP.alloc w _ hA).trans k1⟩
def lineM (t:Tok) (st:List Blk) (o:List Tok):List Blk × List Tok:=
 let r:=endM (fun c=>decide (t.co<c)) t st o
 (r.1,if (top r.1).sg == [] && decide (0<(top r.1).cl) && (top r.1).cl == t.co then r.2 ++ [pt1 59 t] else r.2)
theorem L.new {P:Nat→Prop} {B:Nat} {o:List Tok} {st:List Blk} {f:Bool} {w:World} (h:L P B o st f w) (x:Obj):L (fun b=>P b∨b=w.heap.size) B o st f (w.alloc x):=by
 obtain ⟨pa,ca,po,co,hS⟩:=h
 refine ⟨pa,ca,po,co,hS.hold.alloc _,hS.told.alloc _,hS.opn.alloc _,fun b hb=>?_⟩
 rcases hb with hb | rfl
 ·obtain ⟨h1,h2,h3,h4⟩:=hS.apart b hb
  exact ⟨by simp;omega,h2,h3,h4⟩
 ·have:=hS.hold.lt
  exact ⟨by simp,by omega,row_lt hS.told,row_lt hS.opn⟩
theorem line_any (P:Nat→Prop) (B:Nat) (t:Tok) (o:List Tok) (st:List Blk) (f:Bool) (w:World) (hL:L P B o st f w) (hn:o.length+st.length≤1000000) :
 Calls Tryz.prog 47 #[.pointer (some ⟨B,0,none⟩),tv t] w fun e w'=>e=.returned (.tuple #[])∧L P B (lineM t st o).2 (lineM t st o).1 f w'∧KP P w w':=by
 have hA:=hL.lt
 have T0:=TB.new w t
 have K0:=KP.alloc (P:=P) w (.cells #[.int .i64 t.kd,.string (S t.tx),.int .i64 t.nu,.int .i64 t.ln,.int .i64 t.co] 51) hA
 have L0:=hL.new (.cells #[.int .i64 t.kd,.string (S t.tx),.int .i64 t.nu,.int .i64 t.ln,.int .i64 t.co] 51)
 have hlen:=endM_sum (fun c=>decide (t.co<c)) t st o
 have hlM:lineM t st o=((endM (fun c=>decide (t.co<c)) t st o).1,if (top (endM (fun c=>decide (t.co<c)) t st o).1).sg == [] && decide (0<(top (endM (fun c=>decide (t.co<c)) t st o).1).cl) && (top (endM (fun c=>decide (t.co<c)) t st o).1).cl == t.co then (endM (fun c=>decide (t.co<c)) t st o).2 ++ [pt1 59 t] else (endM (fun c=>decide (t.co<c)) t st o).2):=rfl
 have A:=zz (end_line (fun b=>P b∨b=w.heap.size) B t w.heap.size o st f _ L0 hn T0 (.inr rfl) (fun c=>decide (t.co<c)) (fun c w' h=>leftOf_any w.heap.size t c w' h))
 rw [hlM]
 clear hlM L0
 generalize endM (fun c=>decide (t.co<c)) t st o=r at *
 obtain ⟨st1,o1⟩:=r
 simp only at A hlen ⊢
 generalize hR:(if ((top st1).sg == [] && decide (0<(top st1).cl) && (top st1).cl == t.co)=true then o1 ++ [pt1 59 t] else o1)=R
 have hR:=zz hR
 unfold tv at A ⊢
 have HK:=zz (fun b (h:P b)=>hA b h)
 clear hA hL
 go_enter Tryz.func47,Tryz.ntmps47
 go_wp2_with fail
 refine A.out.mono ?_
 rintro e w1 ⟨rfl,L1,k1⟩
 have K1:=K0.trans (k1.mono fun b hb=>.inl hb)
 have T1:TB w.heap.size t w1:=Hold.kp T0 k1 (.inr rfl)
 clear k1 K0 T0 A
 generalize w.heap.size=q at *
 have A:=zz (last_any _ B o1 st1 f w1 L1 (by omega))
 have HP:=zz (fun w h=>put_any (fun b=>P b∨b=q) B [59] t o1 st1 f w h (by omega))
 have hs:=S_list (top st1).sg
 unfold bv at A
 unfold tv at HP
 generalize S (top st1).sg=s at *
 generalize (top st1).cl=cc at *
 generalize (top st1).sg=sg at *
 subst hs
 go_wp2_with fail
 refine A.out.mono ?_
 rintro e w2 ⟨rfl,b2⟩
 have B2:=b2.alloc b2.size (.cells #[.string s,.int .i64 cc] 146)
 have T3:TB q t (w2.alloc (.cells #[.string s,.int .i64 cc] 146)):=Hold.alloc (TB.below T1 b2 (Hold.lt T1)) _
 have K3:=K1.trans (KP.of_below B2 (fun b hb=>((L1.lt b (.inl hb)))))
 have L3:=L1.below B2
 obtain ⟨c30,c31,c32,c33,c34⟩:=T3.cells
 have HL3:=zz (L3.weak (Q:=P) fun b hb=>.inl hb)
 clear b2 B2 T1 K1 L1 A
 by_cases hb:s.toList=[]
 ·have hs2:s.toList.isEmpty=true:=by rw [hb];rfl
  by_cases h0:0<cc
  ·by_cases he:cc=t.co
   ·have he2:(cc == t.co)=true:=by simpa using he
    have e1:(s.toList == [] && decide (0<cc) && cc == t.co)=true:=by rw [hb];simp [h0,he2]
    clear he
    have hR2:Hid (o1 ++ [pt1 59 t]=R):=by show _=R;rw [← hR.out,e1];rfl
    clear hR e1
    go_wp2_with fail
    refine (HP.out _ L3).mono ?_
    rintro e w4 ⟨rfl,L4,K4⟩
    go_wp2_with fail
    go_end0
    exact ⟨rfl,by rw [← hR2.out];exact L4.weak (Q:=P) fun b hb=>.inl hb,K3.trans (K4.mono fun b hb=>.inl hb)⟩
   ·have he2:(cc == t.co)=false:=by simpa using he
    have e1:(s.toList == [] && decide (0<cc) && cc == t.co)=false:=by rw [he2];simp
    have hR2:Hid (o1=R):=by show _=R;rw [← hR.out,e1];rfl
    clear hR e1
    go_wp2_with fail
    go_end0
    exact ⟨rfl,by rw [← hR2.out];exact HL3.out,K3⟩
  ·have e1:(s.toList == [] && decide (0<cc) && cc == t.co)=false:=by simp [h0]
   have hR2:Hid (o1=R):=by show _=R;rw [← hR.out,e1];rfl
   clear hR e1
   go_wp2_with fail
   go_end0
   exact ⟨rfl,by rw [← hR2.out];exact HL3.out,K3⟩
 ·have hs2:s.toList.isEmpty=false:=by cases h:s.toList with | nil=>exact absurd h hb | cons=>rfl
  have e1:(s.toList == [] && decide (0<cc) && cc == t.co)=false:=by
   have:(s.toList == [])=false:=by simpa using hb
   rw [this];rfl
  have hR2:Hid (o1=R):=by show _=R;rw [← hR.out,e1];rfl
  clear hR e1
  go_wp2_with fail
  go_end0
  exact ⟨rfl,by rw [← hR2.out];exact HL3.out,K3⟩
def popM (s:List UInt8) (st:List Blk) (o:List Tok):Option (List Blk × List Tok):=if (top st).sg == s then some (st.tail,o) else none
def fitM (t:Tok) (st:List Blk) (o:List Tok):Option (List Blk × List Tok):=
 if isK t [41] then popM [40] (endM every t st o).1 (endM every t st o).2 else popM [123] st o
theorem fld0 (s:ByteArray) (c:Int) (w:World):(Instr.field 146 (.agg #[.string s,.int .i64 c]) 0).run Tryz.prog w=.ok (.string s) w:=by kernel_rfl
theorem fld1 (s:ByteArray) (c:Int) (w:World):(Instr.field 146 (.agg #[.string s,.int .i64 c]) 1).run Tryz.prog w=.ok (.int .i64 c) w:=by kernel_rfl
theorem fit_any (P:Nat→Prop) (B:Nat) (t:Tok) (o:List Tok) (st:List Blk) (f:Bool) (w:World) (hL:L P B o st f w) (hn:o.length+st.length≤1000000) :
 Calls Tryz.prog 49 #[.pointer (some ⟨B,0,none⟩),tv t] w fun e w'=>(∃ r,fitM t st o=some r∧e=.returned (.bool true)∧L P B r.2 r.1 f w'∧KP P w w')∨(fitM t st o=none∧e=.returned (.bool false)∧KP P w w'):=by
 have hA:=hL.lt
 have T0:=TB.new w t
 have K0:=KP.alloc (P:=P) w (.cells #[.int .i64 t.kd,.string (S t.tx),.int .i64 t.nu,.int .i64 t.ln,.int .i64 t.co] 51) hA
 have L0:=hL.new (.cells #[.int .i64 t.kd,.string (S t.tx),.int .i64 t.nu,.int .i64 t.ln,.int .i64 t.co] 51)
 have A:=zz (fun w=>is_any t [41] w)
 have E:=zz (fun w' h=>endAll_any (fun b=>P b∨b=w.heap.size) B t o st f w' h hn)
 have hlen:=endM_sum every t st o
 have HF:Hid (fitM t st o=if isK t [41] then popM [40] (endM every t st o).1 (endM every t st o).2 else popM [123] st o):=rfl
 generalize fitM t st o=F at *
 unfold tv at A E ⊢
 generalize endM every t st o=r at *
 obtain ⟨st1,o1⟩:=r
 simp only at E hlen HF
 clear hL hA
 cases h41:isK t [41]
 ·rw [h41] at A HF
  rw [if_neg (by decide)] at HF
  go_enter Tryz.func49,Tryz.ntmps49
  go_wp2_with fail
  refine (A.out _).mono ?_
  rintro e w1 ⟨rfl,b1⟩
  have L1:=L0.below b1
  have K1:=K0.trans (KP.of_below b1 fun b hb=>L0.lt b (.inl hb))
  clear T0 K0 L0 A E b1
  generalize w.heap.size=q at *
  have G:=zz (last_any _ B o st f w1 L1 (by omega))
  have HPOP:=zz (fun b r (h:st=b :: r) w (hL:L (fun b=>P b∨b=q) B o st f w)=>pop_any _ B o b r f w (by rw [h] at hL;exact hL) (by have:=congrArg List.length h;simp at this;omega))
  unfold bv at G
  have hs:=S_list (top st).sg
  have hfd:=fun c w=>fld0 (S (top st).sg) c w
  generalize S (top st).sg=s at *
  by_cases hb:(top st).sg=[123]
  ·have HF2:Hid (F=some (st.tail,o)):=by show F=_;rw [HF.out];unfold popM;rw [if_pos (by rw [hb];rfl)]
   rw [hb] at hs
   obtain ⟨b,r,hst⟩:∃ b r,st=b :: r:=by cases hx:st with | nil=>rw [hx] at hb;cases hb | cons b r=>exact ⟨b,r,rfl⟩
   have htl:st.tail=r:=by rw [hst];rfl
   have HQ:=zz (HPOP.out b r hst)
   have HST:=zz hst
   clear HPOP HF hst hb
   generalize (top st).cl=cc at *
   go_wp2_with fail
   refine G.out.mono ?_
   rintro e w2 ⟨rfl,b2⟩
   have L2:=L1.below b2
   have K2:=K1.trans (KP.of_below b2 fun b hb=>L1.lt b (.inl hb))
   go_wp2_with fail
   refine (HQ.out _ L2).mono ?_
   rintro e w3 ⟨rfl,L3,K3⟩
   go_wp2_with fail
   go_ret
   exact .inl ⟨_,HF2.out,rfl,by rw [htl];exact L3.weak fun b hb=>.inl hb,K2.trans (K3.mono fun b hb=>.inl hb)⟩
  ·have HF2:Hid (F=none):=by show F=_;rw [HF.out];unfold popM;rw [if_neg (by simpa using hb)]
   have hs2:¬ s.toList=[123]:=by rw [hs];exact hb
   have hs3:(s.toList == [123])=false:=by simpa using hs2
   clear HPOP HF hb hs
   generalize (top st).cl=cc at *
   go_wp2_with fail
   refine G.out.mono ?_
   rintro e w2 ⟨rfl,b2⟩
   have K2:=K1.trans (KP.of_below b2 fun b hb=>L1.lt b (.inl hb))
   go_wp2_with fail
   go_ret
   exact .inr ⟨HF2.out,rfl,K2⟩
 ·rw [h41] at A HF
  rw [if_pos rfl] at HF
  go_enter Tryz.func49,Tryz.ntmps49
  go_wp2_with fail
  refine (A.out _).mono ?_
  rintro e w1 ⟨rfl,b1⟩
  have L1:=L0.below b1
  have K1:=K0.trans (KP.of_below b1 fun b hb=>L0.lt b (.inl hb))
  obtain ⟨c0,c1,c2,c3,c4⟩:=(TB.below T0 b1 (by simp)).cells
  clear T0 K0 L0 A b1
  go_wp2_with fail
  refine (E.out _ L1).mono ?_
  rintro e w5 ⟨rfl,L5,K5⟩
  have K6:=K1.trans (K5.mono fun b hb=>.inl hb)
  clear c0 c1 c2 c3 c4 L1 K1 K5 E
  generalize w.heap.size=q at *
  have G:=zz (last_any _ B o1 st1 f w5 L5 (by omega))
  have HPOP:=zz (fun b r (h:st1=b :: r) w (hL:L (fun b=>P b∨b=q) B o1 st1 f w)=>pop_any _ B o1 b r f w (by rw [h] at hL;exact hL) (by have:=congrArg List.length h;simp at this;omega))
  unfold bv at G
  have hs:=S_list (top st1).sg
  have hfd:=fun c w=>fld0 (S (top st1).sg) c w
  generalize S (top st1).sg=s at *
  by_cases hb:(top st1).sg=[40]
  ·have HF2:Hid (F=some (st1.tail,o1)):=by show F=_;rw [HF.out];unfold popM;rw [if_pos (by rw [hb];rfl)]
   rw [hb] at hs
   obtain ⟨b,r,hst⟩:∃ b r,st1=b :: r:=by cases hx:st1 with | nil=>rw [hx] at hb;cases hb | cons b r=>exact ⟨b,r,rfl⟩
   have htl:st1.tail=r:=by rw [hst];rfl
   have HQ:=zz (HPOP.out b r hst)
   have HST:=zz hst
   clear HPOP HF hst hb
   generalize (top st1).cl=cc at *
   go_wp2_with fail
   refine G.out.mono ?_
   rintro e w2 ⟨rfl,b2⟩
   have L2:=L5.below b2
   have K2:=K6.trans (KP.of_below b2 fun b hb=>L5.lt b (.inl hb))
   go_wp2_with fail
   refine (HQ.out _ L2).mono ?_
   rintro e w3 ⟨rfl,L3,K3⟩
   go_wp2_with fail
   go_ret
   exact .inl ⟨_,HF2.out,rfl,by rw [htl];exact L3.weak fun b hb=>.inl hb,K2.trans (K3.mono fun b hb=>.inl hb)⟩
  ·have HF2:Hid (F=none):=by show F=_;rw [HF.out];unfold popM;rw [if_neg (by simpa using hb)]
   have hs2:¬ s.toList=[40]:=by rw [hs];exact hb
   have hs3:(s.toList == [40])=false:=by simpa using hs2
   clear HPOP HF hb hs
   generalize (top st1).cl=cc at *
   go_wp2_with fail
   refine G.out.mono ?_
   rintro e w2 ⟨rfl,b2⟩
   have K2:=K6.trans (KP.of_below b2 fun b hb=>L5.lt b (.inl hb))
   go_wp2_with fail
   go_ret
   exact .inr ⟨HF2.out,rfl,K2⟩
theorem TMem.kp {P:Nat→Prop} {w w':World} {p:Option Addr} {ts:List Tok} (h:TMem w p ts) (k:KP P w w') (hp:∀ b o,p=some ⟨b,o,none⟩→P b):TMem w' p ts:=by
 rcases h with rfl | ⟨b,o,rfl,hbk,hm⟩
 ·exact .inl rfl
 ·have hk:∀ x,w'.cell? ⟨b,x,none⟩=w.cell? ⟨b,x,none⟩:=fun x=>World.cell?_of_block (k.block b (hp b o rfl))
  exact .inr ⟨b,o,rfl,Nat.lt_of_lt_of_le hbk k.size,fun i t ht=>by rw [hk,hk,hk,hk,hk];exact hm i t ht⟩
def indM (t:Tok) (rest:List Tok) (st:List Blk) (o:List Tok) (f:Bool):List Blk × List Tok × Bool:=
 match rest with
 | []=>(st,(o ++ [pt1 123 t]) ++ [pt1 125 t],f)
 | n :: _=>if isK n [123] then (st,o,f) else if (top st).cl<n.co then (⟨[],n.co⟩ :: st,o ++ [pt1 123 n],true) else (st,(o ++ [pt1 123 t]) ++ [pt1 125 t],f)
def Hold2 (g og:Nat) (n:Tok) (w:World):Prop:=w.cell? ⟨g,og,none⟩=some (.int .i64 n.kd)∧w.cell? ⟨g,og+1,none⟩=some (.string (S n.tx))∧w.cell? ⟨g,og+2,none⟩=some (.int .i64 n.nu)∧w.cell? ⟨g,og+3,none⟩=some (.int .i64 n.ln)∧w.cell? ⟨g,og+4,none⟩=some (.int .i64 n.co)
theorem Hold2.below {g og m:Nat} {n:Tok} {w w':World} (h:Hold2 g og n w) (hb:Below m w w') (hg:g<m):Hold2 g og n w':=by
 have hk:∀ x,w'.cell? ⟨g,x,none⟩=w.cell? ⟨g,x,none⟩:=fun x=>hb.cell (p:=⟨g,x,none⟩) hg
 unfold Hold2;rw [hk,hk,hk,hk,hk];exact h
theorem Hold2.kp {P:Nat→Prop} {g og:Nat} {n:Tok} {w w':World} (h:Hold2 g og n w) (hb:KP P w w') (hg:P g):Hold2 g og n w':=by
 have hk:∀ x,w'.cell? ⟨g,x,none⟩=w.cell? ⟨g,x,none⟩:=fun x=>World.cell?_of_block (hb.block g hg)
 unfold Hold2;rw [hk,hk,hk,hk,hk];exact h
theorem indent_any (P:Nat→Prop) (B:Nat) (t:Tok) (rest:List Tok) (p:Option Addr) (m c:Nat) (o:List Tok) (st:List Blk) (f:Bool) (w:World) (hL:L P B o st f w) (hn:o.length+st.length≤900000) (hm:rest.length=m) (hmn:m≤1000000) (hM:TMem w p rest) (hp:∀ b o,p=some ⟨b,o,none⟩→P b) :
 Calls Tryz.prog 108 #[.pointer (some ⟨B,0,none⟩),tv t,.slice p m c] w fun e w'=>e=.returned (.tuple #[])∧L P B (indM t rest st o f).2.1 (indM t rest st o f).1 (indM t rest st o f).2.2 w'∧KP P w w':=by
 have hA:=hL.lt
 have T0:=TB.new w t
 have K0:=KP.alloc (P:=P) w (.cells #[.int .i64 t.kd,.string (S t.tx),.int .i64 t.nu,.int .i64 t.ln,.int .i64 t.co] 51) hA
 have L0:=hL.new (.cells #[.int .i64 t.kd,.string (S t.tx),.int .i64 t.nu,.int .i64 t.ln,.int .i64 t.co] 51)
 have M0:=hM.kp K0 hp
 have hq:∀ b,P b→b≠w.heap.size:=fun b hb=>Nat.ne_of_lt (hA b hb)
 have P1:=zz (fun w' h=>put_any (fun b=>P b∨b=w.heap.size) B [123] t o st f w' h (by omega))
 have P2:=zz (fun w' h=>put_any (fun b=>P b∨b=w.heap.size) B [125] t (o ++ [pt1 123 t]) st f w' h (by simp;omega))
 unfold tv at P1 P2 ⊢
 clear hL hA hM
 cases rest with
 | nil=>
  obtain rfl:m=0:=by simpa using hm.symm
  unfold indM
  obtain ⟨c0,c1,c2,c3,c4⟩:=T0.cells
  go_enter Tryz.func108,Tryz.ntmps108
  go_wp2_with fail
  go_region
  go_wp2_with fail
  refine (P1.out _ L0.drew).mono ?_
  rintro e w1 ⟨rfl,L1,K1⟩
  obtain ⟨d0,d1,d2,d3,d4⟩:=(show TB w.heap.size t w1 from (K1.block _ (.inr rfl)).trans T0).cells
  clear c0 c1 c2 c3 c4
  go_wp2_with fail
  refine (P2.out _ L1).mono ?_
  rintro e w2 ⟨rfl,L2,K2⟩
  go_wp2_with fail
  go_end0
  exact ⟨rfl,L2.weak fun b hb=>.inl hb,(K0.drew).trans ((K1.trans K2).mono fun b hb=>.inl hb)⟩
 | cons n rs=>
  have hm1:rs.length+1=m:=by simpa using hm
  have I:=zz (fun w=>is_any n [123] w)
  unfold tv at I
  rcases M0 with he | ⟨g,og,rfl,hg,hgm⟩
  ·cases he
  have Pg:=hp g og rfl
  obtain ⟨n0,n1,n2,n3,n4⟩:=hgm 0 n rfl
  simp only [Nat.zero_mul,Nat.add_zero] at n0 n1 n2 n3 n4
  clear hgm
  have HR:Hid (indM t (n :: rs) st o f=if isK n [123] then (st,o,f) else if (top st).cl<n.co then (⟨[],n.co⟩ :: st,o ++ [pt1 123 n],true) else (st,(o ++ [pt1 123 t]) ++ [pt1 125 t],f)):=rfl
  generalize indM t (n :: rs) st o f=R at *
  cases hi:isK n [123] <;> rw [hi] at I HR
  ·rw [if_neg (by decide)] at HR
   have HG:=zz (fun w' (h:L (fun b=>P b∨b=w.heap.size) B o st f w')=>last_any _ B o st f w' h (by omega))
   have hfd:=fun c w=>fld1 (S (top st).sg) c w
   unfold bv at HG
   have BG:=zz (fun w' h=>begin_any (fun b=>P b∨b=w.heap.size) B n n.co o st f w' h (by omega) (by omega))
   unfold tv at BG
   generalize S (top st).sg=s at *
   generalize (top st).cl=cc at *
   by_cases hc:cc<n.co
   ·have HR2:=HR.out
    rw [if_pos hc] at HR2
    have HR3:=zz HR2
    clear HR2 HR
    go_enter Tryz.func108,Tryz.ntmps108
    go_wp2_with fail
    refine (I.out _).mono ?_
    rintro e w1 ⟨rfl,b1⟩
    have L1:=L0.below b1
    have K1:=K0.trans (KP.of_below b1 fun b hb=>L0.lt b (.inl hb))
    have G1:Hold2 g og n w1:=Hold2.below ⟨n0,n1,n2,n3,n4⟩ b1 hg
    have e4:w1.cell? ⟨g,og+4,none⟩=some (.int .i64 n.co):=(b1.cell (p:=⟨g,og+4,none⟩) hg).trans n4
    have G2:=zz G1
    have TT:TB w.heap.size t w1:=TB.below T0 b1 (by simp)
    have TT:=zz TT
    clear G1 T0 K0 L0 n0 n1 n2 n3 n4
    go_wp2_with fail
    go_region_held3 (fun w'=>w'.cell? ⟨g,og+4,none⟩=some (.int .i64 n.co)) (first | go_keep | (exact (b2.cell (p:=⟨g,og+4,none⟩) (Nat.lt_of_lt_of_le hg b1.size)).trans e4))
     (first | (go_at_call 104;refine (HG.out _ L1.drew).mono ?_;rintro e w2 ⟨rfl,b2⟩))
    all_goals go_wp2_with fail
    all_goals
     have L2:=L1.drew.below b2
     have K2:=K1.drew.trans (KP.of_below b2 fun b hb=>L1.lt b (.inl hb))
     have G2:Hold2 g og n w2:=Hold2.below (show Hold2 g og n w1.drew from G2.out) b2 (Nat.lt_of_lt_of_le hg b1.size)
     obtain ⟨m0,m1,m2,m3,m4⟩:=G2
     go_region_held3 (fun w'=>w'.cell? ⟨g,og,none⟩=some (.int .i64 n.kd)∧w'.cell? ⟨g,og+1,none⟩=some (.string (S n.tx))∧w'.cell? ⟨g,og+2,none⟩=some (.int .i64 n.nu)∧w'.cell? ⟨g,og+3,none⟩=some (.int .i64 n.ln)∧w'.cell? ⟨g,og+4,none⟩=some (.int .i64 n.co)) (first | go_keep | (exact (show Hold2 g og n w3 from Hold2.kp (w:=w2.drew) ⟨m0,m1,m2,m3,m4⟩ K3 (Or.inl Pg))))
      (first | (go_at_call 46;refine (BG.out _ L2.drew).mono ?_;rintro e w3 ⟨rfl,L3,K3⟩))
     all_goals go_wp2_with fail
     all_goals exact bodyPost_ret (v:=.tuple #[]) (results_none (by rfl) _ _ _) rfl ⟨rfl,by rw [HR3.out];exact L3.weak fun b hb=>.inl hb,(K2.drew).trans (K3.mono fun b hb=>.inl hb)⟩
   ·have HR2:=HR.out
    rw [if_neg hc] at HR2
    have HR3:=zz HR2
    clear HR2 HR
    go_enter Tryz.func108,Tryz.ntmps108
    go_wp2_with fail
    refine (I.out _).mono ?_
    rintro e w1 ⟨rfl,b1⟩
    have L1:=L0.below b1
    have K1:=K0.trans (KP.of_below b1 fun b hb=>L0.lt b (.inl hb))
    have G1:Hold2 g og n w1:=Hold2.below ⟨n0,n1,n2,n3,n4⟩ b1 hg
    have e4:w1.cell? ⟨g,og+4,none⟩=some (.int .i64 n.co):=(b1.cell (p:=⟨g,og+4,none⟩) hg).trans n4
    have G2:=zz G1
    have TT:TB w.heap.size t w1:=TB.below T0 b1 (by simp)
    have TT:=zz TT
    clear G1 T0 K0 L0 n0 n1 n2 n3 n4
    go_wp2_with fail
    go_region_held3 (fun w'=>w'.cell? ⟨g,og+4,none⟩=some (.int .i64 n.co)) (first | go_keep | (exact (b2.cell (p:=⟨g,og+4,none⟩) (Nat.lt_of_lt_of_le hg b1.size)).trans e4))
     (first | (go_at_call 104;refine (HG.out _ L1.drew).mono ?_;rintro e w2 ⟨rfl,b2⟩))
    all_goals
     have L2:=L1.drew.below b2
     have K2:=K1.drew.trans (KP.of_below b2 fun b hb=>L1.lt b (.inl hb))
     have T2:TB w.heap.size t w2:=(b2.block _ (Hold.lt TT.out)).trans TT.out
     obtain ⟨c0,c1,c2,c3,c4⟩:=T2.cells
     go_wp2_with fail
     refine (P1.out _ L2).mono ?_
     rintro e w5 ⟨rfl,L5,K5⟩
     obtain ⟨d0,d1,d2,d3,d4⟩:=(show TB w.heap.size t w5 from Hold.kp T2 K5 (.inr rfl)).cells
     clear c0 c1 c2 c3 c4
     go_wp2_with fail
     refine (P2.out _ L5).mono ?_
     rintro e w6 ⟨rfl,L6,K6⟩
     go_wp2_with fail
     go_end0
     exact ⟨rfl,by rw [HR3.out];exact L6.weak fun b hb=>.inl hb,K2.trans ((K5.trans K6).mono fun b hb=>.inl hb)⟩
  ·rw [if_pos rfl] at HR
   go_enter Tryz.func108,Tryz.ntmps108
   go_wp2_with fail
   refine (I.out _).mono ?_
   rintro e w1 ⟨rfl,b1⟩
   go_wp2_with fail
   exact bodyPost_ret (v:=.tuple #[]) (results_none (by rfl) _ _ _) rfl ⟨rfl,by rw [HR.out];exact (L0.below b1).weak fun b hb=>.inl hb,K0.trans (KP.of_below b1 fun b hb=>L0.lt b (.inl hb))⟩
theorem LS.below {P:Nat→Prop} {B:Nat} {o:List Tok} {st:List Blk} {f:Bool} {pa:Option Addr} {ca:Nat} {po:Option Addr} {co:Nat} {w w':World} (h:LS P B o st f pa ca po co w) (hb:Below w.heap.size w w'):LS P B o st f pa ca po co w':=by
 obtain ⟨hH,hT,hO,hA⟩:=h
 refine ⟨hH.below hb hH.lt,row_keep hT fun g _ hg=>hb.block g hg,row_keep hO fun g _ hg=>hb.block g hg,fun b hP=>?_⟩
 obtain ⟨h1,h2,h3,h4⟩:=hA b hP
 exact ⟨Nat.lt_of_lt_of_le h1 hb.size,h2,h3,h4⟩
theorem LS.drew {P:Nat→Prop} {B:Nat} {o:List Tok} {st:List Blk} {f:Bool} {pa:Option Addr} {ca:Nat} {po:Option Addr} {co:Nat} {w:World} (h:LS P B o st f pa ca po co w):LS P B o st f pa ca po co w.drew:=⟨h.hold,h.told,h.opn,h.apart⟩
def behM (t:Tok) (rest:List Tok) (st:List Blk) (o:List Tok) (f:Bool):List Blk × List Tok × Bool:=
 if opensK t then (⟨t.tx,(top st).cl⟩ :: st,o,f) else if beginsK t then indM t rest st o f else (st,o,f)
theorem behind_open (P:Nat→Prop) (B:Nat) (t:Tok) (R:Value) (o:List Tok) (st:List Blk) (f:Bool) (w:World) (hL:L P B o st f w) (hn:o.length+st.length≤900000) (ht:opensK t=true) :
 Calls Tryz.prog 51 #[.pointer (some ⟨B,0,none⟩),tv t,R] w fun e w'=>e=.returned (.tuple #[])∧L P B o (⟨t.tx,(top st).cl⟩ :: st) f w'∧KP P w w':=by
 have hA:=hL.lt
 have T0:=TB.new w t
 have K0:=KP.alloc (P:=P) w (.cells #[.int .i64 t.kd,.string (S t.tx),.int .i64 t.nu,.int .i64 t.ln,.int .i64 t.co] 51) hA
 have L0:=hL.new (.cells #[.int .i64 t.kd,.string (S t.tx),.int .i64 t.nu,.int .i64 t.ln,.int .i64 t.co] 51)
 have O:=zz (fun w=>opens_any t w)
 rw [ht] at O
 have HG:=zz (fun w' (h:L (fun b=>P b∨b=w.heap.size) B o st f w')=>last_any _ B o st f w' h (by omega))
 have hfd:=fun c w=>fld1 (S (top st).sg) c w
 unfold bv at HG
 unfold tv at O ⊢
 generalize S (top st).sg=s at *
 generalize (top st).cl=cc at *
 obtain ⟨i0,hi,hz0,hz1,hz2⟩:=info_parts info78
 clear hL
 go_enter Tryz.func51,Tryz.ntmps51
 go_wp2_with fail
 refine (O.out _).mono ?_
 rintro e w1 ⟨rfl,b1⟩
 have L1:=L0.below b1
 have K1:=K0.trans (KP.of_below b1 fun b hb=>L0.lt b (.inl hb))
 have T1:TB w.heap.size t w1:=TB.below T0 b1 (by simp)
 clear T0 K0 L0 b1 O
 generalize w.heap.size=q at *
 obtain ⟨pa,ca,po,co,hS⟩:=L1
 have c1:w1.cell? ⟨B,1,none⟩=some (.slice po st.length co):=hS.hold.cell 1
 have x1:w1.cell? ⟨q,1,none⟩=some (.string (S t.tx)):=Hold.cell T1 1
 have nB:(Value.slice po st.length co).ownBlock≠some B:=Ne.symm (row_ne hS.hold hS.opn (by decide))
 have nq:(Value.slice po st.length co).ownBlock≠some q:=Ne.symm (hS.apart q (.inr rfl)).2.2.2
 have nqB:q≠B:=(hS.apart q (.inr rfl)).2.1
 have HS:=zz hS
 have HT:=zz T1
 clear hS T1
 go_wp2_with fail
 have c1b:w1.drew.cell? ⟨B,1,none⟩=some (.slice po st.length co):=c1
 go_region_law (first
  | (refine step_append_lies _ (by rfl) _ _ _ (by rfl) 0 146 i0 _ 2 24 Tryz.underlying87 hi hz0 hz1 hz2 rfl (by omega) (.slice po st.length co) st.length (bcs st.reverse) (by rfl) (S2.out.opn.alloc _) ⟨w2.heap.size,0,none⟩ 1 1 [.string (S t.tx),.int .i64 cc] (by rfl) (by rfl) (World.news_of_block (cs:=#[.string (S t.tx),.int .i64 cc]) (t:=146) (fr:=(0,0)) (heap_alloc_new w2 _)) (by simp [Value.oneCell']) (by omega) (by unfold maxLen;omega) (by omega) (by simp) (w2.heap.size+1) (by simp) ?_;intro gg cap w3 hown1 hgrow hat hlt2;have HB2:Hold B #[.slice pa o.length ca,.slice po st.length co,.bool f] 89 w3:=(hgrow.block B (Hold.lt (S2.out.hold.alloc _)) (Ne.symm nB)).trans (S2.out.hold.alloc _);have d0:w3.cell? ⟨B,1,none⟩=some (.slice po st.length co):=HB2.cell 1;have d1:=HB2.frozen 1;clear HB2)
  | (go_simp;go_wp2_with (go_at_call 104;refine (HG.out _ ⟨pa,ca,po,co,HS.out.drew⟩).mono ?_;rintro e w2 ⟨rfl,b2⟩;have S2:=zz (HS.out.drew.below b2);have c2:w2.cell? ⟨B,1,none⟩=some (.slice po st.length co):=S2.out.hold.cell 1;have c3:∀ x:Obj,(w2.alloc x).cell? ⟨B,1,none⟩=some (.slice po st.length co):=fun x=>(S2.out.hold.alloc x).cell 1;have x2:w2.cell? ⟨q,1,none⟩=some (.string (S t.tx)):=Hold.cell ((b2.block _ (Hold.lt HT.out)).trans HT.out) 1;have x5:∀ x:Obj,(w2.alloc x).cell? ⟨q,1,none⟩=some (.string (S t.tx)):=fun x=>Hold.cell (Hold.alloc ((b2.block _ (Hold.lt HT.out)).trans HT.out) x) 1)))
 all_goals go_wp2_with fail
 all_goals
  go_end0
  have k:=S2.out.push ((Below.refl _ w2).alloc (Nat.le_refl _) _) ⟨t.tx,cc⟩ hown1 hgrow hat (by omega)
  have K2:=(K1.drew).trans (KP.of_below b2 fun b hb=>(HS.out.apart b (.inl hb)).1)
  exact ⟨rfl,k.1.weak fun b hb=>.inl hb,K2.trans (k.2.mono fun b hb=>.inl hb)⟩
theorem behind_any (P:Nat→Prop) (B:Nat) (t:Tok) (rest:List Tok) (p:Option Addr) (m c:Nat) (o:List Tok) (st:List Blk) (f:Bool) (w:World) (hL:L P B o st f w) (hn:o.length+st.length≤900000) (hm:rest.length=m) (hmn:m≤1000000) (hM:TMem w p rest) (hp:∀ b o,p=some ⟨b,o,none⟩→P b) :
 Calls Tryz.prog 51 #[.pointer (some ⟨B,0,none⟩),tv t,.slice p m c] w fun e w'=>e=.returned (.tuple #[])∧L P B (behM t rest st o f).2.1 (behM t rest st o f).1 (behM t rest st o f).2.2 w'∧KP P w w':=by
 unfold behM
 cases ht:opensK t
 ·rw [if_neg (by decide)]
  have hA:=hL.lt
  have T0:=TB.new w t
  have K0:=KP.alloc (P:=P) w (.cells #[.int .i64 t.kd,.string (S t.tx),.int .i64 t.nu,.int .i64 t.ln,.int .i64 t.co] 51) hA
  have L0:=hL.new (.cells #[.int .i64 t.kd,.string (S t.tx),.int .i64 t.nu,.int .i64 t.ln,.int .i64 t.co] 51)
  have M0:=hM.kp K0 hp
  have O:=zz (fun w=>opens_any t w)
  have E:=zz (fun w=>begins_any t w)
  have I:=zz (fun w' h hM=>indent_any (fun b=>P b∨b=w.heap.size) B t rest p m c o st f w' h hn hm hmn hM (fun b o h=>.inl (hp b o h)))
  rw [ht] at O
  unfold tv at O E I ⊢
  clear hL
  cases hb:beginsK t
  ·rw [hb] at E
   rw [if_neg (by decide)]
   go_enter Tryz.func51,Tryz.ntmps51
   go_wp2_with fail
   refine (O.out _).mono ?_
   rintro e w1 ⟨rfl,b1⟩
   have L1:=L0.below b1
   have K1:=K0.trans (KP.of_below b1 fun b hb=>L0.lt b (.inl hb))
   obtain ⟨c0,c1,c2,c3,c4⟩:=(TB.below T0 b1 (by simp)).cells
   go_wp2_with fail
   refine (E.out _).mono ?_
   rintro e w2 ⟨rfl,b2⟩
   go_wp2_with fail
   go_end0
   exact ⟨rfl,(L1.below b2).weak fun b hb=>.inl hb,K1.trans (KP.of_below b2 fun b hb=>L1.lt b (.inl hb))⟩
  ·rw [hb] at E
   rw [if_pos rfl]
   go_enter Tryz.func51,Tryz.ntmps51
   go_wp2_with fail
   refine (O.out _).mono ?_
   rintro e w1 ⟨rfl,b1⟩
   have L1:=L0.below b1
   have K1:=K0.trans (KP.of_below b1 fun b hb=>L0.lt b (.inl hb))
   have T1:=TB.below T0 b1 (by simp)
   have M1:=M0.below (Nat.le_refl _) b1
   obtain ⟨c0,c1,c2,c3,c4⟩:=T1.cells
   go_wp2_with fail
   refine (E.out _).mono ?_
   rintro e w2 ⟨rfl,b2⟩
   have L2:=L1.below b2
   have K2:=K1.trans (KP.of_below b2 fun b hb=>L1.lt b (.inl hb))
   have M2:=M1.below (Nat.le_refl _) b2
   obtain ⟨d0,d1,d2,d3,d4⟩:=(TB.below T1 b2 (Hold.lt T1)).cells
   clear c0 c1 c2 c3 c4
   go_wp2_with fail
   refine (I.out _ L2 M2).mono ?_
   rintro e w3 ⟨rfl,L3,K3⟩
   go_wp2_with fail
   go_end0
   exact ⟨rfl,L3.weak fun b hb=>.inl hb,K2.trans (K3.mono fun b hb=>.inl hb)⟩
 ·rw [if_pos rfl]
  exact behind_open P B t _ o st f w hL hn ht
theorem wrong_any (t:Tok) (w:World):Calls Tryz.prog 50 #[tv t] w fun e w'=>e=.returned (.tuple #[.slice none 0 0,.agg #[.int .i64 t.ln,.int .i64 t.co],.int .i64 30])∧Below w.heap.size w w':=by
 have T0:=TB.new w t
 have T1:TB w.heap.size t ((w.alloc (.cells #[.int .i64 t.kd,.string (S t.tx),.int .i64 t.nu,.int .i64 t.ln,.int .i64 t.co] 51)).alloc (.cells #[.int .i64 0,.int .i64 0] 29)):=Hold.alloc T0 _
 have P1:=Hold.new (w.alloc (.cells #[.int .i64 t.kd,.string (S t.tx),.int .i64 t.nu,.int .i64 t.ln,.int .i64 t.co] 51)) #[.int .i64 0,.int .i64 0] 29
 have B1:Below w.heap.size w ((w.alloc (.cells #[.int .i64 t.kd,.string (S t.tx),.int .i64 t.nu,.int .i64 t.ln,.int .i64 t.co] 51)).alloc (.cells #[.int .i64 0,.int .i64 0] 29)):=((Below.refl _ w).alloc (Nat.le_refl _) _).alloc (by simp) _
 rw [World.size_alloc] at P1
 obtain ⟨c0,c1,c2,c3,c4⟩:=T1.cells
 have p0:((w.alloc (.cells #[.int .i64 t.kd,.string (S t.tx),.int .i64 t.nu,.int .i64 t.ln,.int .i64 t.co] 51)).alloc (.cells #[.int .i64 0,.int .i64 0] 29)).cell? ⟨w.heap.size+1,0,none⟩=some (.int .i64 0):=P1.cell 0
 have p1:((w.alloc (.cells #[.int .i64 t.kd,.string (S t.tx),.int .i64 t.nu,.int .i64 t.ln,.int .i64 t.co] 51)).alloc (.cells #[.int .i64 0,.int .i64 0] 29)).cell? ⟨w.heap.size+1,1,none⟩=some (.int .i64 0):=P1.cell 1
 have f0:=P1.frozen 0
 have f1:=P1.frozen 1
 unfold tv
 go_enter Tryz.func50,Tryz.ntmps50
 go_wp2_with fail
 clear T0 T1 P1
 generalize ((w.alloc (.cells #[.int .i64 t.kd,.string (S t.tx),.int .i64 t.nu,.int .i64 t.ln,.int .i64 t.co] 51)).alloc (.cells #[.int .i64 0,.int .i64 0] 29))=W at *
 go_region
 all_goals go_wp2_with fail
 all_goals exact bodyPost_ret (v:=.tuple #[.slice none 0 0,.agg #[.int .i64 t.ln,.int .i64 t.co],.int .i64 30]) (by simp only [results,Tryz.results50];go_simp) rfl ⟨rfl,((B1.setCell (by simp) _).setCell (by simp) _).trans ⟨rfl,rfl,rfl,Nat.le_refl _,fun _ _=>rfl⟩⟩
end Go.Proofs.YtcnnlecjdkfdjaaGreatDoor.Ly
