/- Parts of the proof. -/
import Derived.Test.YtcnnlecjdkfdjaaGreatDoorContains
import Derived.RangeFuncNested
import Derived.RangeFuncBound
import Derived.Shelf.RegionOpen
import Derived.OwnWalkIn
import Derived.LoopNIn
import Derived.LoopIn
set_option linter.unusedVariables false
set_option linter.unusedSimpArgs false
set_option maxRecDepth 100000
set_option maxHeartbeats 8000000
namespace Go.Proofs.YtcnnlecjdkfdjaaGreatDoor
open Go.RowKit
def plM (l:List Tk) (n:Nat):Int × Int:=if l.length=0 then (0,0) else ((tkAt l (min n (l.length - 1))).ln,(tkAt l (min n (l.length - 1))).co)
theorem place_any {P:Nat→Prop} {w:World} {B tn tc tk k:Nat} {tp:Option Addr} {vr ve vs vf vd vp:Value} {l:List Tk} (hB:Hold B (psC tp tn tc tk vr ve vs vf vd vp) 63 w) (hP:∀ b,P b→b<w.heap.size) (hn:l.length=tn) (hK:KM P w tp l) (hm:tn≤1000000) (hk:k≤1000000) :
 Calls Tryz.prog 27 #[.pointer (some ⟨B,0,none⟩),.int .i64 k] w fun r w'=>r=.returned (.agg #[.int .i64 (plM l k).1,.int .i64 (plM l k).2])∧Below w.heap.size w w':=by
 have HB0:Hid (Below w.heap.size w (w.alloc (.cells #[.int .i64 0,.int .i64 0] 29))):=(Below.refl _ w).alloc (Nat.le_refl _) _
 have c0:=(hB.alloc (.cells #[.int .i64 0,.int .i64 0] 29)).cell 0
 simp only [lGA,lGS,lGZ] at c0
 by_cases h0:tn=0
 ·subst h0
  have HR:Hid (plM l k=(0,0)):=by show plM l k=_;unfold plM;rw [if_pos hn]
  clear hK hn
  go_enter Tryz.func27,Tryz.ntmps27
  go_wp2_with fail
  refine bodyPost_ret (v:=.agg #[.int .i64 0,.int .i64 0]) (by simp [results,Tryz.results27,go_sem]) rfl ⟨by rw [HR.out],HB0.out⟩
 ·have h1:((tn:Int) == 0)=false:=by simp;omega
  obtain ⟨i,hi⟩:∃ i,i=min k (tn - 1):=⟨_,rfl⟩
  have hil:i<l.length:=by omega
  have HR:Hid (plM l k=(l[i].ln,l[i].co)):=by show plM l k=_;unfold plM;rw [if_neg (by omega),hn,← hi,tkAt];simp [List.getD,List.getElem?_eq_getElem hil]
  rcases hK with he | ⟨b,o,rfl,hPb,hma⟩
  ·rw [he] at hil;simp at hil
  obtain ⟨ds,_,h2,rfl,hz⟩:=hma i l[i] (by simp)
  have hbl:=hP b hPb
  have a0:=(HB0.out.cell (p:=⟨b,o+i * 5,none⟩) hbl).trans (h2 0 _ rfl)
  have a1:=(HB0.out.cell (p:=⟨b,o+i * 5+1,none⟩) hbl).trans (h2 1 _ rfl)
  have a2:=(HB0.out.cell (p:=⟨b,o+i * 5+2,none⟩) hbl).trans (h2 2 _ rfl)
  have a3:=(HB0.out.cell (p:=⟨b,o+i * 5+3,none⟩) hbl).trans (h2 3 _ rfl)
  have a4:=(HB0.out.cell (p:=⟨b,o+i * 5+4,none⟩) hbl).trans (h2 4 _ rfl)
  generalize l[i]=t at *
  have hmin:min (k:Int) ((tn:Int) - 1)=(i:Int):=by omega
  have hlt:(i:Int)<tn:=by omega
  clear h2 hma hn hi hz hil
  have hwr:IntKind.i64.wrap ((tn:Int) - 1)=(tn:Int) - 1:=wrap_i (by omega) (by omega)
  have hmin2:(if (tn:Int) - 1<(k:Int) then (tn:Int) - 1 else (k:Int))=(i:Int):=by split <;> omega
  have hz0:(0:Int)≤(i:Int):=by omega
  have hzn:((i:Int)).toNat=i:=by omega
  clear hmin
  go_enter Tryz.func27,Tryz.ntmps27
  go_wp2_with fail
  refine region_J 16 (N:=15) (S:=(fun W':World=>W'.cell? ⟨B,0,none⟩=some (.slice (some ⟨b,o,none⟩) tn tc)∧W'.cell? ⟨b,o+i * 5,none⟩=some (.int .i64 t.kd)∧W'.cell? ⟨b,o+i * 5+1,none⟩=some (.string (S t.tx))∧W'.cell? ⟨b,o+i * 5+2,none⟩=some (.int .i64 t.nu)∧W'.cell? ⟨b,o+i * 5+3,none⟩=some (.int .i64 t.ln)∧W'.cell? ⟨b,o+i * 5+4,none⟩=some (.int .i64 t.co))) (by kernel_rfl) (by kernel_rfl) ?_
  have hS:(fun W':World=>W'.cell? ⟨B,0,none⟩=some (.slice (some ⟨b,o,none⟩) tn tc)∧W'.cell? ⟨b,o+i * 5,none⟩=some (.int .i64 t.kd)∧W'.cell? ⟨b,o+i * 5+1,none⟩=some (.string (S t.tx))∧W'.cell? ⟨b,o+i * 5+2,none⟩=some (.int .i64 t.nu)∧W'.cell? ⟨b,o+i * 5+3,none⟩=some (.int .i64 t.ln)∧W'.cell? ⟨b,o+i * 5+4,none⟩=some (.int .i64 t.co)) (w.alloc (.cells #[.int .i64 0,.int .i64 0] 29)).drew:=⟨c0,a0,a1,a2,a3,a4⟩
  refine take_E 0 13 (.pointer (some ⟨B,0,none⟩)) rfl (Or.inl ⟨by rfl,fun W' hW=>by obtain ⟨s0,s1,s2,s3,s4,s5⟩:=hW;first | (go_simp;done) | (go_simp;exact hwr) | (go_simp;rw [hmin2];done) | (go_simp;rw [if_pos hz0];done) | (go_simp;rw [if_pos ⟨hz0,hlt⟩,hzn];done) | (go_simp;rw [if_pos hz0,hzn];done) | (go_simp;rw [hzn];done)⟩) hS ?_
  refine take_E 1 14 (.pointer (some ⟨B,0,none⟩)) rfl (Or.inl ⟨by rfl,fun W' hW=>by obtain ⟨s0,s1,s2,s3,s4,s5⟩:=hW;first | (go_simp;done) | (go_simp;exact hwr) | (go_simp;rw [hmin2];done) | (go_simp;rw [if_pos hz0];done) | (go_simp;rw [if_pos ⟨hz0,hlt⟩,hzn];done) | (go_simp;rw [if_pos hz0,hzn];done) | (go_simp;rw [hzn];done)⟩) hS ?_
  refine take_E 2 15 (.pointer (some ⟨B,0,none⟩)) rfl (Or.inl ⟨by rfl,fun W' hW=>by obtain ⟨s0,s1,s2,s3,s4,s5⟩:=hW;first | (go_simp;done) | (go_simp;exact hwr) | (go_simp;rw [hmin2];done) | (go_simp;rw [if_pos hz0];done) | (go_simp;rw [if_pos ⟨hz0,hlt⟩,hzn];done) | (go_simp;rw [if_pos hz0,hzn];done) | (go_simp;rw [hzn];done)⟩) hS ?_
  refine take_E 3 16 (.slice (some ⟨b,o,none⟩) tn tc) rfl (Or.inl ⟨by rfl,fun W' hW=>by obtain ⟨s0,s1,s2,s3,s4,s5⟩:=hW;first | (go_simp;done) | (go_simp;exact hwr) | (go_simp;rw [hmin2];done) | (go_simp;rw [if_pos hz0];done) | (go_simp;rw [if_pos ⟨hz0,hlt⟩,hzn];done) | (go_simp;rw [if_pos hz0,hzn];done) | (go_simp;rw [hzn];done)⟩) hS ?_
  refine take_E 4 17 (.int .i64 k) rfl (Or.inl ⟨by rfl,fun W' hW=>by obtain ⟨s0,s1,s2,s3,s4,s5⟩:=hW;first | (go_simp;done) | (go_simp;exact hwr) | (go_simp;rw [hmin2];done) | (go_simp;rw [if_pos hz0];done) | (go_simp;rw [if_pos ⟨hz0,hlt⟩,hzn];done) | (go_simp;rw [if_pos hz0,hzn];done) | (go_simp;rw [hzn];done)⟩) hS ?_
  refine take_E 5 18 (.pointer (some ⟨B,0,none⟩)) rfl (Or.inl ⟨by rfl,fun W' hW=>by obtain ⟨s0,s1,s2,s3,s4,s5⟩:=hW;first | (go_simp;done) | (go_simp;exact hwr) | (go_simp;rw [hmin2];done) | (go_simp;rw [if_pos hz0];done) | (go_simp;rw [if_pos ⟨hz0,hlt⟩,hzn];done) | (go_simp;rw [if_pos hz0,hzn];done) | (go_simp;rw [hzn];done)⟩) hS ?_
  refine take_E 6 19 (.pointer (some ⟨B,0,none⟩)) rfl (Or.inl ⟨by rfl,fun W' hW=>by obtain ⟨s0,s1,s2,s3,s4,s5⟩:=hW;first | (go_simp;done) | (go_simp;exact hwr) | (go_simp;rw [hmin2];done) | (go_simp;rw [if_pos hz0];done) | (go_simp;rw [if_pos ⟨hz0,hlt⟩,hzn];done) | (go_simp;rw [if_pos hz0,hzn];done) | (go_simp;rw [hzn];done)⟩) hS ?_
  refine take_E 7 20 (.pointer (some ⟨B,0,none⟩)) rfl (Or.inl ⟨by rfl,fun W' hW=>by obtain ⟨s0,s1,s2,s3,s4,s5⟩:=hW;first | (go_simp;done) | (go_simp;exact hwr) | (go_simp;rw [hmin2];done) | (go_simp;rw [if_pos hz0];done) | (go_simp;rw [if_pos ⟨hz0,hlt⟩,hzn];done) | (go_simp;rw [if_pos hz0,hzn];done) | (go_simp;rw [hzn];done)⟩) hS ?_
  refine take_E 8 21 (.slice (some ⟨b,o,none⟩) tn tc) rfl (Or.inl ⟨by rfl,fun W' hW=>by obtain ⟨s0,s1,s2,s3,s4,s5⟩:=hW;first | (go_simp;done) | (go_simp;exact hwr) | (go_simp;rw [hmin2];done) | (go_simp;rw [if_pos hz0];done) | (go_simp;rw [if_pos ⟨hz0,hlt⟩,hzn];done) | (go_simp;rw [if_pos hz0,hzn];done) | (go_simp;rw [hzn];done)⟩) hS ?_
  refine take_E 9 22 (.int .i64 tn) rfl (Or.inl ⟨by rfl,fun W' hW=>by obtain ⟨s0,s1,s2,s3,s4,s5⟩:=hW;first | (go_simp;done) | (go_simp;exact hwr) | (go_simp;rw [hmin2];done) | (go_simp;rw [if_pos hz0];done) | (go_simp;rw [if_pos ⟨hz0,hlt⟩,hzn];done) | (go_simp;rw [if_pos hz0,hzn];done) | (go_simp;rw [hzn];done)⟩) hS ?_
  refine take_E 10 23 (.int .i64 ((tn:Int) - 1)) rfl (Or.inl ⟨by rfl,fun W' hW=>by obtain ⟨s0,s1,s2,s3,s4,s5⟩:=hW;first | (go_simp;done) | (go_simp;exact hwr) | (go_simp;rw [hmin2];done) | (go_simp;rw [if_pos hz0];done) | (go_simp;rw [if_pos ⟨hz0,hlt⟩,hzn];done) | (go_simp;rw [if_pos hz0,hzn];done) | (go_simp;rw [hzn];done)⟩) hS ?_
  refine take_E 11 24 (.int .i64 i) rfl (Or.inl ⟨by rfl,fun W' hW=>by obtain ⟨s0,s1,s2,s3,s4,s5⟩:=hW;first | (go_simp;done) | (go_simp;exact hwr) | (go_simp;rw [hmin2];done) | (go_simp;rw [if_pos hz0];done) | (go_simp;rw [if_pos ⟨hz0,hlt⟩,hzn];done) | (go_simp;rw [if_pos hz0,hzn];done) | (go_simp;rw [hzn];done)⟩) hS ?_
  refine take_E 12 25 (.pointer (some ⟨b,o+i * 5,none⟩)) rfl (Or.inl ⟨by rfl,fun W' hW=>by obtain ⟨s0,s1,s2,s3,s4,s5⟩:=hW;first | (go_simp;done) | (go_simp;exact hwr) | (go_simp;rw [hmin2];done) | (go_simp;rw [if_pos hz0];done) | (go_simp;rw [if_pos ⟨hz0,hlt⟩,hzn];done) | (go_simp;rw [if_pos hz0,hzn];done) | (go_simp;rw [hzn];done)⟩) hS ?_
  refine take_E 13 26 (.agg #[.int .i64 t.kd,.string (S t.tx),.int .i64 t.nu,.int .i64 t.ln,.int .i64 t.co]) rfl (Or.inl ⟨by rfl,fun W' hW=>by obtain ⟨s0,s1,s2,s3,s4,s5⟩:=hW;first | (go_simp;done) | (go_simp;exact hwr) | (go_simp;rw [hmin2];done) | (go_simp;rw [if_pos hz0];done) | (go_simp;rw [if_pos ⟨hz0,hlt⟩,hzn];done) | (go_simp;rw [if_pos hz0,hzn];done) | (go_simp;rw [hzn];done)⟩) hS ?_
  simp only [Act.put,lSI,lSZ,lSS]
  refine ready_1 14 (op_E fun K hK=>?_)
  go_simp
  have HW:=zz (Hold.new (w.alloc (.cells #[.int .i64 0,.int .i64 0] 29)) #[.int .i64 0,.string ⟨#[]⟩,.int .i64 0,.int .i64 0,.int .i64 0] 51)
  have hb2:Below (w.heap.size+1) (w.alloc (.cells #[.int .i64 0,.int .i64 0] 29)) ((w.alloc (.cells #[.int .i64 0,.int .i64 0] 29)).alloc (.cells #[.int .i64 0,.string ⟨#[]⟩,.int .i64 0,.int .i64 0,.int .i64 0] 51)):=(Below.refl _ _).alloc (by simp) _
  have HB2:Hid (Below w.heap.size w ((w.alloc (.cells #[.int .i64 0,.int .i64 0] 29)).alloc (.cells #[.int .i64 0,.string ⟨#[]⟩,.int .i64 0,.int .i64 0,.int .i64 0] 51))):=HB0.out.trans (hb2.mono (by omega))
  have HR2:=zz ((Hold.new w #[.int .i64 0,.int .i64 0] 29).alloc (.cells #[.int .i64 0,.string ⟨#[]⟩,.int .i64 0,.int .i64 0,.int .i64 0] 51))
  have hbn:w.heap.size+1=(w.alloc (.cells #[.int .i64 0,.int .i64 0] 29)).heap.size:=by simp
  rw [← hbn] at HW
  have hBn:B<w.heap.size:=hB.lt
  have g0:=((hB.alloc (.cells #[.int .i64 0,.int .i64 0] 29)).alloc (.cells #[.int .i64 0,.string ⟨#[]⟩,.int .i64 0,.int .i64 0,.int .i64 0] 51)).cell 0
  simp only [lGA,lGZ] at g0
  have kc:∀ x,((w.alloc (.cells #[.int .i64 0,.int .i64 0] 29)).alloc (.cells #[.int .i64 0,.string ⟨#[]⟩,.int .i64 0,.int .i64 0,.int .i64 0] 51)).cell? ⟨b,x,none⟩=(w.alloc (.cells #[.int .i64 0,.int .i64 0] 29)).cell? ⟨b,x,none⟩:=fun x=>hb2.cell (p:=⟨b,x,none⟩) (by show b<w.heap.size+1;omega)
  refine hK _ _ ⟨fun _=>⟨g0,(kc _).trans a0,(kc _).trans a1,(kc _).trans a2,(kc _).trans a3,(kc _).trans a4⟩,?_⟩
  clear hK K hb2 kc hbn
  generalize (w.alloc (.cells #[.int .i64 0,.int .i64 0] 29)).alloc (.cells #[.int .i64 0,.string ⟨#[]⟩,.int .i64 0,.int .i64 0,.int .i64 0] 51)=W2 at *
  refine ready_1 15 (op_E fun K hK=>?_)
  have z0:=HW.out.frozen 0
  have z1:=HW.out.frozen 1
  have z2:=HW.out.frozen 2
  have z3:=HW.out.frozen 3
  have z4:=HW.out.frozen 4
  have y0:=HW.out.cell 0
  have y1:=HW.out.cell 1
  have y2:=HW.out.cell 2
  have y3:=HW.out.cell 3
  have y4:=HW.out.cell 4
  simp only [lGA,lGS,lGZ] at y0 y1 y2 y3 y4
  go_simp
  refine hK _ _ ⟨fun h=>absurd h (by omega),?_⟩
  clear hK K
  refine done_J (by kernel_rfl) ?_ _
  have HW3:Hid (Hold (w.heap.size+1) #[.int .i64 t.kd,.string (S t.tx),.int .i64 t.nu,.int .i64 t.ln,.int .i64 t.co] 51 (((((W2.setCell ⟨w.heap.size+1,0,none⟩ (.int .i64 t.kd)).setCell ⟨w.heap.size+1,1,none⟩ (.string (S t.tx))).setCell ⟨w.heap.size+1,2,none⟩ (.int .i64 t.nu)).setCell ⟨w.heap.size+1,3,none⟩ (.int .i64 t.ln)).setCell ⟨w.heap.size+1,4,none⟩ (.int .i64 t.co))):=((((HW.out.set 0 _).set 1 _).set 2 _).set 3 _).set 4 _
  have hne:w.heap.size≠w.heap.size+1:=by omega
  have HR3:Hid (Hold w.heap.size #[.int .i64 0,.int .i64 0] 29 (((((W2.setCell ⟨w.heap.size+1,0,none⟩ (.int .i64 t.kd)).setCell ⟨w.heap.size+1,1,none⟩ (.string (S t.tx))).setCell ⟨w.heap.size+1,2,none⟩ (.int .i64 t.nu)).setCell ⟨w.heap.size+1,3,none⟩ (.int .i64 t.ln)).setCell ⟨w.heap.size+1,4,none⟩ (.int .i64 t.co))):=((((HR2.out.other hne _ _).other hne _ _).other hne _ _).other hne _ _).other hne _ _
  have HB3:Hid (Below w.heap.size w (((((W2.setCell ⟨w.heap.size+1,0,none⟩ (.int .i64 t.kd)).setCell ⟨w.heap.size+1,1,none⟩ (.string (S t.tx))).setCell ⟨w.heap.size+1,2,none⟩ (.int .i64 t.nu)).setCell ⟨w.heap.size+1,3,none⟩ (.int .i64 t.ln)).setCell ⟨w.heap.size+1,4,none⟩ (.int .i64 t.co))):=((((HB2.out.setCell (by show w.heap.size≤w.heap.size+1;omega) _).setCell (by show w.heap.size≤w.heap.size+1;omega) _).setCell (by show w.heap.size≤w.heap.size+1;omega) _).setCell (by show w.heap.size≤w.heap.size+1;omega) _).setCell (by show w.heap.size≤w.heap.size+1;omega) _
  clear z0 z1 z2 z3 z4 y0 y1 y2 y3 y4 g0 hS c0 a0 a1 a2 a3 a4
  generalize (((((W2.setCell ⟨w.heap.size+1,0,none⟩ (.int .i64 t.kd)).setCell ⟨w.heap.size+1,1,none⟩ (.string (S t.tx))).setCell ⟨w.heap.size+1,2,none⟩ (.int .i64 t.nu)).setCell ⟨w.heap.size+1,3,none⟩ (.int .i64 t.ln)).setCell ⟨w.heap.size+1,4,none⟩ (.int .i64 t.co))=W3 at *
  have y3:=HW3.out.cell 3
  have y4:=HW3.out.cell 4
  have x0:=HR3.out.cell 0
  have x1:=HR3.out.cell 1
  have x2:=HR3.out.frozen 0
  have x3:=HR3.out.frozen 1
  simp only [lGA,lGS,lGZ] at y3 y4 x0 x1
  go_wp2_with fail
  have hr4:=(HR3.out.set 0 (.int .i64 t.ln)).set 1 (.int .i64 t.co)
  have q0:=hr4.cell 0
  have q1:=hr4.cell 1
  simp only [lGA,lGS,lGZ,lSI,lSZ,lSS] at q0 q1
  have hb4:=(HB3.out.setCell (p:=⟨w.heap.size,0,none⟩) (Nat.le_refl _) (.int .i64 t.ln)).setCell (p:=⟨w.heap.size,1,none⟩) (Nat.le_refl _) (.int .i64 t.co)
  refine bodyPost_ret (v:=.agg #[.int .i64 t.ln,.int .i64 t.co]) (by simp [results,Tryz.results27,go_sem,q0,q1]) rfl ⟨by rw [HR.out],⟨hb4.os,hb4.tape,hb4.output,hb4.size,hb4.block⟩⟩
def isOp (l:List UInt8):Bool:=l == [43] || l == [45] || l == [42] || l == [47]
def isCmp (l:List UInt8):Bool:=l == [61,61] || l == [60]
def cs5 (e:Tr) (pn:Option Addr) (cn:Nat) (pk:Option Addr) (ck:Nat):Array Value:=#[.int .i64 e.kd,.string (S e.nm),.int .i64 e.nu,.slice pn e.ns.length cn,.slice pk e.ks.length ck]
def hasNumM (e:Tr):Bool:=decide (e.nu=0) || (decide (e.kd=1) && decide (0<e.nu))
def hasNameM (e:Tr):Bool:=if e.kd=2 then nm e.nm else if e.kd=3∨e.kd=8 then cn e.nm else if e.kd=9 then isOp e.nm || isCmp e.nm else e.nm == []
def hasKidsM (e:Tr):Bool:=if e.kd=10 then decide (e.ks.length=3) else if e.kd=5∨e.kd=6∨e.kd=9 then decide (e.ks.length=2) else if e.kd=4∨e.kd=8∨e.kd=13 then decide (e.ks.length=1) else if e.kd=1∨e.kd=2∨e.kd=3 then decide (e.ks.length=0) else if e.kd=7 then decide (1<e.ks.length) else if e.kd=11∨e.kd=12 then decide (0<e.ks.length) else false
theorem is_anyP (l:List UInt8) (w:World):Calls Tryz.prog 216 #[.string (S l)] w fun e w'=>e=.returned (.tuple #[.bool (isOp l),.bool (isCmp l)])∧w'=w:=by
 have hl:=S_list l
 unfold isOp isCmp
 generalize S l=s at *
 subst hl
 go_enter Tryz.func216,Tryz.ntmps216
 go_wp2
 all_goals first | (exfalso;simp_all;done) | skip
 all_goals go_ret2
 all_goals exact ⟨by simp_all,rfl⟩
theorem isDo_any (e:Tr) (pn:Option Addr) (cn:Nat) (pk:Option Addr) (ck:Nat) (w:World):Calls Tryz.prog 217 #[.agg (cs5 e pn cn pk ck)] w fun r w'=>r=.returned (.bool (e.kd == 11 || e.kd == 12))∧w'=w.alloc (.cells (cs5 e pn cn pk ck) 27):=by
 unfold cs5
 by_cases h:e.kd=11
 ·go_enter Tryz.func217,Tryz.ntmps217
  go_wp2_with fail
  go_ret
  exact ⟨by simp [h],by simp [h]⟩
 ·go_enter Tryz.func217,Tryz.ntmps217
  go_wp2_with fail
  go_ret
  exact ⟨by simp [h],rfl⟩
theorem hasNum_any (e:Tr) (pn:Option Addr) (cn:Nat) (pk:Option Addr) (ck:Nat) (w:World):Calls Tryz.prog 182 #[.agg (cs5 e pn cn pk ck)] w fun r w'=>r=.returned (.bool (hasNumM e))∧w'=w.alloc (.cells (cs5 e pn cn pk ck) 27):=by
 unfold cs5 hasNumM
 by_cases h:e.nu=0
 ·go_enter Tryz.func182,Tryz.ntmps182
  go_wp2_with fail
  go_ret
  exact ⟨by simp [h],by simp [h]⟩
 ·by_cases h1:e.kd=1
  ·go_enter Tryz.func182,Tryz.ntmps182
   go_wp2_with fail
   go_ret
   exact ⟨by simp [h,h1],by simp [h1]⟩
  ·go_enter Tryz.func182,Tryz.ntmps182
   go_wp2_with fail
   go_ret
   exact ⟨by simp [h,h1],rfl⟩
theorem hasName_any (e:Tr) (pn:Option Addr) (cn:Nat) (pk:Option Addr) (ck:Nat) (w:World) (hl:e.nm.length≤281474976710656):Calls Tryz.prog 183 #[.agg (cs5 e pn cn pk ck)] w fun r w'=>r=.returned (.bool (hasNameM e))∧w'=w.alloc (.cells (cs5 e pn cn pk ck) 27):=by
 unfold cs5 hasNameM
 obtain ⟨kd,nm',nu,ns,ks⟩:=e
 simp only at *
 by_cases h2:kd=2
 ·subst h2
  go_enter Tryz.func183,Tryz.ntmps183
  go_wp2_with fail
  refine (name_any nm' _ hl).mono ?_;rintro r w' ⟨rfl,rfl⟩
  go_wp2_with fail
  go_ret
  exact ⟨by simp,rfl⟩
 by_cases h3:kd=3
 ·subst h3
  go_enter Tryz.func183,Tryz.ntmps183
  go_wp2_with fail
  refine (con_any nm' _ hl).mono ?_;rintro r w' ⟨rfl,rfl⟩
  go_wp2_with fail
  go_ret
  exact ⟨by simp,rfl⟩
 by_cases h8:kd=8
 ·subst h8
  go_enter Tryz.func183,Tryz.ntmps183
  go_wp2_with fail
  refine (con_any nm' _ hl).mono ?_;rintro r w' ⟨rfl,rfl⟩
  go_wp2_with fail
  go_ret
  exact ⟨by simp,rfl⟩
 by_cases h9:kd=9
 ·subst h9
  cases hq:isOp nm'
  ·go_enter Tryz.func183,Tryz.ntmps183
   go_wp2_with fail
   refine (is_anyP nm' _).mono ?_;rintro r w' ⟨rfl,rfl⟩;rw [hq]
   go_wp2_with fail
   go_ret
   exact ⟨by simp,rfl⟩
  ·go_enter Tryz.func183,Tryz.ntmps183
   go_wp2_with fail
   refine (is_anyP nm' _).mono ?_;rintro r w' ⟨rfl,rfl⟩;rw [hq]
   go_wp2_with fail
   go_ret
   exact ⟨by simp,rfl⟩
 have hsl:=S_list nm'
 rw [if_neg h2,if_neg (by simp [h3,h8]),if_neg h9]
 generalize S nm'=sb at *
 subst hsl
 go_enter Tryz.func183,Tryz.ntmps183
 go_wp2_with fail
 go_ret
 exact ⟨by simp,rfl⟩
theorem hasKids_any (e:Tr) (pn:Option Addr) (cn:Nat) (pk:Option Addr) (ck:Nat) (w:World):Calls Tryz.prog 185 #[.agg (cs5 e pn cn pk ck)] w fun r w'=>r=.returned (.bool (hasKidsM e))∧w'=w.alloc (.cells (cs5 e pn cn pk ck) 27):=by
 unfold cs5 hasKidsM
 obtain ⟨kd,nm',nu,ns,ks⟩:=e
 simp only at *
 generalize ks.length=nk
 by_cases h:kd=10∨kd=5∨kd=6∨kd=9∨kd=4∨kd=8∨kd=13∨kd=1∨kd=2∨kd=3∨kd=7∨kd=11∨kd=12
 ·rcases h with rfl | rfl | rfl | rfl | rfl | rfl | rfl | rfl | rfl | rfl | rfl | rfl | rfl <;>
  ·go_enter Tryz.func185,Tryz.ntmps185
   go_wp2_with fail
   all_goals go_ret
   all_goals refine ⟨?_,rfl⟩
   all_goals show Ending.returned (Value.bool _)=Ending.returned (Value.bool _)
   all_goals refine congrArg (fun b=>Ending.returned (Value.bool b)) ?_
   all_goals rw [Bool.eq_iff_iff]
   all_goals simp
   all_goals first | done | omega
 ·simp only [not_or] at h
  obtain ⟨h1,h2,h3,h4,h5,h6,h7,h8,h9,h10,h11,h12,h13⟩:=h
  go_enter Tryz.func185,Tryz.ntmps185
  go_wp2_with fail
  go_ret
  exact ⟨by simp [*],rfl⟩
def namesM (l:List (List UInt8)):Bool:=l.all nm && decide l.Nodup
def setS (l:List (List UInt8)):DataW Unit:=Maps.setOf (.agg []) (l.map Lit.string)
theorem any_str (x:List UInt8):∀ l:List (List UInt8),l.any ((fun y:Lit=>y.sameKey (.string x)) ∘ Lit.string)=l.contains x
 | []=>rfl
 | a :: r=>by
  rw [List.any_cons,List.contains_cons,any_str x r]
  congr 1
  show (a == x)=(x == a)
  rw [Bool.eq_iff_iff,beq_iff_eq,beq_iff_eq]
  exact eq_comm
theorem has_setS (l:List (List UInt8)) (x:List UInt8):Maps.has (setS l) (.string x)=l.contains x:=by
 unfold setS
 rw [Maps.has_setOf _ _ _ (fun y hy=>by obtain ⟨_,_,rfl⟩:=List.mem_map.1 hy;trivial),List.any_map]
 exact any_str x _
theorem setS_snoc (l:List (List UInt8)) (x:List UInt8):setS (l ++ [x])=(setS l).put (.string x) (.agg []):=by
 unfold setS;rw [List.map_append];exact Maps.setOf_snoc _ _ _
theorem law9:Maps.Keyed Tryz.prog 9:=Maps.string_keyed Tryz.underlying9
theorem zero105 (w:World):(zeroValue 97).run Tryz.prog w=.ok (.agg #[]) w:=by kernel_rfl
theorem names_any {P:Nat→Prop} {p:Option Addr} {c:Nat} {l:List (List UInt8)} {w:World} (hn:l.length≤9223372036854775807) (hP:∀ b,P b→b<w.heap.size) (hM:SM P w p l) :
 Calls Tryz.prog 141 #[.slice p l.length c] w fun e w'=>e=.returned (.bool (namesM l))∧Below w.heap.size w w':=by
 have hmm:=@run_makeMap Tryz.prog
 generalize hm:l.length=m at *
 have HM:=zz hM
 clear hM
 go_enter Tryz.func141,Tryz.ntmps141
 go_wp2_with fail
 go_loopg [11] m (fun k s11 wr=>∃ i:Nat,i≤m∧k=m - i∧s11=.int .i64 i∧wr.ownsMap Tryz.prog 9 (unitElem (H:=Unit)) w.heap.size i (setS (l.take i))∧Below w.heap.size w wr∧w.heap.size+1≤wr.heap.size∧(l.take i).all nm=true∧(l.take i).Nodup)
 case atStart=>exact ⟨0,Nat.zero_le _,by omega,rfl,World.ownsMap_made _ _ _ _,(Below.refl _ _).alloc (Nat.le_refl _) _,by simp,rfl,List.nodup_nil⟩
 case round=>
  obtain ⟨i,hi1,rfl,rfl,hown,hB,hws,hall,hnd⟩:=hrel
  have HB:=zz hB
  have HALL:=zz hall
  have HND:=zz hnd
  by_cases hlt:i<m
  ·have hil:i<l.length:=by omega
   rcases HM.out with he | ⟨ba,oa,rfl,hba,hma⟩
   ·rw [he] at hil;simp at hil
   have a1:wr.cell? ⟨ba,oa+i,none⟩=some (.string (S l[i])):=(hB.cell (p:=⟨ba,oa+i,none⟩) (hP ba hba)).trans (hma i l[i] (by simp)).2
   have hsz:=(hma i l[i] (by simp)).1
   have htk:l.take (i+1)=l.take i ++ [l[i]]:=List.take_succ_eq_append_getElem hil
   have hmem:l[i] ∈ l:=by simp
   have hsp:l=l.take i ++ (l[i] :: l.drop (i+1)):=by rw [← List.drop_eq_getElem_cons hil,List.take_append_drop]
   have hkey:keyOf Tryz.prog 9 (.string (S l[i]))=some (.string l[i]):=by rw [WideMaps.keyOf_string_mk Tryz.underlying9 (by rw [S_size];unfold maxLen;omega)];rfl
   have hhas:=has_setS (l.take i) l[i]
   have HN:=zz (name_any l[i] wr hsz)
   have HN2:=zz fun W=>name_any l[i] W hsz
   have hsn:=setS_snoc (l.take i) l[i]
   rw [← htk] at hsn
   generalize l[i]=s at *
   have HSP:=zz hsp
   have HTK:=zz htk
   have HSN:=zz hsn
   cases hc:(l.take i).contains s
   ·have hh:Maps.has (setS (l.take i)) (.string s)=false:=by rw [hhas,hc]
    cases hq:nm s
    ·have HQ:=zz hq
     generalize S s=sb at *
     clear hma hB hall hnd hhas hc hsp htk hsn hmem hq HN hsz
     go_wp2_with (at_lookup;refine wpList_lookup_own_unit _ rfl _ _ 195 rfl 9 97 law9 Tryz.underlying195 (zero105 _) w.heap.size i _ rfl hown _ _ rfl hkey ?_)
     refine (HN2.out _).mono ?_
     rintro e w' ⟨rfl,rfl⟩
     rw [HQ.out]
     go_wp2_with fail
     go_ret
     refine ⟨?_,HB.out.alloc (by omega) _⟩
     have:namesM l=false:=by
      unfold namesM
      rw [HSP.out,List.all_append,List.all_cons,HQ.out];simp
     rw [this];rfl
    ·have HQ:=zz hq
     have HC:=zz hc
     generalize S s=sb at *
     clear hma hB hall hnd hhas hc hsp htk hsn hmem hq HN hsz
     go_wp2_with (at_lookup;refine wpList_lookup_own_unit _ rfl _ _ 195 rfl 9 97 law9 Tryz.underlying195 (zero105 _) w.heap.size i _ rfl hown _ _ rfl hkey ?_)
     refine (HN2.out _).mono ?_
     rintro e w' ⟨rfl,rfl⟩
     rw [HQ.out]
     go_wp2_with (at_mapUpdate;refine wpList_mapUpdate_own _ rfl _ _ _ 195 rfl 9 97 law9 Tryz.underlying195 (unitElem (H:=Unit)) w.heap.size i _ rfl (hown.alloc _) (by unfold maxLen;omega) _ _ _ rfl rfl hkey _ [] unitElem_mk ?_;intro w1 hown1 hgrow1)
     have HO1:=zz hown1
     have HG1:=zz hgrow1
     clear hown1 hgrow1
     go_roundg (m - (i+1))
     case measure=>omega
     case rel=>
      refine ⟨i+1,by omega,rfl,by go_num,by rw [HSN.out];exact HO1.out,?_,?_,?_,?_⟩
      ·exact (HB.out.alloc (by omega) _).trans ⟨HG1.out.os,HG1.out.tape,HG1.out.output,HG1.out.size,fun k hk=>HG1.out.block k (by simp;omega) (by simp;omega)⟩
      ·have:=HG1.out.size;simp at this;omega
      ·rw [HTK.out,List.all_append,HALL.out];simp [HQ.out]
      ·rw [HTK.out,List.nodup_append]
       refine ⟨HND.out,by simp,?_⟩
       intro a ha b hb
       simp at hb
       subst hb
       intro e
       subst e
       have:=HC.out
       simp at this
       exact this ha
   ·have hh:Maps.has (setS (l.take i)) (.string s)=true:=by rw [hhas,hc]
    have HC:=zz hc
    generalize S s=sb at *
    clear hma hB hall hnd hhas hc hsp htk hsn hmem HN hsz
    go_wp2_with (at_lookup;refine wpList_lookup_own_unit _ rfl _ _ 195 rfl 9 97 law9 Tryz.underlying195 (zero105 _) w.heap.size i _ rfl hown _ _ rfl hkey ?_)
    go_ret
    refine ⟨?_,HB.out.alloc (by omega) _⟩
    have:namesM l=false:=by
     unfold namesM
     have:¬ l.Nodup:=by
      intro h
      rw [HSP.out,List.nodup_append] at h
      exact h.2.2 s (by have:=HC.out;simpa using this) s (by simp) rfl
     simp [this]
    rw [this];rfl
  ·have HX:Hid (l.take i=l):=by show l.take i=l;rw [List.take_of_length_le (by omega)]
   clear hall hnd hB
   go_wp2_with fail
   go_ret
   refine ⟨?_,HB.out⟩
   have h1:=HALL.out
   have h2:=HND.out
   rw [HX.out] at h1 h2
   simp [namesM,h1,h2]
def hasNamesM (e:Tr):Bool:=if e.kd=4∨e.kd=6∨e.kd=13 then decide (e.ns.length=1) && namesM e.ns else if e.kd=8 then namesM e.ns else decide (e.ns.length=0)
def fitsM (e:Tr) (i:Nat) (k:Tr):Bool:=if k.kd=8 then decide (e.kd=7) && decide (0<i) else if k.kd=13 then (e.kd == 11 || e.kd == 12) && decide (i+1<e.ks.length) else !(decide (e.kd=7) && decide (0<i))
def fitsAll (e:Tr):Bool:=(List.range e.ks.length).all fun i=>fitsM e i (e.ks.getD i ⟨0,[],0,[],[]⟩)
def soundM (e:Tr):Bool:=hasNumM e && hasNameM e && hasNamesM e && hasKidsM e && fitsAll e
theorem hasNames_any {P:Nat→Prop} {e:Tr} {pn:Option Addr} {cn:Nat} {pk:Option Addr} {ck:Nat} {w:World} (hn:e.ns.length≤9223372036854775807) (hP:∀ b,P b→b<w.heap.size) (hM:SM P w pn e.ns) :
 Calls Tryz.prog 184 #[.agg (cs5 e pn cn pk ck)] w fun r w'=>r=.returned (.bool (hasNamesM e))∧Below w.heap.size w w':=by
 have hB:Below w.heap.size w (w.alloc (.cells (cs5 e pn cn pk ck) 27)):=(Below.refl _ w).alloc (Nat.le_refl _) _
 have HC:=zz (names_any (c:=cn) hn (fun b hb=>Nat.lt_of_lt_of_le (hP b hb) hB.size) (hM.keep (KP.of_below hB hP)))
 have HB:=zz hB
 unfold cs5 at *
 unfold hasNamesM
 clear hM hB
 obtain ⟨kd,nm',nu,ns,ks⟩:=e
 simp only at *
 generalize hln:ns.length=nn at *
 have e1:Hid (((nn:Int) == 1)=decide (nn=1)):=by show _=_;rw [Bool.eq_iff_iff];simp;omega
 by_cases h:kd=4∨kd=6∨kd=13
 ·rw [if_pos h]
  by_cases h1:nn=1
  ·subst h1
   rcases h with rfl | rfl | rfl <;>
   ·go_enter Tryz.func184,Tryz.ntmps184
    go_wp2_with fail
    refine HC.out.mono ?_
    rintro r w' ⟨rfl,hB2⟩
    have HB2:=zz hB2
    clear hB2
    go_wp2_with fail
    go_ret
    exact ⟨by simp,HB.out.trans (HB2.out.mono HB.out.size)⟩
  ·have h1i:¬ (nn:Int)=1:=by omega
   rcases h with rfl | rfl | rfl <;>
   ·go_enter Tryz.func184,Tryz.ntmps184
    go_wp2_with fail
    go_ret
    exact ⟨by simp [h1],HB.out⟩
 ·rw [if_neg h]
  simp only [not_or] at h
  obtain ⟨h4,h6,h13⟩:=h
  by_cases h8:kd=8
  ·subst h8
   go_enter Tryz.func184,Tryz.ntmps184
   go_wp2_with fail
   refine HC.out.mono ?_
   rintro r w' ⟨rfl,hB2⟩
   have HB2:=zz hB2
   clear hB2
   go_wp2_with fail
   go_ret
   exact ⟨by simp,HB.out.trans (HB2.out.mono HB.out.size)⟩
  ·rw [if_neg h8]
   go_enter Tryz.func184,Tryz.ntmps184
   go_wp2_with fail
   go_ret
   refine ⟨?_,HB.out⟩
   show Ending.returned (Value.bool _)=Ending.returned (Value.bool _)
   refine congrArg (fun b=>Ending.returned (Value.bool b)) ?_
   rw [Bool.eq_iff_iff]
   simp
theorem fits_any {P:Nat→Prop} {e:Tr} {pn:Option Addr} {cn:Nat} {pk:Option Addr} {ck:Nat} {w:World} {i:Nat} {k:Tr} (hk:e.ks[i]?=some k) (hn:e.ks.length≤9223372036854775807) (hP:∀ b,P b→b<w.heap.size) (hM:EM P w pk e.ks) :
 Calls Tryz.prog 186 #[.agg (cs5 e pn cn pk ck),.int .i64 i] w fun r w'=>r=.returned (.bool (fitsM e i k))∧Below w.heap.size w w':=by
 have hB:Below w.heap.size w (w.alloc (.cells (cs5 e pn cn pk ck) 27)):=(Below.refl _ w).alloc (Nat.le_refl _) _
 have hil:i<e.ks.length:=(List.getElem?_eq_some_iff.1 hk).1
 obtain ⟨b,o,hp,hb,hc0⟩:∃ b o,pk=some ⟨b,o,none⟩∧b<w.heap.size∧w.cell? ⟨b,o+i * 5,none⟩=some (.int .i64 k.kd):=by
  rcases hM with h | ⟨b,o,hp,hb,hm⟩
  ·rw [h] at hil;simp at hil
  ·obtain ⟨ds,h1,h2,h3⟩:=hm i k hk
   obtain ⟨pn',cn',pk',ck',rfl,_⟩:=(TrIn_iff _ _ _ _).1 h3
   exact ⟨b,o,hp,hP b hb,h2 0 _ rfl⟩
 subst hp
 have hc1:=(hB.cell (p:=⟨b,o+i * 5,none⟩) hb).trans hc0
 have HD:=zz fun W=>isDo_any e pn cn (some ⟨b,o,none⟩) ck W
 have HB:=zz hB
 unfold cs5 at *
 unfold fitsM
 obtain ⟨kd,nm',nu,ns,ks⟩:=e
 simp only at *
 clear hB hM hk hc0
 generalize ks.length=nk at *
 generalize k.kd=kk at *
 have hii:(i:Int)<nk:=by omega
 by_cases h7:kd=7
 ·subst h7
  by_cases h8:kk=8
  ·subst h8
   go_enter Tryz.func186,Tryz.ntmps186
   go_wp2_with fail
   all_goals go_ret
   all_goals refine ⟨?_,HB.out⟩
   all_goals show Ending.returned (Value.bool _)=Ending.returned (Value.bool _)
   all_goals refine congrArg (fun b=>Ending.returned (Value.bool b)) ?_
   all_goals simp
  ·by_cases h13:kk=13
   ·subst h13
    go_enter Tryz.func186,Tryz.ntmps186
    go_wp2_with fail
    refine (HD.out _).mono ?_
    rintro r w' ⟨rfl,rfl⟩
    go_wp2_with fail
    go_ret
    exact ⟨by simp,HB.out.trans (((Below.refl _ _).alloc (Nat.le_refl _) _).mono HB.out.size)⟩
   ·go_enter Tryz.func186,Tryz.ntmps186
    go_wp2_with fail
    all_goals go_ret
    all_goals refine ⟨?_,HB.out⟩
    all_goals show Ending.returned (Value.bool _)=Ending.returned (Value.bool _)
    all_goals refine congrArg (fun b=>Ending.returned (Value.bool b)) ?_
    all_goals simp [h8,h13]
 ·by_cases h8:kk=8
  ·subst h8
   go_enter Tryz.func186,Tryz.ntmps186
   go_wp2_with fail
   go_ret
   exact ⟨by simp [h7],HB.out⟩
  ·by_cases h13:kk=13
   ·subst h13
    cases hd:(kd == 11 || kd == 12)
    ·go_enter Tryz.func186,Tryz.ntmps186
     go_wp2_with fail
     refine (HD.out _).mono ?_
     rintro r w' ⟨rfl,rfl⟩
     rw [hd]
     go_wp2_with fail
     go_ret
     exact ⟨by simp,HB.out.trans (((Below.refl _ _).alloc (Nat.le_refl _) _).mono HB.out.size)⟩
    ·go_enter Tryz.func186,Tryz.ntmps186
     go_wp2_with fail
     refine (HD.out _).mono ?_
     rintro r w' ⟨rfl,rfl⟩
     rw [hd]
     go_wp2_with fail
     go_ret
     refine ⟨?_,HB.out.trans (((Below.refl _ _).alloc (Nat.le_refl _) _).mono HB.out.size)⟩
     show Ending.returned (Value.bool _)=Ending.returned (Value.bool _)
     refine congrArg (fun b=>Ending.returned (Value.bool b)) ?_
     rw [Bool.eq_iff_iff]
     simp
     omega
   ·go_enter Tryz.func186,Tryz.ntmps186
    go_wp2_with fail
    go_ret
    exact ⟨by simp [h7,h8,h13],HB.out⟩
theorem fits_take (e:Tr) (i:Nat) (h:i<e.ks.length):((List.range (i+1)).all fun i=>fitsM e i (e.ks.getD i ⟨0,[],0,[],[]⟩))=(((List.range i).all fun i=>fitsM e i (e.ks.getD i ⟨0,[],0,[],[]⟩)) && fitsM e i e.ks[i]):=by
 rw [List.range_succ,List.all_append]
 simp [List.getD,h]
theorem fits_bad (e:Tr) (i:Nat) (h:i<e.ks.length) (hb:fitsM e i e.ks[i]=false):fitsAll e=false:=by
 unfold fitsAll
 rw [List.all_eq_false]
 exact ⟨i,List.mem_range.2 h,by simp [List.getD,h,hb]⟩
theorem sound_any {P:Nat→Prop} {e:Tr} {pn:Option Addr} {cn:Nat} {pk:Option Addr} {ck:Nat} {w:World} (hP:∀ b,P b→b<w.heap.size) (hE:TrIn P w e [.int .i64 e.kd,.string (S e.nm),.int .i64 e.nu,.slice pn e.ns.length cn,.slice pk e.ks.length ck]) :
 Calls Tryz.prog 124 #[.agg (cs5 e pn cn pk ck)] w fun r w'=>r=.returned (.bool (soundM e))∧Below w.heap.size w w':=by
 obtain ⟨pn',cn',pk',ck',hcs,hnm,hnu,hsn,hsk,hSM,hEM⟩:=(TrIn_iff _ _ _ _).1 hE
 obtain ⟨rfl,rfl,rfl,rfl⟩:pn=pn'∧cn=cn'∧pk=pk'∧ck=ck':=by simp at hcs;exact ⟨hcs.1.1,hcs.1.2,hcs.2.1,hcs.2.2⟩
 clear hcs
 have hn1:e.ns.length≤9223372036854775807:=Nat.le_trans hsn.1 hsn.2.1
 have hn2:e.ks.length≤9223372036854775807:=Nat.le_trans hsk.1 hsk.2.1
 have hW:Hold w.heap.size (cs5 e pn cn pk ck) 27 (w.alloc (.cells (cs5 e pn cn pk ck) 27)):=Hold.new w _ 27
 have hB0:Below w.heap.size w (w.alloc (.cells (cs5 e pn cn pk ck) 27)):=(Below.refl _ w).alloc (Nat.le_refl _) _
 have HA:=zz fun W=>hasNum_any e pn cn pk ck W
 have HBn:=zz fun W=>hasName_any e pn cn pk ck W hnm
 have HC:=zz fun W (hb:Below w.heap.size w W)=>hasNames_any (cn:=cn) (pk:=pk) (ck:=ck) (w:=W) hn1 (fun b hb'=>Nat.lt_of_lt_of_le (hP b hb') hb.size) (hSM.keep (KP.of_below hb hP))
 have HD:=zz fun W=>hasKids_any e pn cn pk ck W
 have HF:=zz fun W (hb:Below w.heap.size w W) i k (hk:e.ks[i]?=some k)=>fits_any (pn:=pn) (cn:=cn) (ck:=ck) (w:=W) (i:=i) (k:=k) hk hn2 (fun b hb'=>Nat.lt_of_lt_of_le (hP b hb') hb.size) (EM.keep (KP.of_below hb hP) (fun b hb=>hb) hEM)
 have HS:Hid (∀ W,Below (w.heap.size+1) (w.alloc (.cells (cs5 e pn cn pk ck) 27)) W→W.cell? ⟨w.heap.size,0,none⟩=some (.int .i64 e.kd)∧W.cell? ⟨w.heap.size,1,none⟩=some (.string (S e.nm))∧W.cell? ⟨w.heap.size,2,none⟩=some (.int .i64 e.nu)∧W.cell? ⟨w.heap.size,3,none⟩=some (.slice pn e.ns.length cn)∧W.cell? ⟨w.heap.size,4,none⟩=some (.slice pk e.ks.length ck)):=fun W hb=>by
  have h:=hW.below hb (Nat.lt_succ_self _)
  exact ⟨h.cell 0,h.cell 1,h.cell 2,h.cell 3,h.cell 4⟩
 have HB0:=zz hB0
 clear hW hB0 hE hSM hEM hsn hsk
 cases h1:hasNumM e
 ·have HR:Hid (soundM e=false):=by show soundM e=false;simp [soundM,h1]
  unfold cs5 at *
  go_enter Tryz.func124,Tryz.ntmps124
  go_wp2_with fail
  refine (HA.out _).mono ?_
  rintro r w1 ⟨rfl,rfl⟩
  rw [h1]
  go_wp2_with fail
  go_ret
  exact ⟨by rw [HR.out];rfl,HB0.out.trans (((Below.refl _ _).alloc (Nat.le_refl _) _).mono HB0.out.size)⟩
 ·cases h2:hasNameM e
  ·have HR:Hid (soundM e=false):=by show soundM e=false;simp [soundM,h2]
   unfold cs5 at *
   go_enter Tryz.func124,Tryz.ntmps124
   go_wp2_with fail
   refine (HA.out _).mono ?_
   rintro r w1 ⟨rfl,rfl⟩
   rw [h1]
   go_wp2_with fail
   refine (HBn.out _).mono ?_
   rintro r w2 ⟨rfl,rfl⟩
   rw [h2]
   go_wp2_with fail
   go_ret
   exact ⟨by rw [HR.out];rfl,HB0.out.trans ((((Below.refl _ _).alloc (Nat.le_refl _) _).alloc (by simp) _).mono HB0.out.size)⟩
  ·cases h3:hasNamesM e
   ·have HR:Hid (soundM e=false):=by show soundM e=false;simp [soundM,h3]
    unfold cs5 at *
    go_enter Tryz.func124,Tryz.ntmps124
    go_wp2_with fail
    refine (HA.out _).mono ?_
    rintro r w1 ⟨rfl,rfl⟩
    rw [h1]
    go_wp2_with fail
    refine (HBn.out _).mono ?_
    rintro r w2 ⟨rfl,rfl⟩
    rw [h2]
    go_wp2_with fail
    have hb2:Below (w.heap.size+1) (w.alloc (.cells (cs5 e pn cn pk ck) 27)) (((w.alloc (.cells (cs5 e pn cn pk ck) 27)).alloc (.cells (cs5 e pn cn pk ck) 27)).alloc (.cells (cs5 e pn cn pk ck) 27)):=((Below.refl _ _).alloc (by simp) _).alloc (by simp) _
    refine (HC.out _ (HB0.out.trans (hb2.mono (by omega)))).mono ?_
    rintro r w3 ⟨rfl,hb3⟩
    have hb3':Below (w.heap.size+1) (w.alloc (.cells (cs5 e pn cn pk ck) 27)) w3:=hb2.trans (hb3.mono (by simp))
    obtain ⟨c0,c1,c2,c3,c4⟩:=HS.out w3 hb3'
    have HB3:=zz hb3'
    clear hb3 hb3' hb2
    rw [h3]
    go_wp2_with fail
    go_ret
    exact ⟨by rw [HR.out];rfl,HB0.out.trans (HB3.out.mono (by omega))⟩
   ·cases h4:hasKidsM e
    ·have HR:Hid (soundM e=false):=by show soundM e=false;simp [soundM,h4]
     unfold cs5 at *
     go_enter Tryz.func124,Tryz.ntmps124
     go_wp2_with fail
     refine (HA.out _).mono ?_
     rintro r w1 ⟨rfl,rfl⟩
     rw [h1]
     go_wp2_with fail
     refine (HBn.out _).mono ?_
     rintro r w2 ⟨rfl,rfl⟩
     rw [h2]
     go_wp2_with fail
     have hb2:Below (w.heap.size+1) (w.alloc (.cells (cs5 e pn cn pk ck) 27)) (((w.alloc (.cells (cs5 e pn cn pk ck) 27)).alloc (.cells (cs5 e pn cn pk ck) 27)).alloc (.cells (cs5 e pn cn pk ck) 27)):=((Below.refl _ _).alloc (by simp) _).alloc (by simp) _
     refine (HC.out _ (HB0.out.trans (hb2.mono (by omega)))).mono ?_
     rintro r w3 ⟨rfl,hb3⟩
     have hb3':Below (w.heap.size+1) (w.alloc (.cells (cs5 e pn cn pk ck) 27)) w3:=hb2.trans (hb3.mono (by simp))
     obtain ⟨c0,c1,c2,c3,c4⟩:=HS.out w3 hb3'
     have HB3:=zz hb3'
     clear hb3 hb3' hb2
     rw [h3]
     go_wp2_with fail
     refine (HD.out _).mono ?_
     rintro r w4 ⟨rfl,rfl⟩
     rw [h4]
     go_wp2_with fail
     go_ret
     exact ⟨by rw [HR.out];rfl,(HB0.out.trans (HB3.out.mono (by omega))).alloc (by have:=HB3.out.size;simp at this;omega) _⟩
    ·have HR:Hid (soundM e=fitsAll e):=by show soundM e=fitsAll e;simp [soundM,h1,h2,h3,h4]
     unfold cs5 at *
     go_enter Tryz.func124,Tryz.ntmps124
     go_wp2_with fail
     refine (HA.out _).mono ?_
     rintro r w1 ⟨rfl,rfl⟩
     rw [h1]
     go_wp2_with fail
     refine (HBn.out _).mono ?_
     rintro r w2 ⟨rfl,rfl⟩
     rw [h2]
     go_wp2_with fail
     have hb2:Below (w.heap.size+1) (w.alloc (.cells (cs5 e pn cn pk ck) 27)) (((w.alloc (.cells (cs5 e pn cn pk ck) 27)).alloc (.cells (cs5 e pn cn pk ck) 27)).alloc (.cells (cs5 e pn cn pk ck) 27)):=((Below.refl _ _).alloc (by simp) _).alloc (by simp) _
     refine (HC.out _ (HB0.out.trans (hb2.mono (by omega)))).mono ?_
     rintro r w3 ⟨rfl,hb3⟩
     have hb3':Below (w.heap.size+1) (w.alloc (.cells (cs5 e pn cn pk ck) 27)) w3:=hb2.trans (hb3.mono (by simp))
     obtain ⟨c0,c1,c2,c3,c4⟩:=HS.out w3 hb3'
     have HB3:=zz hb3'
     clear hb3 hb3' hb2
     rw [h3]
     go_wp2_with fail
     refine (HD.out _).mono ?_
     rintro r w4 ⟨rfl,rfl⟩
     rw [h4]
     have hb4:Below (w.heap.size+1) (w.alloc (.cells (cs5 e pn cn pk ck) 27)) (w3.alloc (.cells (cs5 e pn cn pk ck) 27)):=HB3.out.alloc (by have:=HB3.out.size;simpa using this) _
     obtain ⟨d0,d1,d2,d3,d4⟩:=HS.out _ hb4
     have HB4:=zz hb4
     clear hb4
     unfold cs5 at *
     generalize hmm:e.ks.length=m at *
     go_wp2_with fail
     have HML:=zz hmm
     go_loopg [25] m (fun k s25 wr=>∃ i:Nat,i≤m∧k=m - i∧s25=.int .i64 i∧Below (w.heap.size+1) (w.alloc (.cells #[.int .i64 e.kd,.string (S e.nm),.int .i64 e.nu,.slice pn e.ns.length cn,.slice pk m ck] 27)) wr∧((List.range i).all fun i=>fitsM e i (e.ks.getD i ⟨0,[],0,[],[]⟩))=true)
     case atStart=>exact ⟨0,Nat.zero_le _,by omega,rfl,HB4.out,rfl⟩
     case round=>
      obtain ⟨i,hi1,rfl,rfl,hbr,hall⟩:=hrel
      obtain ⟨c0',c1',c2',c3',c4'⟩:=HS.out wr hbr
      have HBR:=zz hbr
      have HALL:=zz hall
      have hbw:Below w.heap.size w wr:=HB0.out.trans (hbr.mono (by omega))
      by_cases hlt:i<m
      ·have hil:i<e.ks.length:=by omega
       have ht:=fits_take e i hil
       have hbad:=fits_bad e i hil
       have HFF:=zz (HF.out wr hbw i e.ks[i] (by simp))
       cases hq:fitsM e i e.ks[i]
       ·have HBD:=zz (hbad hq)
        rw [hq] at HFF
        clear hbad ht hq hbr hall hbw
        go_wp2_with fail
        refine HFF.out.mono ?_
        rintro r w5 ⟨rfl,hb5⟩
        have HB5:=zz hb5
        clear hb5
        go_wp2_with fail
        go_ret
        exact ⟨by rw [HR.out,HBD.out];rfl,HB0.out.trans ((HBR.out.trans (HB5.out.mono (by have:=HBR.out.size;simpa using this))).mono (by omega))⟩
       ·have HTK:=zz ht
        have HQ:=zz hq
        rw [hq] at HFF
        clear hbad ht hq hbr hall hbw
        go_wp2_with fail
        refine HFF.out.mono ?_
        rintro r w5 ⟨rfl,hb5⟩
        have HB5:=zz hb5
        clear hb5
        go_wp2_with fail
        go_roundg (m - (i+1))
        case measure=>omega
        case rel=>exact ⟨i+1,by omega,rfl,by go_num,HBR.out.trans (HB5.out.mono (by have:=HBR.out.size;simpa using this)),by rw [HTK.out,HALL.out,HQ.out];rfl⟩
      ·clear hbr hall hbw
       go_wp2_with fail
       go_ret
       refine ⟨?_,HB0.out.trans (HBR.out.mono (by omega))⟩
       rw [HR.out]
       have:fitsAll e=true:=by
        unfold fitsAll
        rw [HML.out,show m=i by omega]
        exact HALL.out
       rw [this];rfl
end Go.Proofs.YtcnnlecjdkfdjaaGreatDoor
namespace Go.Proofs.YtcnnlecjdkfdjaaGreatDoor
open Go.RowKit Go.Shelf
attribute [local go_sem] Oper.semAt_some
def po (t:Tr):Nat→List (Nat × Tr):=t.fold (α:=Nat→List (Nat × Tr)) fun t l n=>(n,t) :: l.flatMap fun k=>k.2 (n+1)
theorem po_eq (t:Tr) (n:Nat):po t n=(n,t) :: t.ks.flatMap fun k=>po k (n+1):=by
 unfold po
 rw [Tr.fold_eq]
 simp only [List.flatMap_map]
abbrev SE:=Option Addr × Nat × List Tr
def remS:List SE→List (Nat × Tr)
 | []=>[]
 | s :: r=>(s.2.2.flatMap fun k=>po k (r.length+2)) ++ remS r
def seV (s:SE):Value:=.slice s.1 s.2.2.length s.2.1
def seOK (P:Nat→Prop) (w:World) (s:SE):Prop:=SlOK s.1 s.2.2.length s.2.1∧EM P w s.1 s.2.2
structure PX where
 lv:Nat
 t:Tr
 pn:Option Addr
 cn:Nat
 pk:Option Addr
 ck:Nat
def okX (P:Nat→Prop) (w:World) (x:PX):Prop:=TrIn P w x.t [.int .i64 x.t.kd,.string (S x.t.nm),.int .i64 x.t.nu,.slice x.pn x.t.ns.length x.cn,.slice x.pk x.t.ks.length x.ck]∧x.lv≤2147483647∧x.t.ks.length≤1000000
abbrev PN (P:Nat→Prop) (w:World):={ x:PX // okX P w x }
def encP {P:Nat→Prop} {w:World} (x:PN P w):Array Value:=#[.int .i64 x.1.lv,.agg (cs5 x.1.t x.1.pn x.1.cn x.1.pk x.1.ck)]
def bareP {P:Nat→Prop} {w:World} (x:PN P w):Nat × Tr:=(x.1.lv,x.1.t)
def KpB (n b s:Nat) (W W':World):Prop:=Below n W W'∧W'.heap[s]?=W.heap[s]?∧∀ k C t f,b≤k→W.heap[k]?=some (.cells C t f)→W'.heap[k]?=some (.cells C t f)
theorem KpB.trans {n b s:Nat} {A B C:World} (h:KpB n b s A B) (k:KpB n b s B C):KpB n b s A C:=⟨h.1.trans k.1,k.2.1.trans h.2.1,fun i X t f hb hi=>k.2.2 i X t f hb (h.2.2 i X t f hb hi)⟩
theorem KpB.put {n b s:Nat} {w:World} (hn:n≤w.heap.size) (hs:s<w.heap.size) (W:World) (l:Nat) (o o':Obj) (hl:w.heap.size≤l) (h:W.heap[l]?=some o) (hc:o.isCells=false) (hw:o.isWalk=false):KpB n b s W (W.putObj l o'):=by
 have hg:=grownBy_putObj' W l o'
 refine ⟨belowK_b hn W l o o' hl h hc hw,hg.block s (by have:=(Array.getElem?_eq_some_iff.1 h).1;omega) (fun e=>by have e':s=l:=(by simpa using e);omega),fun k C t f hb hk=>?_⟩
 refine (hg.block k (Array.getElem?_eq_some_iff.1 hk).1 (fun e=>?_)).trans hk
 have e':k=l:=by simpa using e
 subst e'
 rw [h] at hk
 cases hk
 simp [Obj.isCells] at hc
theorem KpB.hold {n b s k:Nat} {W W':World} {C:Array Value} {t:TypeId} (h:KpB n b s W W') (hb:b≤k) (hk:Hold k C t W):Hold k C t W':=h.2.2 k C t (0,0) hb hk
theorem KpB.holdS {n b s:Nat} {W W':World} {C:Array Value} {t:TypeId} (h:KpB n b s W W') (hk:Hold s C t W):Hold s C t W':=h.2.1.trans hk
theorem least_of {p:Nat→Prop} (h:∃ n,p n):∃ n,p n∧∀ m,p m→n≤m:=by
 obtain ⟨n,hn⟩:=h
 induction n using Nat.strongRecOn with
 | _ n ih=>
  by_cases hx:∃ m,m<n∧p m
  ·obtain ⟨m,hm,hp⟩:=hx;exact ih m hm hp
  ·exact ⟨n,hn,fun m hm=>Nat.le_of_not_lt fun hlt=>hx ⟨m,hlt,hm⟩⟩
end Go.Proofs.YtcnnlecjdkfdjaaGreatDoor
