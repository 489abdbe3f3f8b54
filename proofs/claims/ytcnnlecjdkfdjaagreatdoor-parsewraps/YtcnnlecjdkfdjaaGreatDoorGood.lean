/- Parts of the proof. -/
import Derived.Test.YtcnnlecjdkfdjaaGreatDoorContains
import Derived.WalkSmall
set_option linter.unusedVariables false
set_option linter.unusedSimpArgs false
set_option maxRecDepth 100000
set_option maxHeartbeats 8000000
namespace Go.Proofs.YtcnnlecjdkfdjaaGreatDoor
open Go.RowKit
theorem RowInt.below {w w':World} {b n:Nat} {L:List Int} (h:RowInt w b L) (hb:Below n w w') (hn:b<n):RowInt w' b L:=fun i x hx=>(hb.cell (p:=⟨b,i,none⟩) hn).trans (h i x hx)
theorem RowStr.below {w w':World} {b n:Nat} {L:List (List UInt8)} (h:RowStr w b L) (hb:Below n w w') (hn:b<n):RowStr w' b L:=fun i x hx=>(hb.cell (p:=⟨b,i,none⟩) hn).trans (h i x hx)
theorem fldK (a:Int) (s:ByteArray) (n i c:Int) (w:World):(Instr.field 51 (.agg #[.int .i64 a,.string s,.int .i64 n,.int .i64 i,.int .i64 c]) 0).run Tryz.prog w=.ok (.int .i64 a) w:=by kernel_rfl
theorem fldT (a:Int) (s:ByteArray) (n i c:Int) (w:World):(Instr.field 51 (.agg #[.int .i64 a,.string s,.int .i64 n,.int .i64 i,.int .i64 c]) 1).run Tryz.prog w=.ok (.string s) w:=by kernel_rfl
structure PLook (P:Nat→Prop) (B:Nat) (l:List Tk) (tp:Option Addr) (tn tc tk:Nat) (vr ve vs vf vd vp:Value) (w:World):Prop where
 hold:Hold B (psC tp tn tc tk vr ve vs vf vd vp) 63 w
 lt:∀ b,P b→b<w.heap.size
 len:l.length=tn
 toks:KM P w tp l
 max:tn≤1000000
 at':tk≤1000000
theorem PLook.below {P:Nat→Prop} {B:Nat} {l:List Tk} {tp:Option Addr} {tn tc tk:Nat} {vr ve vs vf vd vp:Value} {w w':World} (h:PLook P B l tp tn tc tk vr ve vs vf vd vp w) (hb:Below w.heap.size w w'):PLook P B l tp tn tc tk vr ve vs vf vd vp w':=
 ⟨h.hold.below hb h.hold.lt,fun b hP=>Nat.lt_of_lt_of_le (h.lt b hP) hb.size,h.len,h.toks.keep (KP.of_below hb h.lt) (fun b hb=>hb) (fun _ _ h=>h),h.max,h.at'⟩
theorem next_look {P:Nat→Prop} {B:Nat} {l:List Tk} {tp:Option Addr} {tn tc tk k:Nat} {vr ve vs vf vd vp:Value} {w:World} (h:PLook P B l tp tn tc tk vr ve vs vf vd vp w) (hk:k≤10) :
 Calls Tryz.prog 114 #[.pointer (some ⟨B,0,none⟩),.int .i64 k] w fun r w'=>r=.returned (.agg (tkC (tkAt l (tk+k))).toArray)∧Below w.heap.size w w':=next_any h.hold h.lt h.len h.toks h.max h.at' hk
theorem is_any {P:Nat→Prop} {B:Nat} {l:List Tk} {tp:Option Addr} {tn tc tk:Nat} {vr ve vs vf vd vp:Value} {w:World} {b n c:Nat} {L:List Int} (h:PLook P B l tp tn tc tk vr ve vs vf vd vp w) (hn:L.length=n) (hm:n≤1000) (hM:RowInt w b L) (hb:b<w.heap.size) :
 Calls Tryz.prog 112 #[.pointer (some ⟨B,0,none⟩),.slice (some ⟨b,0,none⟩) n c] w fun r w'=>r=.returned (.bool (decide ((tkAt l tk).kd ∈ L)))∧Below w.heap.size w w':=by
 have HX:=zz (next_look (k:=0) h (by omega))
 have HC:=zz fun W (hw:Below w.heap.size w W)=>containsInt (c:=c) (v:=(tkAt l tk).kd) hn hm (hM.below hw hb)
 clear h hM
 unfold tkC at HX
 simp only [Nat.add_zero] at HX
 generalize decide ((tkAt l tk).kd ∈ L)=d at *
 generalize tkAt l tk=t at *
 have hfk:=fldK
 go_enter Tryz.func112,Tryz.ntmps112
 go_wp2_with fail
 refine HX.out.mono ?_
 rintro r w1 ⟨rfl,hb1⟩
 have HB1:=zz hb1
 clear hb1
 go_wp2_with fail
 refine (HC.out _ HB1.out).mono ?_
 rintro r w2 ⟨rfl,rfl⟩
 go_wp2_with fail
 go_ret
 exact ⟨rfl,HB1.out⟩
theorem isKey_any {P:Nat→Prop} {B:Nat} {l:List Tk} {tp:Option Addr} {tn tc tk:Nat} {vr ve vs vf vd vp:Value} {w:World} {b n c:Nat} {L:List (List UInt8)} (h:PLook P B l tp tn tc tk vr ve vs vf vd vp w) (hn:L.length=n) (hm:n≤1000) (hM:RowStr w b L) (hb:b<w.heap.size) :
 Calls Tryz.prog 57 #[.pointer (some ⟨B,0,none⟩),.slice (some ⟨b,0,none⟩) n c] w fun r w'=>r=.returned (.bool (L.any fun s=>isK l tk s))∧Below w.heap.size w w':=by
 have hB0:Below w.heap.size w (w.alloc (.cells #[.int .i64 4] 3)):=(Below.refl _ w).alloc (Nat.le_refl _) _
 have HB0:=zz hB0
 have HI:=zz (is_any (c:=1) (L:=[4]) (n:=1) (b:=w.heap.size) (h.below hB0) rfl (by omega) (fun i x hx=>by
  cases i with
  | zero=>simp at hx;subst hx;exact (Hold.new w #[.int .i64 4] 3).cell 0
  | succ i=>simp at hx) (by simp))
 have HX:=zz fun W (hw:Below w.heap.size w W)=>next_look (k:=0) (h.below hw) (by omega)
 have HC:=zz fun W (hw:Below w.heap.size w W)=>containsStr (c:=c) (v:=(tkAt l tk).tx) hn hm (hM.below hw hb)
 have HR:Hid ((L.any fun s=>isK l tk s)=(decide ((tkAt l tk).kd ∈ ([4]:List Int)) && decide ((tkAt l tk).tx ∈ L))):=by
  show _=_
  unfold isK
  rw [Bool.eq_iff_iff]
  simp only [List.any_eq_true,Bool.and_eq_true,decide_eq_true_eq,beq_iff_eq,List.mem_singleton]
  constructor
  ·rintro ⟨s,h1,h2,rfl⟩;exact ⟨h2,h1⟩
  ·rintro ⟨h1,h2⟩;exact ⟨_,h2,h1,rfl⟩
 clear h hM hB0
 unfold tkC at HX
 simp only [Nat.add_zero] at HX
 generalize (L.any fun s=>isK l tk s)=rv at *
 generalize decide ((tkAt l tk).kd ∈ ([4]:List Int))=d1 at *
 generalize decide ((tkAt l tk).tx ∈ L)=d2 at *
 generalize tkAt l tk=t at *
 have hft:=fldT
 cases d1
 ·go_enter Tryz.func57,Tryz.ntmps57
  go_wp2_with fail
  refine HI.out.mono ?_
  rintro r w1 ⟨rfl,hb1⟩
  have HB1:=zz (HB0.out.trans (hb1.mono HB0.out.size))
  clear hb1
  go_wp2_with fail
  go_ret
  exact ⟨by rw [HR.out];rfl,HB1.out⟩
 ·go_enter Tryz.func57,Tryz.ntmps57
  go_wp2_with fail
  refine HI.out.mono ?_
  rintro r w1 ⟨rfl,hb1⟩
  have HB1:=zz (HB0.out.trans (hb1.mono HB0.out.size))
  clear hb1
  go_wp2_with fail
  refine (HX.out _ HB1.out).mono ?_
  rintro r w2 ⟨rfl,hb2⟩
  have HB2:=zz (HB1.out.trans (hb2.mono HB1.out.size))
  clear hb2
  go_wp2_with fail
  refine (HC.out _ HB2.out).mono ?_
  rintro r w3 ⟨rfl,rfl⟩
  go_wp2_with fail
  go_ret
  exact ⟨by rw [HR.out];rfl,HB2.out⟩
def stuckV:List PanicEntry:=[{ v:=.iface 98 (.agg #[]),recovered:=false }]
def Kept (B:Nat) (w w':World):Prop:=KP (fun b=>b<w.heap.size∧b≠B) w w'
theorem take_no {P:Nat→Prop} {B:Nat} {l:List Tk} {tp:Option Addr} {tn tc tk:Nat} {k:Int} {vr ve vs vf vd vp:Value} {w:World} (h:PLook P B l tp tn tc tk vr ve vs vf vd vp w) (hk:isD l tk k=false) :
 Calls Tryz.prog 138 #[.pointer (some ⟨B,0,none⟩),.int .i64 k] w fun r w'=>r=.panicked stuckV∧Below w.heap.size w w':=by
 obtain ⟨h1,s1⟩:=(show Hold w.heap.size #[.int .i64 0,.string ⟨#[]⟩,.int .i64 0,.int .i64 0,.int .i64 0] 51 (w.alloc (.cells #[.int .i64 0,.string ⟨#[]⟩,.int .i64 0,.int .i64 0,.int .i64 0] 51))∧(w.alloc (.cells #[.int .i64 0,.string ⟨#[]⟩,.int .i64 0,.int .i64 0,.int .i64 0] 51)).heap.size=w.heap.size+1 from ⟨Hold.new _ _ _,by simp⟩)
 have hB0:Below w.heap.size w ((w.alloc (.cells #[.int .i64 0,.string ⟨#[]⟩,.int .i64 0,.int .i64 0,.int .i64 0] 51)).alloc (.cells #[.int .i64 k] 3)):=((Below.refl _ w).alloc (Nat.le_refl _) _).alloc (by simp) _
 have hr:=Hold.new (w.alloc (.cells #[.int .i64 0,.string ⟨#[]⟩,.int .i64 0,.int .i64 0,.int .i64 0] 51)) #[.int .i64 k] 3
 rw [s1] at hr
 have HB0:=zz hB0
 have HI:=zz (is_any (c:=1) (L:=[k]) (n:=1) (b:=w.heap.size+1) (h.below hB0) rfl (by omega) (fun i x hx=>by
  cases i with
  | zero=>simp at hx;subst hx;exact hr.cell 0
  | succ i=>simp at hx) hr.lt)
 have hd:decide ((tkAt l tk).kd ∈ [k])=false:=by simpa [isD] using hk
 rw [hd] at HI
 clear h h1 s1 hB0 hr hd hk
 go_enter Tryz.func138,Tryz.ntmps138
 go_wp2_with fail
 refine HI.out.mono ?_
 rintro r w1 ⟨rfl,hb1⟩
 have HB1:=zz (HB0.out.trans (hb1.mono HB0.out.size))
 clear hb1
 go_wp2_with fail
 first | exact bodyPost_panic rfl ⟨rfl,HB1.out⟩ | exact ⟨rfl,rfl,HB1.out⟩ | (simp [bodyPost];exact ⟨rfl,HB1.out⟩)
theorem take_yes {P:Nat→Prop} {B:Nat} {l:List Tk} {tp:Option Addr} {tn tc tk:Nat} {k:Int} {vr ve vs vf vd vp:Value} {w:World} (h:PLook P B l tp tn tc tk vr ve vs vf vd vp w) (hk:isD l tk k=true) :
 Calls Tryz.prog 138 #[.pointer (some ⟨B,0,none⟩),.int .i64 k] w fun r w'=>r=.returned (.agg (tkC (tkAt l tk)).toArray)∧Hold B (psC tp tn tc (tk+1) vr ve vs vf vd vp) 63 w'∧Kept B w w':=by
 obtain ⟨h1,s1⟩:=(show Hold w.heap.size #[.int .i64 0,.string ⟨#[]⟩,.int .i64 0,.int .i64 0,.int .i64 0] 51 (w.alloc (.cells #[.int .i64 0,.string ⟨#[]⟩,.int .i64 0,.int .i64 0,.int .i64 0] 51))∧(w.alloc (.cells #[.int .i64 0,.string ⟨#[]⟩,.int .i64 0,.int .i64 0,.int .i64 0] 51)).heap.size=w.heap.size+1 from ⟨Hold.new _ _ _,by simp⟩)
 have hB0:Below w.heap.size w ((w.alloc (.cells #[.int .i64 0,.string ⟨#[]⟩,.int .i64 0,.int .i64 0,.int .i64 0] 51)).alloc (.cells #[.int .i64 k] 3)):=((Below.refl _ w).alloc (Nat.le_refl _) _).alloc (by simp) _
 have hr:=Hold.new (w.alloc (.cells #[.int .i64 0,.string ⟨#[]⟩,.int .i64 0,.int .i64 0,.int .i64 0] 51)) #[.int .i64 k] 3
 rw [s1] at hr
 have HB0:=zz hB0
 have HI:=zz (is_any (c:=1) (L:=[k]) (n:=1) (b:=w.heap.size+1) (h.below hB0) rfl (by omega) (fun i x hx=>by
  cases i with
  | zero=>simp at hx;subst hx;exact hr.cell 0
  | succ i=>simp at hx) hr.lt)
 have hd:decide ((tkAt l tk).kd ∈ [k])=true:=by simpa [isD] using hk
 rw [hd] at HI
 have HH:=zz h
 have HX:=zz fun W (hw:Below w.heap.size w W)=>next_look (k:=0) (h.below hw) (by omega)
 have hres:Hold w.heap.size #[.int .i64 0,.string ⟨#[]⟩,.int .i64 0,.int .i64 0,.int .i64 0] 51 ((w.alloc (.cells #[.int .i64 0,.string ⟨#[]⟩,.int .i64 0,.int .i64 0,.int .i64 0] 51)).alloc (.cells #[.int .i64 k] 3)):=h1.alloc _
 have HRES:=zz hres
 have hblt:B<w.heap.size:=h.hold.lt
 have htk:=h.at'
 unfold tkC at HX
 simp only [Nat.add_zero] at HX
 clear h h1 s1 hB0 hr hd hk hres
 generalize tkAt l tk=t at *
 go_enter Tryz.func138,Tryz.ntmps138
 go_wp2_with fail
 refine HI.out.mono ?_
 rintro r w1 ⟨rfl,hb1⟩
 have HB1:=zz (HB0.out.trans (hb1.mono HB0.out.size))
 have HR1:=zz (HRES.out.below hb1 HRES.out.lt)
 clear hb1
 go_wp2_with fail
 refine (HX.out _ HB1.out).mono ?_
 rintro r w2 ⟨rfl,hb2⟩
 have HB2:=zz (HB1.out.trans (hb2.mono HB1.out.size))
 have hR2:=(HR1.out.below hb2 HR1.out.lt)
 have hP2:=(HH.out.below HB2.out).hold
 have HR2:=zz hR2
 have HP2:=zz hP2
 have hW2:w.heap.size<w2.heap.size:=hR2.lt
 have k1:=(hP2.alloc (.cells #[.int .i64 t.kd,.string (S t.tx),.int .i64 t.nu,.int .i64 t.ln,.int .i64 t.co] 51)).cell 1
 have z1:=(hP2.alloc (.cells #[.int .i64 t.kd,.string (S t.tx),.int .i64 t.nu,.int .i64 t.ln,.int .i64 t.co] 51)).frozen 1
 simp only [lGA,lGS,lGZ] at k1
 have hwr:IntKind.i64.wrap ((tk:Int)+1)=(tk:Int)+1:=wrap_i (by omega) (by omega)
 have hbn:B≠w2.heap.size:=by have:=HP2.out.lt;omega
 have hbw:B≠w.heap.size:=by omega
 have hV:=(HR2.out.alloc (.cells #[.int .i64 t.kd,.string (S t.tx),.int .i64 t.nu,.int .i64 t.ln,.int .i64 t.co] 51)).other (show w.heap.size≠B by omega) 1 (.int .i64 ((tk:Int)+1))
 have q0:=hV.cell 0
 have q1:=hV.cell 1
 have q2:=hV.cell 2
 have q3:=hV.cell 3
 have q4:=hV.cell 4
 have y0:=hV.frozen 0
 have y1:=hV.frozen 1
 have y2:=hV.frozen 2
 have y3:=hV.frozen 3
 have y4:=hV.frozen 4
 simp only [lGA,lGS,lGZ] at q0 q1 q2 q3 q4
 have HV:=zz hV
 clear hb2 hR2 hP2 hV
 go_wp2_with fail
 have hfin:Hold w.heap.size #[.int .i64 t.kd,.string (S t.tx),.int .i64 t.nu,.int .i64 t.ln,.int .i64 t.co] 51 (((((((w2.alloc (.cells #[.int .i64 t.kd,.string (S t.tx),.int .i64 t.nu,.int .i64 t.ln,.int .i64 t.co] 51)).setCell ⟨B,1,none⟩ (.int .i64 ((tk:Int)+1))).setCell ⟨w.heap.size,0,none⟩ (.int .i64 t.kd)).setCell ⟨w.heap.size,1,none⟩ (.string (S t.tx))).setCell ⟨w.heap.size,2,none⟩ (.int .i64 t.nu)).setCell ⟨w.heap.size,3,none⟩ (.int .i64 t.ln)).setCell ⟨w.heap.size,4,none⟩ (.int .i64 t.co)):=((((HV.out.set 0 _).set 1 _).set 2 _).set 3 _).set 4 _
 have f0:=hfin.cell 0
 have f1:=hfin.cell 1
 have f2:=hfin.cell 2
 have f3:=hfin.cell 3
 have f4:=hfin.cell 4
 simp only [lGA,lGS,lGZ] at f0 f1 f2 f3 f4
 refine bodyPost_ret (v:=.agg (tkC t).toArray) (by simp only [results,Tryz.results138];go_simp;rfl) rfl ?_
 refine ⟨rfl,?_,?_⟩
 ·have hs:=(HP2.out.alloc (.cells #[.int .i64 t.kd,.string (S t.tx),.int .i64 t.nu,.int .i64 t.ln,.int .i64 t.co] 51)).set 1 (.int .i64 ((tk:Int)+1))
  have hs5:=((((hs.other hbw 0 (.int .i64 t.kd)).other hbw 1 (.string (S t.tx))).other hbw 2 (.int .i64 t.nu)).other hbw 3 (.int .i64 t.ln)).other hbw 4 (.int .i64 t.co)
  exact hs5
 ·have hk:KP (fun b=>b<w.heap.size∧b≠B) w (w2.alloc (.cells #[.int .i64 t.kd,.string (S t.tx),.int .i64 t.nu,.int .i64 t.ln,.int .i64 t.co] 51)):=KP.of_below (HB2.out.alloc HB2.out.size _) (fun b hb=>hb.1)
  have hset:∀ {W:World} {n i:Nat} {v:Value},(n=B∨n=w.heap.size)→KP (fun b=>b<w.heap.size∧b≠B) w W→KP (fun b=>b<w.heap.size∧b≠B) w (W.setCell ⟨n,i,none⟩ v):=fun hn h=>⟨h.os,h.tape,h.output,by simpa using h.size,fun b hb=>(Below.heap_setCell _ _ _ b (fun e=>by
   have e':b=_:=e
   rcases hn with hn | hn
   ·exact hb.2 (e'.trans hn)
   ·exact Nat.lt_irrefl _ (Nat.lt_of_lt_of_le hb.1 (Nat.le_of_eq (e'.trans hn).symm)))).trans (h.block b hb)⟩
  exact hset (.inr rfl) (hset (.inr rfl) (hset (.inr rfl) (hset (.inr rfl) (hset (.inr rfl) (hset (.inl rfl) hk)))))
theorem key_no {P:Nat→Prop} {B:Nat} {l:List Tk} {tp:Option Addr} {tn tc tk:Nat} {s:List UInt8} {vr ve vs vf vd vp:Value} {w:World} (h:PLook P B l tp tn tc tk vr ve vs vf vd vp w) (hk:isK l tk s=false) :
 Calls Tryz.prog 74 #[.pointer (some ⟨B,0,none⟩),.string (S s)] w fun r w'=>r=.panicked stuckV∧Below w.heap.size w w':=by
 have hB0:Below w.heap.size w (w.alloc (.cells #[.string (S s)] 9)):=(Below.refl _ w).alloc (Nat.le_refl _) _
 have hr:=Hold.new w #[.string (S s)] 9
 have HB0:=zz hB0
 have HI:=zz (isKey_any (c:=1) (L:=[s]) (n:=1) (b:=w.heap.size) (h.below hB0) rfl (by omega) (fun i x hx=>by
  cases i with
  | zero=>simp at hx;subst hx;exact hr.cell 0
  | succ i=>simp at hx) hr.lt)
 rw [show ([s].any fun s=>isK l tk s)=false by simpa using hk] at HI
 clear h hB0 hr hk
 go_enter Tryz.func74,Tryz.ntmps74
 go_wp2_with fail
 refine HI.out.mono ?_
 rintro r w1 ⟨rfl,hb1⟩
 have HB1:=zz (HB0.out.trans (hb1.mono HB0.out.size))
 clear hb1
 go_wp2_with fail
 first | exact bodyPost_panic rfl ⟨rfl,HB1.out⟩ | exact ⟨rfl,rfl,HB1.out⟩ | (simp [bodyPost];exact ⟨rfl,HB1.out⟩)
theorem key_yes {P:Nat→Prop} {B:Nat} {l:List Tk} {tp:Option Addr} {tn tc tk:Nat} {s:List UInt8} {vr ve vs vf vd vp:Value} {w:World} (h:PLook P B l tp tn tc tk vr ve vs vf vd vp w) (hk:isK l tk s=true) :
 Calls Tryz.prog 74 #[.pointer (some ⟨B,0,none⟩),.string (S s)] w fun r w'=>r=.returned (.tuple #[])∧Hold B (psC tp tn tc (tk+1) vr ve vs vf vd vp) 63 w'∧Kept B w w':=by
 have hB0:Below w.heap.size w (w.alloc (.cells #[.string (S s)] 9)):=(Below.refl _ w).alloc (Nat.le_refl _) _
 have hr:=Hold.new w #[.string (S s)] 9
 have HB0:=zz hB0
 have HI:=zz (isKey_any (c:=1) (L:=[s]) (n:=1) (b:=w.heap.size) (h.below hB0) rfl (by omega) (fun i x hx=>by
  cases i with
  | zero=>simp at hx;subst hx;exact hr.cell 0
  | succ i=>simp at hx) hr.lt)
 rw [show ([s].any fun s=>isK l tk s)=true by simpa using hk] at HI
 have h4:isD l tk 4=true:=by unfold isK at hk;rw [Bool.and_eq_true] at hk;exact hk.1
 have HT:=zz fun W (hw:Below w.heap.size w W)=>take_yes (k:=4) (h.below hw) h4
 clear h hB0 hr hk h4
 unfold tkC at HT
 generalize tkAt l tk=t at *
 go_enter Tryz.func74,Tryz.ntmps74
 go_wp2_with fail
 refine HI.out.mono ?_
 rintro r w1 ⟨rfl,hb1⟩
 have HB1:=zz (HB0.out.trans (hb1.mono HB0.out.size))
 clear hb1
 go_wp2_with fail
 refine (HT.out _ HB1.out).mono ?_
 rintro r w2 ⟨rfl,hh,hkp⟩
 have HH:=zz hh
 have HK:Hid (Kept B w w2):=⟨hkp.os.trans HB1.out.os,hkp.tape.trans HB1.out.tape,hkp.output.trans HB1.out.output,Nat.le_trans HB1.out.size hkp.size,fun b hb=>(hkp.block b ⟨Nat.lt_of_lt_of_le hb.1 HB1.out.size,hb.2⟩).trans (HB1.out.block b hb.1)⟩
 clear hh hkp
 go_wp2_with fail
 go_end0
 exact ⟨rfl,HH.out,HK.out⟩
theorem name_no {P:Nat→Prop} {B:Nat} {l:List Tk} {tp:Option Addr} {tn tc tk:Nat} {vr ve vs vf vd vp:Value} {w:World} (h:PLook P B l tp tn tc tk vr ve vs vf vd vp w) (hk:isD l tk 2=false) :
 Calls Tryz.prog 117 #[.pointer (some ⟨B,0,none⟩)] w fun r w'=>r=.panicked stuckV∧Below w.heap.size w w':=by
 have HT:=zz (take_no (k:=2) h hk)
 clear h hk
 unfold stuckV at *
 go_enter Tryz.func117,Tryz.ntmps117
 go_wp2_with fail
 refine HT.out.mono ?_
 rintro r w1 ⟨rfl,hb1⟩
 have HB1:=zz hb1
 clear hb1
 go_wp2_with fail
 first | exact bodyPost_panic rfl ⟨rfl,HB1.out⟩ | exact ⟨rfl,rfl,HB1.out⟩ | (simp [bodyPost];exact ⟨rfl,HB1.out⟩)
theorem name_yes {P:Nat→Prop} {B:Nat} {l:List Tk} {tp:Option Addr} {tn tc tk:Nat} {vr ve vs vf vd vp:Value} {w:World} (h:PLook P B l tp tn tc tk vr ve vs vf vd vp w) (hk:isD l tk 2=true) :
 Calls Tryz.prog 117 #[.pointer (some ⟨B,0,none⟩)] w fun r w'=>r=.returned (.string (S (tkAt l tk).tx))∧Hold B (psC tp tn tc (tk+1) vr ve vs vf vd vp) 63 w'∧Kept B w w':=by
 have HT:=zz (take_yes (k:=2) h hk)
 have hft:=fldT
 clear h hk
 unfold tkC at HT
 generalize tkAt l tk=t at *
 go_enter Tryz.func117,Tryz.ntmps117
 go_wp2_with fail
 refine HT.out.mono ?_
 rintro r w2 ⟨rfl,hh,hkp⟩
 have HH:=zz hh
 have HK:=zz hkp
 clear hh hkp
 go_wp2_with fail
 go_ret
 exact ⟨rfl,HH.out,HK.out⟩
theorem con_no {P:Nat→Prop} {B:Nat} {l:List Tk} {tp:Option Addr} {tn tc tk:Nat} {vr ve vs vf vd vp:Value} {w:World} (h:PLook P B l tp tn tc tk vr ve vs vf vd vp w) (hk:isD l tk 3=false) :
 Calls Tryz.prog 174 #[.pointer (some ⟨B,0,none⟩)] w fun r w'=>r=.panicked stuckV∧Below w.heap.size w w':=by
 have HT:=zz (take_no (k:=3) h hk)
 clear h hk
 unfold stuckV at *
 go_enter Tryz.func174,Tryz.ntmps174
 go_wp2_with fail
 refine HT.out.mono ?_
 rintro r w1 ⟨rfl,hb1⟩
 have HB1:=zz hb1
 clear hb1
 go_wp2_with fail
 first | exact bodyPost_panic rfl ⟨rfl,HB1.out⟩ | exact ⟨rfl,rfl,HB1.out⟩ | (simp [bodyPost];exact ⟨rfl,HB1.out⟩)
theorem con_yes {P:Nat→Prop} {B:Nat} {l:List Tk} {tp:Option Addr} {tn tc tk:Nat} {vr ve vs vf vd vp:Value} {w:World} (h:PLook P B l tp tn tc tk vr ve vs vf vd vp w) (hk:isD l tk 3=true) :
 Calls Tryz.prog 174 #[.pointer (some ⟨B,0,none⟩)] w fun r w'=>r=.returned (.string (S (tkAt l tk).tx))∧Hold B (psC tp tn tc (tk+1) vr ve vs vf vd vp) 63 w'∧Kept B w w':=by
 have HT:=zz (take_yes (k:=3) h hk)
 have hft:=fldT
 clear h hk
 unfold tkC at HT
 generalize tkAt l tk=t at *
 go_enter Tryz.func174,Tryz.ntmps174
 go_wp2_with fail
 refine HT.out.mono ?_
 rintro r w2 ⟨rfl,hh,hkp⟩
 have HH:=zz hh
 have HK:=zz hkp
 clear hh hkp
 go_wp2_with fail
 go_ret
 exact ⟨rfl,HH.out,HK.out⟩
theorem later_any (B:Nat) (s:ByteArray) (w:World) :
 Calls Tryz.prog 76 #[.pointer (some ⟨B,0,none⟩),.string s] w fun r w'=>r=.returned (.func (.func 140) #[] #[.pointer (some ⟨w.heap.size,0,none⟩),.pointer (some ⟨w.heap.size+1,0,none⟩)])∧w'=(w.alloc (.cells #[.pointer (some ⟨B,0,none⟩)] 58)).alloc (.cells #[.string s] 9):=by
 have hmf:=mkf
 go_enter Tryz.func76,Tryz.ntmps76
 go_wp2_with fail
 go_ret
 exact ⟨rfl,rfl⟩
theorem later1_no {P:Nat→Prop} {B p q:Nat} {l:List Tk} {tp:Option Addr} {tn tc tk:Nat} {s:List UInt8} {vr ve vs vf vd vp:Value} {w:World} (h:PLook P B l tp tn tc tk vr ve vs vf vd vp w) (hp:w.cell? ⟨p,0,none⟩=some (.pointer (some ⟨B,0,none⟩))) (hq:w.cell? ⟨q,0,none⟩=some (.string (S s))) (hk:isK l tk s=false) :
 Calls Tryz.prog 140 #[.pointer (some ⟨p,0,none⟩),.pointer (some ⟨q,0,none⟩)] w fun r w'=>r=.panicked stuckV∧Below w.heap.size w w':=by
 have HT:=zz (key_no h hk)
 clear h hk
 unfold stuckV at *
 go_enter Tryz.func140,Tryz.ntmps140
 go_wp2_with fail
 refine HT.out.mono ?_
 rintro r w1 ⟨rfl,hb1⟩
 have HB1:=zz hb1
 clear hb1
 go_wp2_with fail
 first | exact bodyPost_panic rfl ⟨rfl,HB1.out⟩ | exact ⟨rfl,rfl,HB1.out⟩ | (simp [bodyPost];exact ⟨rfl,HB1.out⟩)
theorem later1_yes {P:Nat→Prop} {B p q:Nat} {l:List Tk} {tp:Option Addr} {tn tc tk:Nat} {s:List UInt8} {vr ve vs vf vd vp:Value} {w:World} (h:PLook P B l tp tn tc tk vr ve vs vf vd vp w) (hp:w.cell? ⟨p,0,none⟩=some (.pointer (some ⟨B,0,none⟩))) (hq:w.cell? ⟨q,0,none⟩=some (.string (S s))) (hk:isK l tk s=true) :
 Calls Tryz.prog 140 #[.pointer (some ⟨p,0,none⟩),.pointer (some ⟨q,0,none⟩)] w fun r w'=>r=.returned (.tuple #[])∧Hold B (psC tp tn tc (tk+1) vr ve vs vf vd vp) 63 w'∧Kept B w w':=by
 have HT:=zz (key_yes h hk)
 clear h hk
 go_enter Tryz.func140,Tryz.ntmps140
 go_wp2_with fail
 refine HT.out.mono ?_
 rintro r w2 ⟨rfl,hh,hkp⟩
 have HH:=zz hh
 have HK:=zz hkp
 clear hh hkp
 go_wp2_with fail
 go_end0
 exact ⟨rfl,HH.out,HK.out⟩
theorem end_no {P:Nat→Prop} {B:Nat} {l:List Tk} {tp:Option Addr} {tn tc tk:Nat} {vr ve vs vf vd vp:Value} {w:World} (h:PLook P B l tp tn tc tk vr ve vs vf vd vp w) (hk:tk<tn) :
 Calls Tryz.prog 56 #[.pointer (some ⟨B,0,none⟩)] w fun r w'=>r=.panicked stuckV∧Below w.heap.size w w':=by
 have c0:=h.hold.cell 0
 have c1:=h.hold.cell 1
 simp only [lGA,lGS,lGZ] at c0 c1
 have h1:(tk:Int)<tn:=by omega
 clear h
 unfold stuckV
 go_enter Tryz.func56,Tryz.ntmps56
 go_wp2_with fail
 go_quiet (fail)
 go_wp2_with fail
 have hb:∀ n,Below w.heap.size w (w.drewN n):=fun n=>⟨rfl,rfl,rfl,Nat.le_refl _,fun _ _=>rfl⟩
 first | exact bodyPost_panic rfl ⟨rfl,hb _⟩ | exact ⟨rfl,rfl,hb _⟩ | (simp [bodyPost];exact hb _)
theorem end_yes {P:Nat→Prop} {B:Nat} {l:List Tk} {tp:Option Addr} {tn tc tk:Nat} {vr ve vs vf vd vp:Value} {w:World} (h:PLook P B l tp tn tc tk vr ve vs vf vd vp w) (hk:¬ tk<tn) :
 Calls Tryz.prog 56 #[.pointer (some ⟨B,0,none⟩)] w fun r w'=>r=.returned (.tuple #[])∧Below w.heap.size w w':=by
 have c0:=h.hold.cell 0
 have c1:=h.hold.cell 1
 simp only [lGA,lGS,lGZ] at c0 c1
 have h1:¬ (tk:Int)<tn:=by omega
 clear h
 go_enter Tryz.func56,Tryz.ntmps56
 go_wp2_with fail
 go_quiet (fail)
 go_wp2_with fail
 have hb:∀ n,Below w.heap.size w (w.drewN n):=fun n=>⟨rfl,rfl,rfl,Nat.le_refl _,fun _ _=>rfl⟩
 go_end0
 exact ⟨rfl,hb _⟩
theorem isAtom_any {P:Nat→Prop} {B:Nat} {l:List Tk} {tp:Option Addr} {tn tc tk:Nat} {vr ve vs vf vd vp:Value} {w:World} (h:PLook P B l tp tn tc tk vr ve vs vf vd vp w) :
 Calls Tryz.prog 241 #[.pointer (some ⟨B,0,none⟩)] w fun r w'=>r=.returned (.bool (isAtm l tk))∧Below w.heap.size w w':=by
 have hB0:Below w.heap.size w (w.alloc (.cells #[.int .i64 1,.int .i64 2,.int .i64 3] 3)):=(Below.refl _ w).alloc (Nat.le_refl _) _
 have hr:=Hold.new w #[.int .i64 1,.int .i64 2,.int .i64 3] 3
 have HB0:=zz hB0
 have HI:=zz (is_any (c:=3) (L:=[1,2,3]) (n:=3) (b:=w.heap.size) (h.below hB0) rfl (by omega) (fun i x hx=>by
  rcases i with _ | _ | _ | i
  ·simp at hx;subst hx;exact hr.cell 0
  ·simp at hx;subst hx;exact hr.cell 1
  ·simp at hx;subst hx;exact hr.cell 2
  ·simp at hx) hr.lt)
 have HK:=zz fun W (hw:Below w.heap.size w W)=>isKey_any (c:=1) (L:=[sLeft]) (n:=1) (b:=W.heap.size) ((h.below hw).below ((Below.refl _ W).alloc (Nat.le_refl _) (.cells #[.string ⟨#[40]⟩] 9))) rfl (by omega) (fun i x hx=>by
  rcases i with _ | i
  ·simp at hx;subst hx;exact (Hold.new W #[.string ⟨#[40]⟩] 9).cell 0
  ·simp at hx) (Hold.new W #[.string ⟨#[40]⟩] 9).lt
 have HR:Hid (isAtm l tk=(decide ((tkAt l tk).kd ∈ ([1,2,3]:List Int)) || ([sLeft].any fun s=>isK l tk s))):=by
  show _=_
  unfold isAtm isD
  rw [Bool.eq_iff_iff]
  simp only [Bool.or_eq_true,decide_eq_true_eq,List.mem_cons,List.not_mem_nil,or_false,List.any_cons,List.any_nil,Bool.or_false]
  constructor
  ·rintro (((h | h) | h) | h)
   ·exact .inl (.inl h)
   ·exact .inl (.inr (.inl h))
   ·exact .inl (.inr (.inr h))
   ·exact .inr h
  ·rintro ((h | h | h) | h)
   ·exact .inl (.inl (.inl h))
   ·exact .inl (.inl (.inr h))
   ·exact .inl (.inr h)
   ·exact .inr h
 clear h hB0 hr
 generalize isAtm l tk=rv at *
 generalize decide ((tkAt l tk).kd ∈ ([1,2,3]:List Int))=d1 at *
 generalize ([sLeft].any fun s=>isK l tk s)=d2 at *
 cases d1
 ·go_enter Tryz.func241,Tryz.ntmps241
  go_wp2_with fail
  refine HI.out.mono ?_
  rintro r w1 ⟨rfl,hb1⟩
  have HB1:=zz (HB0.out.trans (hb1.mono HB0.out.size))
  clear hb1
  go_wp2_with fail
  refine (HK.out _ HB1.out).mono ?_
  rintro r w2 ⟨rfl,hb2⟩
  have HB2:Hid (Below w.heap.size w w2):=HB1.out.trans ((((Below.refl _ w1).alloc (Nat.le_refl _) (.cells #[.string ⟨#[40]⟩] 9)).trans (hb2.mono (by simp))).mono HB1.out.size)
  clear hb2
  go_wp2_with fail
  go_ret
  exact ⟨by rw [HR.out];rfl,HB2.out⟩
 ·go_enter Tryz.func241,Tryz.ntmps241
  go_wp2_with fail
  refine HI.out.mono ?_
  rintro r w1 ⟨rfl,hb1⟩
  have HB1:=zz (HB0.out.trans (hb1.mono HB0.out.size))
  clear hb1
  go_wp2_with fail
  go_ret
  exact ⟨by rw [HR.out];rfl,HB1.out⟩
end Go.Proofs.YtcnnlecjdkfdjaaGreatDoor
namespace Go.Proofs.YtcnnlecjdkfdjaaGreatDoor
def Good (nd:Nat):List Ru→Nat→Nat→Prop
 | [],m,_=>nd≤m
 | r :: q,m,s=>match r.k with
  | 0=>Good nd q m s
  | 1=>Good nd q 0 0
  | 2=>Good nd q 0 0
  | 3=>Good nd q 0 0
  | 4=>Good nd q m 0
  | 5=>Good nd q m (s+1)
  | 6=>1≤s∧Good nd q m s
  | 7=>Good nd q m (s+1)
  | 8=>Good nd q m s
  | 9=>Good nd q m (s+1)
  | 10=>Good nd q (m+1) s
  | 11=>Good nd q (m+1) s
  | 12=>Good nd q (m+1) s
  | 14=>1≤m∧Good nd q m s
  | 15=>Good nd q (m+1) s
  | 16=>1≤m∧Good nd q m s
  | 17=>Good nd q (m+1) s
  | 18=>1≤m∧Good nd q m s
  | 19=>Good nd q (m+1) s
  | 20=>1≤m∧Good nd q m s
  | 21=>Good nd q (m+1) s
  | 22=>Good nd q m s
  | 23=>(r.j=3∧Good nd q 0 0)∨(r.j=4∧Good nd q m 0)∨((r.j=11∨r.j=12)∧Good nd q m s)
  | 24=>r.n<m∧Good nd q (r.n+1) s
  | 25=>r.n≤s∧Good nd q m (r.n+1)
  | 26=>Good nd q m s
  | 27=>Good nd q m 0
  | 28=>1≤m∧Good nd q 0 s
  | _=>False
theorem Good.mono {nd:Nat} {q:List Ru}:∀ {m s m' s':Nat},Good nd q m s→m≤m'→s≤s'→Good nd q m' s':=by
 induction q with
 | nil=>intro m s m' s' h hm hs;exact Nat.le_trans h hm
 | cons r q ih=>
  intro m s m' s' h hm hs
  obtain ⟨k,sx,j,t,n,ns⟩:=r
  unfold Good at h ⊢
  simp only at h ⊢
  split at h <;> (try simp only at h ⊢)
  case h_23=>
   rcases h with ⟨h1,h2⟩ | ⟨h1,h2⟩ | ⟨h1,h2⟩
   ·exact .inl ⟨h1,h2⟩
   ·exact .inr (.inl ⟨h1,ih h2 hm (Nat.le_refl _)⟩)
   ·exact .inr (.inr ⟨h1,ih h2 hm hs⟩)
  all_goals first
   | exact ih h (by omega) (by omega)
   | exact ⟨by omega,ih h.2 (by omega) (by omega)⟩
   | exact h
def tot (p:Ps):Nat:=p.ex.length+p.sg.length+p.fm.length+p.ds.length+p.fs.length
def GoodP (nd:Nat) (p:Ps):Prop:=Good nd p.ru p.ex.length p.sg.length
theorem good_makes {nd:Nat} {q:List Ru} {s n:Nat} (ns:List (List UInt8)) (h:Good nd q (n+1) s):Good nd ((ns.map fun m=>rMake (bindT 4 m) n) ++ q) (n+1) s:=by
 induction ns with
 | nil=>exact h
 | cons a r ih=>exact ⟨by show n<n+1;omega,ih⟩
theorem data_good {nd:Nat} {l:List Tk} {p q:Ps} (hg:Good nd p.ru 0 0) (h:dataR l p=.inr q):GoodP nd q∧tot q≤tot p+1:=by
 obtain ⟨p1,h1,h2⟩:=then_inv h
 obtain ⟨hl,rfl⟩:=key_inv h1
 obtain ⟨hl2,h3⟩:=take_inv (by decide) h2
 unfold namesR at h3
 simp only at h3 hl2
 obtain ⟨p2,h4,h5⟩:=then_inv h3
 obtain ⟨hl3,rfl⟩:=key_inv h4
 cases h5
 refine ⟨?_,by simp [tot]⟩
 exact .inr (.inl ⟨rfl,hg.mono (Nat.zero_le _) (Nat.zero_le _)⟩)
theorem def_good {nd:Nat} {l:List Tk} {p q:Ps} (hg:Good nd p.ru 0 0) (h:defR l p=.inr q):GoodP nd q∧tot q≤tot p+1:=by
 obtain ⟨hl,h2⟩:=take_inv (by decide) h
 unfold namesR at h2
 simp only at h2
 obtain ⟨p2,h4,h5⟩:=then_inv h2
 obtain ⟨hl3,rfl⟩:=key_inv h4
 cases h5
 refine ⟨?_,by simp [tot]⟩
 show Good nd (_ ++ _) (p.ex.length+1) p.sg.length
 exact good_makes _ ⟨by show 1≤p.ex.length+1;omega,hg.mono (Nat.zero_le _) (Nat.zero_le _)⟩
theorem sigAtom_good {nd:Nat} {l:List Tk} {p q:Ps} (hg:Good nd p.ru p.ex.length (p.sg.length+1)) (h:sigAtomR l p=.inr q):GoodP nd q∧tot q≤tot p+1:=by
 unfold sigAtomR at h
 split at h
 ·obtain ⟨hl,h2⟩:=take_inv (by decide) h
  cases h2
  exact ⟨by unfold GoodP;simpa using hg,by simp [tot];omega⟩
 ·split at h
  ·obtain ⟨hl,h2⟩:=take_inv (by decide) h
   cases h2
   exact ⟨by unfold GoodP;simpa using hg,by simp [tot];omega⟩
  ·obtain ⟨p1,h1,h2⟩:=then_inv h
   obtain ⟨hl,rfl⟩:=key_inv h1
   cases h2
   exact ⟨hg,by simp [tot]⟩
theorem atom_good {nd:Nat} {l:List Tk} {p q:Ps} (hg:Good nd p.ru (p.ex.length+1) p.sg.length) (h:atomR l p=.inr q):GoodP nd q∧tot q≤tot p+1:=by
 unfold atomR at h
 split at h
 ·obtain ⟨hl,h2⟩:=take_inv (by decide) h
  cases h2
  exact ⟨by unfold GoodP;simpa using hg,by simp [tot];omega⟩
 ·split at h
  ·obtain ⟨hl,h2⟩:=take_inv (by decide) h
   cases h2
   exact ⟨by unfold GoodP;simpa using hg,by simp [tot];omega⟩
  ·split at h
   ·obtain ⟨hl,h2⟩:=take_inv (by decide) h
    cases h2
    exact ⟨by unfold GoodP;simpa using hg,by simp [tot];omega⟩
   ·obtain ⟨p1,h1,h2⟩:=then_inv h
    obtain ⟨hl,rfl⟩:=key_inv h1
    cases h2
    exact ⟨hg,by simp [tot]⟩
theorem expr_good {nd:Nat} {l:List Tk} {p q:Ps} (hg:Good nd p.ru (p.ex.length+1) p.sg.length) (h:exprR l p=.inr q):GoodP nd q∧tot q≤tot p+1:=by
 unfold exprR at h
 repeat' split at h
 ·obtain ⟨p1,h1,h2⟩:=then_inv h
  obtain ⟨hl,rfl⟩:=key_inv h1
  obtain ⟨hl2,h3⟩:=take_inv (by decide) h2
  obtain ⟨p2,h4,h5⟩:=then_inv h3
  obtain ⟨hl3,rfl⟩:=key_inv h4
  cases h5
  exact ⟨⟨by show p.ex.length<p.ex.length+1;omega,hg⟩,by simp [tot]⟩
 ·obtain ⟨p1,h1,h2⟩:=then_inv h
  obtain ⟨hl,rfl⟩:=key_inv h1
  obtain ⟨hl2,h3⟩:=take_inv (by decide) h2
  obtain ⟨p2,h4,h5⟩:=then_inv h3
  obtain ⟨hl3,rfl⟩:=key_inv h4
  cases h5
  exact ⟨⟨by show p.ex.length<p.ex.length+1+1;omega,hg⟩,by simp [tot]⟩
 ·obtain ⟨p1,h1,h2⟩:=then_inv h
  obtain ⟨hl,rfl⟩:=key_inv h1
  cases h2
  exact ⟨.inr (.inr ⟨.inl rfl,⟨by show p.ex.length<p.ex.length+1+1;omega,hg⟩⟩),by simp [tot]⟩
 ·obtain ⟨p1,h1,h2⟩:=then_inv h
  obtain ⟨hl,rfl⟩:=key_inv h1
  cases h2
  exact ⟨⟨by show p.ex.length<p.ex.length+1+1+1;omega,hg⟩,by simp [tot]⟩
 ·obtain ⟨p1,h1,h2⟩:=then_inv h
  obtain ⟨hl,rfl⟩:=key_inv h1
  cases h2
  exact ⟨.inr (.inr ⟨.inr rfl,⟨by show p.ex.length<p.ex.length+1;omega,hg⟩⟩),by simp [tot]⟩
 ·obtain ⟨p1,h1,h2⟩:=then_inv h
  obtain ⟨hl,rfl⟩:=key_inv h1
  cases h2
  exact ⟨.inr (.inr ⟨.inr rfl,⟨by show p.ex.length<p.ex.length+1;omega,hg⟩⟩),by simp [tot]⟩
 ·cases h
  exact ⟨⟨by show 1≤p.ex.length+1;omega,hg⟩,by simp [tot]⟩
theorem oper_good {l:List Tk} {p q:Ps} {f:Ru→Ps→Rs} (h:operR l p f=.inr q):∃ t,f (rMake (opT t) (p.ex.length - 1)) { p with tk:=p.tk+1 }=.inr q:=by
 obtain ⟨hl,h2⟩:=take_inv (by decide) h
 exact ⟨_,h2⟩
theorem rule_good {nd:Nat} {l:List Tk} {r:Ru} {p q:Ps} (hg:Good nd (r :: p.ru) p.ex.length p.sg.length) (h:ruleR l r p=.inr q):GoodP nd q∧tot q≤tot p+1:=by
 obtain ⟨k,s,j,t,n,ns⟩:=r
 have same:∀ {q:Ps},Good nd p.ru p.ex.length p.sg.length→(.inr p:Rs)=.inr q→GoodP nd q∧tot q≤tot p+1:=fun hg h=>by cases h;exact ⟨hg,by omega⟩
 unfold ruleR at h
 unfold Good at hg
 simp only at h hg
 split at h <;> simp only at hg
 ·unfold endR at h
  split at h
  ·cases h
  ·exact same hg h
 ·obtain ⟨p1,h1,h2⟩:=then_inv h
  obtain ⟨hl,rfl⟩:=key_inv h1
  cases h2
  exact ⟨hg,by simp [tot]⟩
 ·unfold declsR at h
  split at h
  ·exact same (hg.mono (Nat.zero_le _) (Nat.zero_le _)) h
  ·cases h
   exact ⟨.inl ⟨rfl,hg⟩,by simp [tot]⟩
 ·unfold declR at h
  split at h
  ·exact data_good hg h
  ·exact def_good hg h
 ·obtain ⟨hl,h2⟩:=take_inv (by decide) h
  cases h2
  exact ⟨hg,by simp [tot]⟩
 ·cases h
  exact ⟨⟨by show 1≤p.sg.length+1;omega,hg⟩,by simp [tot]⟩
 ·unfold arrowR at h
  split at h
  ·obtain ⟨p1,h1,h2⟩:=then_inv h
   obtain ⟨hl,rfl⟩:=key_inv h1
   cases h2
   refine ⟨⟨by show p.sg.length - 1≤p.sg.length+1;omega,?_⟩,by simp [tot]⟩
   show Good nd p.ru p.ex.length (p.sg.length - 1+1)
   rw [Nat.sub_add_cancel hg.1]
   exact hg.2
  ·exact same hg.2 h
 ·unfold sigAppR at h
  split at h
  ·obtain ⟨hl,h2⟩:=take_inv (by decide) h
   cases h2
   exact ⟨⟨Nat.le_refl _,hg⟩,by simp [tot]⟩
  ·exact sigAtom_good hg h
 ·unfold sigAtomsR at h
  split at h
  ·cases h
   exact ⟨hg.mono (Nat.le_refl _) (Nat.le_succ _),by simp [tot]⟩
  ·exact same hg h
 ·exact sigAtom_good hg h
 ·exact expr_good hg h
 ·obtain ⟨hl,h2⟩:=take_inv (by decide) h
  unfold namesR at h2
  simp only at h2
  obtain ⟨p2,h4,h5⟩:=then_inv h2
  obtain ⟨hl3,rfl⟩:=key_inv h4
  cases h5
  exact ⟨⟨by show p.ex.length<p.ex.length+1;omega,hg⟩,by simp [tot]⟩
 ·unfold lineR at h
  split at h
  ·obtain ⟨hl,h2⟩:=take_inv (by decide) h
   cases h2
   exact ⟨⟨by show p.ex.length<p.ex.length+1;omega,hg⟩,by simp [tot]⟩
  ·exact expr_good hg h
 ·unfold comparedR at h
  split at h
  ·obtain ⟨t,h2⟩:=oper_good h
   cases h2
   refine ⟨⟨by show p.ex.length - 1<p.ex.length+1;omega,?_⟩,by simp [tot]⟩
   show Good nd p.ru (p.ex.length - 1+1) _
   rw [Nat.sub_add_cancel hg.1];exact hg.2
  ·exact same hg.2 h
 ·cases h
  exact ⟨⟨by show 1≤p.ex.length+1;omega,hg⟩,by simp [tot]⟩
 ·unfold addedR at h
  split at h
  ·obtain ⟨t,h2⟩:=oper_good h
   cases h2
   refine ⟨⟨by show p.ex.length - 1<p.ex.length+1;omega,?_⟩,by simp [tot]⟩
   show 1≤p.ex.length - 1+1∧Good nd p.ru (p.ex.length - 1+1) _
   rw [Nat.sub_add_cancel hg.1];exact hg
  ·exact same hg.2 h
 ·cases h
  exact ⟨⟨by show 1≤p.ex.length+1;omega,hg⟩,by simp [tot]⟩
 ·unfold multipliedR at h
  split at h
  ·obtain ⟨t,h2⟩:=oper_good h
   cases h2
   refine ⟨⟨by show p.ex.length - 1<p.ex.length+1;omega,?_⟩,by simp [tot]⟩
   show 1≤p.ex.length - 1+1∧Good nd p.ru (p.ex.length - 1+1) _
   rw [Nat.sub_add_cancel hg.1];exact hg
  ·exact same hg.2 h
 ·cases h
  exact ⟨⟨by show 1≤p.ex.length+1;omega,hg⟩,by simp [tot]⟩
 ·unfold appliedR at h
  split at h
  ·cases h
   refine ⟨⟨by show p.ex.length - 1<p.ex.length+1;omega,?_⟩,by simp [tot]⟩
   show 1≤p.ex.length - 1+1∧Good nd p.ru (p.ex.length - 1+1) _
   rw [Nat.sub_add_cancel hg.1];exact hg
  ·exact same hg.2 h
 ·exact atom_good hg h
 ·obtain ⟨hl,rfl⟩:=key_inv h
  exact ⟨hg,by simp [tot]⟩
 ·unfold moreR at h
  split at h
  ·obtain ⟨p1,h1,h2⟩:=then_inv h
   obtain ⟨hl,rfl⟩:=key_inv h1
   cases h2
   refine ⟨?_,by simp [tot]⟩
   rcases hg with ⟨rfl,hg⟩ | ⟨rfl,hg⟩ | ⟨rfl | rfl,hg⟩
   ·exact .inl ⟨rfl,hg⟩
   ·exact .inr (.inl ⟨rfl,hg⟩)
   ·exact .inr (.inr ⟨.inl rfl,hg.mono (Nat.le_succ _) (Nat.le_refl _)⟩)
   ·exact .inr (.inr ⟨.inr rfl,hg.mono (Nat.le_succ _) (Nat.le_refl _)⟩)
  ·refine same ?_ h
   rcases hg with ⟨_,hg⟩ | ⟨_,hg⟩ | ⟨_,hg⟩
   ·exact hg.mono (Nat.zero_le _) (Nat.zero_le _)
   ·exact hg.mono (Nat.le_refl _) (Nat.zero_le _)
   ·exact hg
 ·cases h
  refine ⟨?_,by simp [tot];omega⟩
  unfold GoodP
  simp only [List.length_append,List.length_take,List.length_singleton,Nat.min_eq_left (Nat.le_of_lt hg.1)]
  exact hg.2
 ·cases h
  refine ⟨?_,by simp [tot];omega⟩
  unfold GoodP
  simp only [List.length_append,List.length_take,List.length_singleton,Nat.min_eq_left hg.1]
  exact hg.2
 ·cases h
  exact ⟨hg,by simp [tot];omega⟩
 ·cases h
  exact ⟨hg,by simp [tot];omega⟩
 ·cases h
  exact ⟨hg.2,by simp [tot];omega⟩
end Go.Proofs.YtcnnlecjdkfdjaaGreatDoor
