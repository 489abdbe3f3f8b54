/- Contains IsKey Take Key Name Later EndR: the texts of these names, of which the claim is made. -/
import Derived.Deep.LoopGhost
import Derived.Test.YtcnnlecjdkfdjaaGreatDoorNext
import Derived.WalkSmall
set_option linter.unusedVariables false
set_option linter.unusedSimpArgs false
set_option maxRecDepth 100000
set_option maxHeartbeats 8000000
namespace Go.Proofs.YtcnnlecjdkfdjaaGreatDoor
open Go.RowKit
def IdxQ (m:Prop) (w:World) (e:Ending) (w':World):Prop:=(∃ r:Int,e=.returned (.int .i64 r)∧(0≤r ↔ m)∧-1≤r)∧w'=w
def RowInt (w:World) (b:Nat) (L:List (Int)):Prop:=∀ (i:Nat) x,L[i]?=some x→w.cell? ⟨b,i,none⟩=some (.int .i64 x)
theorem indexInt {b n c:Nat} {L:List (Int)} {v:Int} {w:World} (hn:L.length=n) (hm:n≤1000) (hM:RowInt w b L) :
 Calls Tryz.prog 213 #[.slice (some ⟨b,0,none⟩) n c,.int .i64 v] w (IdxQ (v ∈ L) w):=by
 have HM:=hide hM
 have HN:=hide hn
 clear hM hn
 have HQ:Hid (∀ r:Int,(0≤r ↔ v ∈ L)→-1≤r→IdxQ (v ∈ L) w (.returned (.int .i64 r)) w):=fun r h1 h2=>⟨⟨r,rfl,h1,h2⟩,rfl⟩
 generalize hmm:(v ∈ L)=mm at *
 have HMM:=hide hmm
 clear hmm
 go_enter Tryz.func213,Tryz.ntmps213
 go_wp2_with fail
 go_loopg [8] n (fun k s8 wr=>∃ i:Nat,i≤n∧k=n - i∧s8=.int .i64 i∧w=wr∧v ∉ L.take i)
 case atStart=>exact ⟨0,Nat.zero_le _,by omega,rfl,rfl,by simp⟩
 case round=>
  obtain ⟨i,hi1,rfl,rfl,rfl,hno⟩:=hrel
  have HNO:=hide hno
  clear hno
  by_cases hlt:i<n
  ·have hil:i<L.length:=by rw [HN.out];exact hlt
   have a0:=HM.out i L[i] (by simp)
   have htk:L.take (i+1)=L.take i ++ [L[i]]:=List.take_succ_eq_append_getElem hil
   have hmem:L[i] ∈ L:=by simp
   have hii:(i:Int)<n:=by omega
   generalize L[i]=x at *
   have HTK:=hide htk
   have HMEM:=hide hmem
   clear htk hmem
   by_cases hxy:v=x
   ·have hq:(v == x)=true:=by simpa using hxy
    have HR:=hide (HQ.out (i:Int) ⟨fun _=>by rw [← HMM.out,hxy];exact HMEM.out,fun _=>by omega⟩ (by omega))
    clear hxy
    go_wp2_with fail
    go_ret
    exact HR.out
   ·have hq:(v == x)=false:=by simpa using hxy
    have HXY:=hide hxy
    clear hxy
    go_wp2_with fail
    go_roundg (n - (i+1))
    case measure=>omega
    case rel=>exact ⟨i+1,by omega,rfl,by go_num,rfl,by rw [HTK.out];simp only [List.mem_append,List.mem_singleton,not_or];exact ⟨HNO.out,HXY.out⟩⟩
  ·have HR:=hide (HQ.out (-1) ⟨fun h=>absurd h (by omega),fun h=>absurd (HMM.out ▸ h) (by have:=HNO.out;rw [List.take_of_length_le (by rw [HN.out];omega)] at this;exact this)⟩ (by omega))
   have hii:¬ (i:Int)<n:=by omega
   go_wp2_with fail
   go_ret
   exact HR.out
theorem containsInt {b n c:Nat} {L:List (Int)} {v:Int} {w:World} (hn:L.length=n) (hm:n≤1000) (hM:RowInt w b L) :
 Calls Tryz.prog 171 #[.slice (some ⟨b,0,none⟩) n c,.int .i64 v] w fun e w'=>e=.returned (.bool (decide (v ∈ L)))∧w'=w:=by
 have HI:=hide (indexInt (c:=c) (v:=v) hn hm hM)
 clear hM
 generalize hd:decide (v ∈ L)=d at *
 have HD:=hide hd
 clear hd
 go_enter Tryz.func171,Tryz.ntmps171
 go_wp2_with fail
 refine HI.out.mono ?_
 rintro e w' ⟨⟨r,rfl,h1,h2⟩,rfl⟩
 have HH:=hide h1
 clear h1
 go_wp2_with fail
 go_ret
 exact ⟨by rw [← HD.out,← decide_eq_decide.2 HH.out];rfl,rfl⟩
def RowStr (w:World) (b:Nat) (L:List (List UInt8)):Prop:=∀ (i:Nat) x,L[i]?=some x→w.cell? ⟨b,i,none⟩=some (.string (S x))
theorem indexStr {b n c:Nat} {L:List (List UInt8)} {v:List UInt8} {w:World} (hn:L.length=n) (hm:n≤1000) (hM:RowStr w b L) :
 Calls Tryz.prog 172 #[.slice (some ⟨b,0,none⟩) n c,.string (S v)] w (IdxQ (v ∈ L) w):=by
 have HM:=hide hM
 have HN:=hide hn
 clear hM hn
 have HQ:Hid (∀ r:Int,(0≤r ↔ v ∈ L)→-1≤r→IdxQ (v ∈ L) w (.returned (.int .i64 r)) w):=fun r h1 h2=>⟨⟨r,rfl,h1,h2⟩,rfl⟩
 generalize hmm:(v ∈ L)=mm at *
 have HMM:=hide hmm
 clear hmm
 go_enter Tryz.func172,Tryz.ntmps172
 go_wp2_with fail
 go_loopg [8] n (fun k s8 wr=>∃ i:Nat,i≤n∧k=n - i∧s8=.int .i64 i∧w=wr∧v ∉ L.take i)
 case atStart=>exact ⟨0,Nat.zero_le _,by omega,rfl,rfl,by simp⟩
 case round=>
  obtain ⟨i,hi1,rfl,rfl,rfl,hno⟩:=hrel
  have HNO:=hide hno
  clear hno
  by_cases hlt:i<n
  ·have hil:i<L.length:=by rw [HN.out];exact hlt
   have a0:=HM.out i L[i] (by simp)
   have htk:L.take (i+1)=L.take i ++ [L[i]]:=List.take_succ_eq_append_getElem hil
   have hmem:L[i] ∈ L:=by simp
   have hii:(i:Int)<n:=by omega
   generalize L[i]=x at *
   have HTK:=hide htk
   have HMEM:=hide hmem
   clear htk hmem
   by_cases hxy:v=x
   ·have hq:((S v).toList == (S x).toList)=true:=by rw [S_list,S_list,hxy];simp
    have HR:=hide (HQ.out (i:Int) ⟨fun _=>by rw [← HMM.out,hxy];exact HMEM.out,fun _=>by omega⟩ (by omega))
    clear hxy
    go_wp2_with fail
    go_ret
    exact HR.out
   ·have hq:((S v).toList == (S x).toList)=false:=by rw [S_list,S_list];simpa using hxy
    have HXY:=hide hxy
    clear hxy
    go_wp2_with fail
    go_roundg (n - (i+1))
    case measure=>omega
    case rel=>exact ⟨i+1,by omega,rfl,by go_num,rfl,by rw [HTK.out];simp only [List.mem_append,List.mem_singleton,not_or];exact ⟨HNO.out,HXY.out⟩⟩
  ·have HR:=hide (HQ.out (-1) ⟨fun h=>absurd h (by omega),fun h=>absurd (HMM.out ▸ h) (by have:=HNO.out;rw [List.take_of_length_le (by rw [HN.out];omega)] at this;exact this)⟩ (by omega))
   have hii:¬ (i:Int)<n:=by omega
   go_wp2_with fail
   go_ret
   exact HR.out
theorem containsStr {b n c:Nat} {L:List (List UInt8)} {v:List UInt8} {w:World} (hn:L.length=n) (hm:n≤1000) (hM:RowStr w b L) :
 Calls Tryz.prog 113 #[.slice (some ⟨b,0,none⟩) n c,.string (S v)] w fun e w'=>e=.returned (.bool (decide (v ∈ L)))∧w'=w:=by
 have HI:=hide (indexStr (c:=c) (v:=v) hn hm hM)
 clear hM
 generalize hd:decide (v ∈ L)=d at *
 have HD:=hide hd
 clear hd
 go_enter Tryz.func113,Tryz.ntmps113
 go_wp2_with fail
 refine HI.out.mono ?_
 rintro e w' ⟨⟨r,rfl,h1,h2⟩,rfl⟩
 have HH:=hide h1
 clear h1
 go_wp2_with fail
 go_ret
 exact ⟨by rw [← HD.out,← decide_eq_decide.2 HH.out];rfl,rfl⟩
theorem RowInt.below {w w':World} {b n:Nat} {L:List Int} (h:RowInt w b L) (hb:Below n w w') (hn:b<n):RowInt w' b L:=fun i x hx=>(hb.cell (p:=⟨b,i,none⟩) hn).trans (h i x hx)
theorem RowStr.below {w w':World} {b n:Nat} {L:List (List UInt8)} (h:RowStr w b L) (hb:Below n w w') (hn:b<n):RowStr w' b L:=fun i x hx=>(hb.cell (p:=⟨b,i,none⟩) hn).trans (h i x hx)
theorem fldK (a:Int) (s:ByteArray) (n i c:Int) (w:World):(Instr.field 51 (.agg #[.int .i64 a,.string s,.int .i64 n,.int .i64 i,.int .i64 c]) 0).run Tryz.prog w=.ok (.int .i64 a) w:=by kernel_rfl
theorem fldT (a:Int) (s:ByteArray) (n i c:Int) (w:World):(Instr.field 51 (.agg #[.int .i64 a,.string s,.int .i64 n,.int .i64 i,.int .i64 c]) 1).run Tryz.prog w=.ok (.string s) w:=by kernel_rfl
structure PLook (P:Nat→Prop) (B:Nat) (l:List Tk) (tp:Option Addr) (tn tc tk:Nat) (vr ve vs vf vd vp:Value) (w:World):Prop where
 hold:Hold B (psC tp tn tc tk vr ve vs vf vd vp) 63 w
 lt:∀ b,P b→b<w.heap.size
 len:l.length=tn
 toks:KM P w tp l
 max:tn≤1000000
 at':tk≤1000000
theorem PLook.below {P:Nat→Prop} {B:Nat} {l:List Tk} {tp:Option Addr} {tn tc tk:Nat} {vr ve vs vf vd vp:Value} {w w':World} (h:PLook P B l tp tn tc tk vr ve vs vf vd vp w) (hb:Below w.heap.size w w'):PLook P B l tp tn tc tk vr ve vs vf vd vp w':=
 ⟨h.hold.below hb h.hold.lt,fun b hP=>Nat.lt_of_lt_of_le (h.lt b hP) hb.size,h.len,h.toks.keep (KP.of_below hb h.lt) (fun b hb=>hb) (fun _ _ h=>h),h.max,h.at'⟩
theorem next_look {P:Nat→Prop} {B:Nat} {l:List Tk} {tp:Option Addr} {tn tc tk k:Nat} {vr ve vs vf vd vp:Value} {w:World} (h:PLook P B l tp tn tc tk vr ve vs vf vd vp w) (hk:k≤10) :
 Calls Tryz.prog 114 #[.pointer (some ⟨B,0,none⟩),.int .i64 k] w fun r w'=>r=.returned (.agg (tkC (tkAt l (tk+k))).toArray)∧Below w.heap.size w w':=next_any h.hold h.lt h.len h.toks h.max h.at' hk
theorem is_any {P:Nat→Prop} {B:Nat} {l:List Tk} {tp:Option Addr} {tn tc tk:Nat} {vr ve vs vf vd vp:Value} {w:World} {b n c:Nat} {L:List Int} (h:PLook P B l tp tn tc tk vr ve vs vf vd vp w) (hn:L.length=n) (hm:n≤1000) (hM:RowInt w b L) (hb:b<w.heap.size) :
 Calls Tryz.prog 112 #[.pointer (some ⟨B,0,none⟩),.slice (some ⟨b,0,none⟩) n c] w fun r w'=>r=.returned (.bool (decide ((tkAt l tk).kd ∈ L)))∧Below w.heap.size w w':=by
 have HX:=hide (next_look (k:=0) h (by omega))
 have HC:=hide fun W (hw:Below w.heap.size w W)=>containsInt (c:=c) (v:=(tkAt l tk).kd) hn hm (hM.below hw hb)
 clear h hM
 unfold tkC at HX
 simp only [Nat.add_zero] at HX
 generalize decide ((tkAt l tk).kd ∈ L)=d at *
 generalize tkAt l tk=t at *
 have hfk:=fldK
 go_enter Tryz.func112,Tryz.ntmps112
 go_wp2_with fail
 refine HX.out.mono ?_
 rintro r w1 ⟨rfl,hb1⟩
 have HB1:=hide hb1
 clear hb1
 go_wp2_with fail
 refine (HC.out _ HB1.out).mono ?_
 rintro r w2 ⟨rfl,rfl⟩
 go_wp2_with fail
 go_ret
 exact ⟨rfl,HB1.out⟩
theorem isKey_any {P:Nat→Prop} {B:Nat} {l:List Tk} {tp:Option Addr} {tn tc tk:Nat} {vr ve vs vf vd vp:Value} {w:World} {b n c:Nat} {L:List (List UInt8)} (h:PLook P B l tp tn tc tk vr ve vs vf vd vp w) (hn:L.length=n) (hm:n≤1000) (hM:RowStr w b L) (hb:b<w.heap.size) :
 Calls Tryz.prog 57 #[.pointer (some ⟨B,0,none⟩),.slice (some ⟨b,0,none⟩) n c] w fun r w'=>r=.returned (.bool (L.any fun s=>isK l tk s))∧Below w.heap.size w w':=by
 have hB0:Below w.heap.size w (w.alloc (.cells #[.int .i64 4] 3)):=(Below.refl _ w).alloc (Nat.le_refl _) _
 have HB0:=hide hB0
 have HI:=hide (is_any (c:=1) (L:=[4]) (n:=1) (b:=w.heap.size) (h.below hB0) rfl (by omega) (fun i x hx=>by
  cases i with
  | zero=>simp at hx;subst hx;exact (Hold.new w #[.int .i64 4] 3).cell 0
  | succ i=>simp at hx) (by simp))
 have HX:=hide fun W (hw:Below w.heap.size w W)=>next_look (k:=0) (h.below hw) (by omega)
 have HC:=hide fun W (hw:Below w.heap.size w W)=>containsStr (c:=c) (v:=(tkAt l tk).tx) hn hm (hM.below hw hb)
 have HR:Hid ((L.any fun s=>isK l tk s)=(decide ((tkAt l tk).kd ∈ ([4]:List Int)) && decide ((tkAt l tk).tx ∈ L))):=by
  show _=_
  unfold isK
  rw [Bool.eq_iff_iff]
  simp only [List.any_eq_true,Bool.and_eq_true,decide_eq_true_eq,beq_iff_eq,List.mem_singleton]
  constructor
  ·rintro ⟨s,h1,h2,rfl⟩;exact ⟨h2,h1⟩
  ·rintro ⟨h1,h2⟩;exact ⟨_,h2,h1,rfl⟩
 clear h hM hB0
 unfold tkC at HX
 simp only [Nat.add_zero] at HX
 generalize (L.any fun s=>isK l tk s)=rv at *
 generalize decide ((tkAt l tk).kd ∈ ([4]:List Int))=d1 at *
 generalize decide ((tkAt l tk).tx ∈ L)=d2 at *
 generalize tkAt l tk=t at *
 have hft:=fldT
 cases d1
 ·go_enter Tryz.func57,Tryz.ntmps57
  go_wp2_with fail
  refine HI.out.mono ?_
  rintro r w1 ⟨rfl,hb1⟩
  have HB1:=hide (HB0.out.trans (hb1.mono HB0.out.size))
  clear hb1
  go_wp2_with fail
  go_ret
  exact ⟨by rw [HR.out];rfl,HB1.out⟩
 ·go_enter Tryz.func57,Tryz.ntmps57
  go_wp2_with fail
  refine HI.out.mono ?_
  rintro r w1 ⟨rfl,hb1⟩
  have HB1:=hide (HB0.out.trans (hb1.mono HB0.out.size))
  clear hb1
  go_wp2_with fail
  refine (HX.out _ HB1.out).mono ?_
  rintro r w2 ⟨rfl,hb2⟩
  have HB2:=hide (HB1.out.trans (hb2.mono HB1.out.size))
  clear hb2
  go_wp2_with fail
  refine (HC.out _ HB2.out).mono ?_
  rintro r w3 ⟨rfl,rfl⟩
  go_wp2_with fail
  go_ret
  exact ⟨by rw [HR.out];rfl,HB2.out⟩
def stuckV:List PanicEntry:=[{ v:=.iface 98 (.agg #[]),recovered:=false }]
def Kept (B:Nat) (w w':World):Prop:=KP (fun b=>b<w.heap.size∧b≠B) w w'
theorem take_no {P:Nat→Prop} {B:Nat} {l:List Tk} {tp:Option Addr} {tn tc tk:Nat} {k:Int} {vr ve vs vf vd vp:Value} {w:World} (h:PLook P B l tp tn tc tk vr ve vs vf vd vp w) (hk:isD l tk k=false) :
 Calls Tryz.prog 138 #[.pointer (some ⟨B,0,none⟩),.int .i64 k] w fun r w'=>r=.panicked stuckV∧Below w.heap.size w w':=by
 obtain ⟨h1,s1⟩:=(show Hold w.heap.size #[.int .i64 0,.string ⟨#[]⟩,.int .i64 0,.int .i64 0,.int .i64 0] 51 (w.alloc (.cells #[.int .i64 0,.string ⟨#[]⟩,.int .i64 0,.int .i64 0,.int .i64 0] 51))∧(w.alloc (.cells #[.int .i64 0,.string ⟨#[]⟩,.int .i64 0,.int .i64 0,.int .i64 0] 51)).heap.size=w.heap.size+1 from ⟨Hold.new _ _ _,by simp⟩)
 have hB0:Below w.heap.size w ((w.alloc (.cells #[.int .i64 0,.string ⟨#[]⟩,.int .i64 0,.int .i64 0,.int .i64 0] 51)).alloc (.cells #[.int .i64 k] 3)):=((Below.refl _ w).alloc (Nat.le_refl _) _).alloc (by simp) _
 have hr:=Hold.new (w.alloc (.cells #[.int .i64 0,.string ⟨#[]⟩,.int .i64 0,.int .i64 0,.int .i64 0] 51)) #[.int .i64 k] 3
 rw [s1] at hr
 have HB0:=hide hB0
 have HI:=hide (is_any (c:=1) (L:=[k]) (n:=1) (b:=w.heap.size+1) (h.below hB0) rfl (by omega) (fun i x hx=>by
  cases i with
  | zero=>simp at hx;subst hx;exact hr.cell 0
  | succ i=>simp at hx) hr.lt)
 have hd:decide ((tkAt l tk).kd ∈ [k])=false:=by simpa [isD] using hk
 rw [hd] at HI
 clear h h1 s1 hB0 hr hd hk
 go_enter Tryz.func138,Tryz.ntmps138
 go_wp2_with fail
 refine HI.out.mono ?_
 rintro r w1 ⟨rfl,hb1⟩
 have HB1:=hide (HB0.out.trans (hb1.mono HB0.out.size))
 clear hb1
 go_wp2_with fail
 first | exact bodyPost_panic rfl ⟨rfl,HB1.out⟩ | exact ⟨rfl,rfl,HB1.out⟩ | (simp [bodyPost];exact ⟨rfl,HB1.out⟩)
theorem take_yes {P:Nat→Prop} {B:Nat} {l:List Tk} {tp:Option Addr} {tn tc tk:Nat} {k:Int} {vr ve vs vf vd vp:Value} {w:World} (h:PLook P B l tp tn tc tk vr ve vs vf vd vp w) (hk:isD l tk k=true) :
 Calls Tryz.prog 138 #[.pointer (some ⟨B,0,none⟩),.int .i64 k] w fun r w'=>r=.returned (.agg (tkC (tkAt l tk)).toArray)∧Hold B (psC tp tn tc (tk+1) vr ve vs vf vd vp) 63 w'∧Kept B w w':=by
 obtain ⟨h1,s1⟩:=(show Hold w.heap.size #[.int .i64 0,.string ⟨#[]⟩,.int .i64 0,.int .i64 0,.int .i64 0] 51 (w.alloc (.cells #[.int .i64 0,.string ⟨#[]⟩,.int .i64 0,.int .i64 0,.int .i64 0] 51))∧(w.alloc (.cells #[.int .i64 0,.string ⟨#[]⟩,.int .i64 0,.int .i64 0,.int .i64 0] 51)).heap.size=w.heap.size+1 from ⟨Hold.new _ _ _,by simp⟩)
 have hB0:Below w.heap.size w ((w.alloc (.cells #[.int .i64 0,.string ⟨#[]⟩,.int .i64 0,.int .i64 0,.int .i64 0] 51)).alloc (.cells #[.int .i64 k] 3)):=((Below.refl _ w).alloc (Nat.le_refl _) _).alloc (by simp) _
 have hr:=Hold.new (w.alloc (.cells #[.int .i64 0,.string ⟨#[]⟩,.int .i64 0,.int .i64 0,.int .i64 0] 51)) #[.int .i64 k] 3
 rw [s1] at hr
 have HB0:=hide hB0
 have HI:=hide (is_any (c:=1) (L:=[k]) (n:=1) (b:=w.heap.size+1) (h.below hB0) rfl (by omega) (fun i x hx=>by
  cases i with
  | zero=>simp at hx;subst hx;exact hr.cell 0
  | succ i=>simp at hx) hr.lt)
 have hd:decide ((tkAt l tk).kd ∈ [k])=true:=by simpa [isD] using hk
 rw [hd] at HI
 have HH:=hide h
 have HX:=hide fun W (hw:Below w.heap.size w W)=>next_look (k:=0) (h.below hw) (by omega)
 have hres:Hold w.heap.size #[.int .i64 0,.string ⟨#[]⟩,.int .i64 0,.int .i64 0,.int .i64 0] 51 ((w.alloc (.cells #[.int .i64 0,.string ⟨#[]⟩,.int .i64 0,.int .i64 0,.int .i64 0] 51)).alloc (.cells #[.int .i64 k] 3)):=h1.alloc _
 have HRES:=hide hres
 have hblt:B<w.heap.size:=h.hold.lt
 have htk:=h.at'
 unfold tkC at HX
 simp only [Nat.add_zero] at HX
 clear h h1 s1 hB0 hr hd hk hres
 generalize tkAt l tk=t at *
 go_enter Tryz.func138,Tryz.ntmps138
 go_wp2_with fail
 refine HI.out.mono ?_
 rintro r w1 ⟨rfl,hb1⟩
 have HB1:=hide (HB0.out.trans (hb1.mono HB0.out.size))
 have HR1:=hide (HRES.out.below hb1 HRES.out.lt)
 clear hb1
 go_wp2_with fail
 refine (HX.out _ HB1.out).mono ?_
 rintro r w2 ⟨rfl,hb2⟩
 have HB2:=hide (HB1.out.trans (hb2.mono HB1.out.size))
 have hR2:=(HR1.out.below hb2 HR1.out.lt)
 have hP2:=(HH.out.below HB2.out).hold
 have HR2:=hide hR2
 have HP2:=hide hP2
 have hW2:w.heap.size<w2.heap.size:=hR2.lt
 have k1:=(hP2.alloc (.cells #[.int .i64 t.kd,.string (S t.tx),.int .i64 t.nu,.int .i64 t.ln,.int .i64 t.co] 51)).cell 1
 have z1:=(hP2.alloc (.cells #[.int .i64 t.kd,.string (S t.tx),.int .i64 t.nu,.int .i64 t.ln,.int .i64 t.co] 51)).frozen 1
 simp only [lGA,lGS,lGZ] at k1
 have hwr:IntKind.i64.wrap ((tk:Int)+1)=(tk:Int)+1:=wrap_i (by omega) (by omega)
 have hbn:B≠w2.heap.size:=by have:=HP2.out.lt;omega
 have hbw:B≠w.heap.size:=by omega
 have hV:=(HR2.out.alloc (.cells #[.int .i64 t.kd,.string (S t.tx),.int .i64 t.nu,.int .i64 t.ln,.int .i64 t.co] 51)).other (show w.heap.size≠B by omega) 1 (.int .i64 ((tk:Int)+1))
 have q0:=hV.cell 0
 have q1:=hV.cell 1
 have q2:=hV.cell 2
 have q3:=hV.cell 3
 have q4:=hV.cell 4
 have y0:=hV.frozen 0
 have y1:=hV.frozen 1
 have y2:=hV.frozen 2
 have y3:=hV.frozen 3
 have y4:=hV.frozen 4
 simp only [lGA,lGS,lGZ] at q0 q1 q2 q3 q4
 have HV:=hide hV
 clear hb2 hR2 hP2 hV
 go_wp2_with fail
 have hfin:Hold w.heap.size #[.int .i64 t.kd,.string (S t.tx),.int .i64 t.nu,.int .i64 t.ln,.int .i64 t.co] 51 (((((((w2.alloc (.cells #[.int .i64 t.kd,.string (S t.tx),.int .i64 t.nu,.int .i64 t.ln,.int .i64 t.co] 51)).setCell ⟨B,1,none⟩ (.int .i64 ((tk:Int)+1))).setCell ⟨w.heap.size,0,none⟩ (.int .i64 t.kd)).setCell ⟨w.heap.size,1,none⟩ (.string (S t.tx))).setCell ⟨w.heap.size,2,none⟩ (.int .i64 t.nu)).setCell ⟨w.heap.size,3,none⟩ (.int .i64 t.ln)).setCell ⟨w.heap.size,4,none⟩ (.int .i64 t.co)):=((((HV.out.set 0 _).set 1 _).set 2 _).set 3 _).set 4 _
 have f0:=hfin.cell 0
 have f1:=hfin.cell 1
 have f2:=hfin.cell 2
 have f3:=hfin.cell 3
 have f4:=hfin.cell 4
 simp only [lGA,lGS,lGZ] at f0 f1 f2 f3 f4
 refine bodyPost_ret (v:=.agg (tkC t).toArray) (by simp only [results,Tryz.results138];go_simp;rfl) rfl ?_
 refine ⟨rfl,?_,?_⟩
 ·have hs:=(HP2.out.alloc (.cells #[.int .i64 t.kd,.string (S t.tx),.int .i64 t.nu,.int .i64 t.ln,.int .i64 t.co] 51)).set 1 (.int .i64 ((tk:Int)+1))
  have hs5:=((((hs.other hbw 0 (.int .i64 t.kd)).other hbw 1 (.string (S t.tx))).other hbw 2 (.int .i64 t.nu)).other hbw 3 (.int .i64 t.ln)).other hbw 4 (.int .i64 t.co)
  exact hs5
 ·have hk:KP (fun b=>b<w.heap.size∧b≠B) w (w2.alloc (.cells #[.int .i64 t.kd,.string (S t.tx),.int .i64 t.nu,.int .i64 t.ln,.int .i64 t.co] 51)):=KP.of_below (HB2.out.alloc HB2.out.size _) (fun b hb=>hb.1)
  have hset:∀ {W:World} {n i:Nat} {v:Value},(n=B∨n=w.heap.size)→KP (fun b=>b<w.heap.size∧b≠B) w W→KP (fun b=>b<w.heap.size∧b≠B) w (W.setCell ⟨n,i,none⟩ v):=fun hn h=>⟨h.os,h.tape,h.output,by simpa using h.size,fun b hb=>(Below.heap_setCell _ _ _ b (fun e=>by
   have e':b=_:=e
   rcases hn with hn | hn
   ·exact hb.2 (e'.trans hn)
   ·exact Nat.lt_irrefl _ (Nat.lt_of_lt_of_le hb.1 (Nat.le_of_eq (e'.trans hn).symm)))).trans (h.block b hb)⟩
  exact hset (.inr rfl) (hset (.inr rfl) (hset (.inr rfl) (hset (.inr rfl) (hset (.inr rfl) (hset (.inl rfl) hk)))))
theorem key_no {P:Nat→Prop} {B:Nat} {l:List Tk} {tp:Option Addr} {tn tc tk:Nat} {s:List UInt8} {vr ve vs vf vd vp:Value} {w:World} (h:PLook P B l tp tn tc tk vr ve vs vf vd vp w) (hk:isK l tk s=false) :
 Calls Tryz.prog 74 #[.pointer (some ⟨B,0,none⟩),.string (S s)] w fun r w'=>r=.panicked stuckV∧Below w.heap.size w w':=by
 have hB0:Below w.heap.size w (w.alloc (.cells #[.string (S s)] 9)):=(Below.refl _ w).alloc (Nat.le_refl _) _
 have hr:=Hold.new w #[.string (S s)] 9
 have HB0:=hide hB0
 have HI:=hide (isKey_any (c:=1) (L:=[s]) (n:=1) (b:=w.heap.size) (h.below hB0) rfl (by omega) (fun i x hx=>by
  cases i with
  | zero=>simp at hx;subst hx;exact hr.cell 0
  | succ i=>simp at hx) hr.lt)
 rw [show ([s].any fun s=>isK l tk s)=false by simpa using hk] at HI
 clear h hB0 hr hk
 go_enter Tryz.func74,Tryz.ntmps74
 go_wp2_with fail
 refine HI.out.mono ?_
 rintro r w1 ⟨rfl,hb1⟩
 have HB1:=hide (HB0.out.trans (hb1.mono HB0.out.size))
 clear hb1
 go_wp2_with fail
 first | exact bodyPost_panic rfl ⟨rfl,HB1.out⟩ | exact ⟨rfl,rfl,HB1.out⟩ | (simp [bodyPost];exact ⟨rfl,HB1.out⟩)
theorem key_yes {P:Nat→Prop} {B:Nat} {l:List Tk} {tp:Option Addr} {tn tc tk:Nat} {s:List UInt8} {vr ve vs vf vd vp:Value} {w:World} (h:PLook P B l tp tn tc tk vr ve vs vf vd vp w) (hk:isK l tk s=true) :
 Calls Tryz.prog 74 #[.pointer (some ⟨B,0,none⟩),.string (S s)] w fun r w'=>r=.returned (.tuple #[])∧Hold B (psC tp tn tc (tk+1) vr ve vs vf vd vp) 63 w'∧Kept B w w':=by
 have hB0:Below w.heap.size w (w.alloc (.cells #[.string (S s)] 9)):=(Below.refl _ w).alloc (Nat.le_refl _) _
 have hr:=Hold.new w #[.string (S s)] 9
 have HB0:=hide hB0
 have HI:=hide (isKey_any (c:=1) (L:=[s]) (n:=1) (b:=w.heap.size) (h.below hB0) rfl (by omega) (fun i x hx=>by
  cases i with
  | zero=>simp at hx;subst hx;exact hr.cell 0
  | succ i=>simp at hx) hr.lt)
 rw [show ([s].any fun s=>isK l tk s)=true by simpa using hk] at HI
 have h4:isD l tk 4=true:=by unfold isK at hk;rw [Bool.and_eq_true] at hk;exact hk.1
 have HT:=hide fun W (hw:Below w.heap.size w W)=>take_yes (k:=4) (h.below hw) h4
 clear h hB0 hr hk h4
 unfold tkC at HT
 generalize tkAt l tk=t at *
 go_enter Tryz.func74,Tryz.ntmps74
 go_wp2_with fail
 refine HI.out.mono ?_
 rintro r w1 ⟨rfl,hb1⟩
 have HB1:=hide (HB0.out.trans (hb1.mono HB0.out.size))
 clear hb1
 go_wp2_with fail
 refine (HT.out _ HB1.out).mono ?_
 rintro r w2 ⟨rfl,hh,hkp⟩
 have HH:=hide hh
 have HK:Hid (Kept B w w2):=⟨hkp.os.trans HB1.out.os,hkp.tape.trans HB1.out.tape,hkp.output.trans HB1.out.output,Nat.le_trans HB1.out.size hkp.size,fun b hb=>(hkp.block b ⟨Nat.lt_of_lt_of_le hb.1 HB1.out.size,hb.2⟩).trans (HB1.out.block b hb.1)⟩
 clear hh hkp
 go_wp2_with fail
 go_end0
 exact ⟨rfl,HH.out,HK.out⟩
theorem name_no {P:Nat→Prop} {B:Nat} {l:List Tk} {tp:Option Addr} {tn tc tk:Nat} {vr ve vs vf vd vp:Value} {w:World} (h:PLook P B l tp tn tc tk vr ve vs vf vd vp w) (hk:isD l tk 2=false) :
 Calls Tryz.prog 117 #[.pointer (some ⟨B,0,none⟩)] w fun r w'=>r=.panicked stuckV∧Below w.heap.size w w':=by
 have HT:=hide (take_no (k:=2) h hk)
 clear h hk
 unfold stuckV at *
 go_enter Tryz.func117,Tryz.ntmps117
 go_wp2_with fail
 refine HT.out.mono ?_
 rintro r w1 ⟨rfl,hb1⟩
 have HB1:=hide hb1
 clear hb1
 go_wp2_with fail
 first | exact bodyPost_panic rfl ⟨rfl,HB1.out⟩ | exact ⟨rfl,rfl,HB1.out⟩ | (simp [bodyPost];exact ⟨rfl,HB1.out⟩)
theorem name_yes {P:Nat→Prop} {B:Nat} {l:List Tk} {tp:Option Addr} {tn tc tk:Nat} {vr ve vs vf vd vp:Value} {w:World} (h:PLook P B l tp tn tc tk vr ve vs vf vd vp w) (hk:isD l tk 2=true) :
 Calls Tryz.prog 117 #[.pointer (some ⟨B,0,none⟩)] w fun r w'=>r=.returned (.string (S (tkAt l tk).tx))∧Hold B (psC tp tn tc (tk+1) vr ve vs vf vd vp) 63 w'∧Kept B w w':=by
 have HT:=hide (take_yes (k:=2) h hk)
 have hft:=fldT
 clear h hk
 unfold tkC at HT
 generalize tkAt l tk=t at *
 go_enter Tryz.func117,Tryz.ntmps117
 go_wp2_with fail
 refine HT.out.mono ?_
 rintro r w2 ⟨rfl,hh,hkp⟩
 have HH:=hide hh
 have HK:=hide hkp
 clear hh hkp
 go_wp2_with fail
 go_ret
 exact ⟨rfl,HH.out,HK.out⟩
theorem con_no {P:Nat→Prop} {B:Nat} {l:List Tk} {tp:Option Addr} {tn tc tk:Nat} {vr ve vs vf vd vp:Value} {w:World} (h:PLook P B l tp tn tc tk vr ve vs vf vd vp w) (hk:isD l tk 3=false) :
 Calls Tryz.prog 174 #[.pointer (some ⟨B,0,none⟩)] w fun r w'=>r=.panicked stuckV∧Below w.heap.size w w':=by
 have HT:=hide (take_no (k:=3) h hk)
 clear h hk
 unfold stuckV at *
 go_enter Tryz.func174,Tryz.ntmps174
 go_wp2_with fail
 refine HT.out.mono ?_
 rintro r w1 ⟨rfl,hb1⟩
 have HB1:=hide hb1
 clear hb1
 go_wp2_with fail
 first | exact bodyPost_panic rfl ⟨rfl,HB1.out⟩ | exact ⟨rfl,rfl,HB1.out⟩ | (simp [bodyPost];exact ⟨rfl,HB1.out⟩)
theorem con_yes {P:Nat→Prop} {B:Nat} {l:List Tk} {tp:Option Addr} {tn tc tk:Nat} {vr ve vs vf vd vp:Value} {w:World} (h:PLook P B l tp tn tc tk vr ve vs vf vd vp w) (hk:isD l tk 3=true) :
 Calls Tryz.prog 174 #[.pointer (some ⟨B,0,none⟩)] w fun r w'=>r=.returned (.string (S (tkAt l tk).tx))∧Hold B (psC tp tn tc (tk+1) vr ve vs vf vd vp) 63 w'∧Kept B w w':=by
 have HT:=hide (take_yes (k:=3) h hk)
 have hft:=fldT
 clear h hk
 unfold tkC at HT
 generalize tkAt l tk=t at *
 go_enter Tryz.func174,Tryz.ntmps174
 go_wp2_with fail
 refine HT.out.mono ?_
 rintro r w2 ⟨rfl,hh,hkp⟩
 have HH:=hide hh
 have HK:=hide hkp
 clear hh hkp
 go_wp2_with fail
 go_ret
 exact ⟨rfl,HH.out,HK.out⟩
theorem later_any (B:Nat) (s:ByteArray) (w:World) :
 Calls Tryz.prog 76 #[.pointer (some ⟨B,0,none⟩),.string s] w fun r w'=>r=.returned (.func (.func 140) #[] #[.pointer (some ⟨w.heap.size,0,none⟩),.pointer (some ⟨w.heap.size+1,0,none⟩)])∧w'=(w.alloc (.cells #[.pointer (some ⟨B,0,none⟩)] 58)).alloc (.cells #[.string s] 9):=by
 have hmf:=mkf
 go_enter Tryz.func76,Tryz.ntmps76
 go_wp2_with fail
 go_ret
 exact ⟨rfl,rfl⟩
theorem later1_no {P:Nat→Prop} {B p q:Nat} {l:List Tk} {tp:Option Addr} {tn tc tk:Nat} {s:List UInt8} {vr ve vs vf vd vp:Value} {w:World} (h:PLook P B l tp tn tc tk vr ve vs vf vd vp w) (hp:w.cell? ⟨p,0,none⟩=some (.pointer (some ⟨B,0,none⟩))) (hq:w.cell? ⟨q,0,none⟩=some (.string (S s))) (hk:isK l tk s=false) :
 Calls Tryz.prog 140 #[.pointer (some ⟨p,0,none⟩),.pointer (some ⟨q,0,none⟩)] w fun r w'=>r=.panicked stuckV∧Below w.heap.size w w':=by
 have HT:=hide (key_no h hk)
 clear h hk
 unfold stuckV at *
 go_enter Tryz.func140,Tryz.ntmps140
 go_wp2_with fail
 refine HT.out.mono ?_
 rintro r w1 ⟨rfl,hb1⟩
 have HB1:=hide hb1
 clear hb1
 go_wp2_with fail
 first | exact bodyPost_panic rfl ⟨rfl,HB1.out⟩ | exact ⟨rfl,rfl,HB1.out⟩ | (simp [bodyPost];exact ⟨rfl,HB1.out⟩)
theorem later1_yes {P:Nat→Prop} {B p q:Nat} {l:List Tk} {tp:Option Addr} {tn tc tk:Nat} {s:List UInt8} {vr ve vs vf vd vp:Value} {w:World} (h:PLook P B l tp tn tc tk vr ve vs vf vd vp w) (hp:w.cell? ⟨p,0,none⟩=some (.pointer (some ⟨B,0,none⟩))) (hq:w.cell? ⟨q,0,none⟩=some (.string (S s))) (hk:isK l tk s=true) :
 Calls Tryz.prog 140 #[.pointer (some ⟨p,0,none⟩),.pointer (some ⟨q,0,none⟩)] w fun r w'=>r=.returned (.tuple #[])∧Hold B (psC tp tn tc (tk+1) vr ve vs vf vd vp) 63 w'∧Kept B w w':=by
 have HT:=hide (key_yes h hk)
 clear h hk
 go_enter Tryz.func140,Tryz.ntmps140
 go_wp2_with fail
 refine HT.out.mono ?_
 rintro r w2 ⟨rfl,hh,hkp⟩
 have HH:=hide hh
 have HK:=hide hkp
 clear hh hkp
 go_wp2_with fail
 go_end0
 exact ⟨rfl,HH.out,HK.out⟩
theorem end_no {P:Nat→Prop} {B:Nat} {l:List Tk} {tp:Option Addr} {tn tc tk:Nat} {vr ve vs vf vd vp:Value} {w:World} (h:PLook P B l tp tn tc tk vr ve vs vf vd vp w) (hk:tk<tn) :
 Calls Tryz.prog 56 #[.pointer (some ⟨B,0,none⟩)] w fun r w'=>r=.panicked stuckV∧Below w.heap.size w w':=by
 have c0:=h.hold.cell 0
 have c1:=h.hold.cell 1
 simp only [lGA,lGS,lGZ] at c0 c1
 have h1:(tk:Int)<tn:=by omega
 clear h
 unfold stuckV
 go_enter Tryz.func56,Tryz.ntmps56
 go_wp2_with fail
 go_quiet (fail)
 go_wp2_with fail
 have hb:∀ n,Below w.heap.size w (w.drewN n):=fun n=>⟨rfl,rfl,rfl,Nat.le_refl _,fun _ _=>rfl⟩
 first | exact bodyPost_panic rfl ⟨rfl,hb _⟩ | exact ⟨rfl,rfl,hb _⟩ | (simp [bodyPost];exact hb _)
theorem end_yes {P:Nat→Prop} {B:Nat} {l:List Tk} {tp:Option Addr} {tn tc tk:Nat} {vr ve vs vf vd vp:Value} {w:World} (h:PLook P B l tp tn tc tk vr ve vs vf vd vp w) (hk:¬ tk<tn) :
 Calls Tryz.prog 56 #[.pointer (some ⟨B,0,none⟩)] w fun r w'=>r=.returned (.tuple #[])∧Below w.heap.size w w':=by
 have c0:=h.hold.cell 0
 have c1:=h.hold.cell 1
 simp only [lGA,lGS,lGZ] at c0 c1
 have h1:¬ (tk:Int)<tn:=by omega
 clear h
 go_enter Tryz.func56,Tryz.ntmps56
 go_wp2_with fail
 go_quiet (fail)
 go_wp2_with fail
 have hb:∀ n,Below w.heap.size w (w.drewN n):=fun n=>⟨rfl,rfl,rfl,Nat.le_refl _,fun _ _=>rfl⟩
 go_end0
 exact ⟨rfl,hb _⟩
theorem isAtom_any {P:Nat→Prop} {B:Nat} {l:List Tk} {tp:Option Addr} {tn tc tk:Nat} {vr ve vs vf vd vp:Value} {w:World} (h:PLook P B l tp tn tc tk vr ve vs vf vd vp w) :
 Calls Tryz.prog 241 #[.pointer (some ⟨B,0,none⟩)] w fun r w'=>r=.returned (.bool (isAtm l tk))∧Below w.heap.size w w':=by
 have hB0:Below w.heap.size w (w.alloc (.cells #[.int .i64 1,.int .i64 2,.int .i64 3] 3)):=(Below.refl _ w).alloc (Nat.le_refl _) _
 have hr:=Hold.new w #[.int .i64 1,.int .i64 2,.int .i64 3] 3
 have HB0:=hide hB0
 have HI:=hide (is_any (c:=3) (L:=[1,2,3]) (n:=3) (b:=w.heap.size) (h.below hB0) rfl (by omega) (fun i x hx=>by
  rcases i with _ | _ | _ | i
  ·simp at hx;subst hx;exact hr.cell 0
  ·simp at hx;subst hx;exact hr.cell 1
  ·simp at hx;subst hx;exact hr.cell 2
  ·simp at hx) hr.lt)
 have HK:=hide fun W (hw:Below w.heap.size w W)=>isKey_any (c:=1) (L:=[sLeft]) (n:=1) (b:=W.heap.size) ((h.below hw).below ((Below.refl _ W).alloc (Nat.le_refl _) (.cells #[.string ⟨#[40]⟩] 9))) rfl (by omega) (fun i x hx=>by
  rcases i with _ | i
  ·simp at hx;subst hx;exact (Hold.new W #[.string ⟨#[40]⟩] 9).cell 0
  ·simp at hx) (Hold.new W #[.string ⟨#[40]⟩] 9).lt
 have HR:Hid (isAtm l tk=(decide ((tkAt l tk).kd ∈ ([1,2,3]:List Int)) || ([sLeft].any fun s=>isK l tk s))):=by
  show _=_
  unfold isAtm isD
  rw [Bool.eq_iff_iff]
  simp only [Bool.or_eq_true,decide_eq_true_eq,List.mem_cons,List.not_mem_nil,or_false,List.any_cons,List.any_nil,Bool.or_false]
  constructor
  ·rintro (((h | h) | h) | h)
   ·exact .inl (.inl h)
   ·exact .inl (.inr (.inl h))
   ·exact .inl (.inr (.inr h))
   ·exact .inr h
  ·rintro ((h | h | h) | h)
   ·exact .inl (.inl (.inl h))
   ·exact .inl (.inl (.inr h))
   ·exact .inl (.inr h)
   ·exact .inr h
 clear h hB0 hr
 generalize isAtm l tk=rv at *
 generalize decide ((tkAt l tk).kd ∈ ([1,2,3]:List Int))=d1 at *
 generalize ([sLeft].any fun s=>isK l tk s)=d2 at *
 cases d1
 ·go_enter Tryz.func241,Tryz.ntmps241
  go_wp2_with fail
  refine HI.out.mono ?_
  rintro r w1 ⟨rfl,hb1⟩
  have HB1:=hide (HB0.out.trans (hb1.mono HB0.out.size))
  clear hb1
  go_wp2_with fail
  refine (HK.out _ HB1.out).mono ?_
  rintro r w2 ⟨rfl,hb2⟩
  have HB2:Hid (Below w.heap.size w w2):=HB1.out.trans ((((Below.refl _ w1).alloc (Nat.le_refl _) (.cells #[.string ⟨#[40]⟩] 9)).trans (hb2.mono (by simp))).mono HB1.out.size)
  clear hb2
  go_wp2_with fail
  go_ret
  exact ⟨by rw [HR.out];rfl,HB2.out⟩
 ·go_enter Tryz.func241,Tryz.ntmps241
  go_wp2_with fail
  refine HI.out.mono ?_
  rintro r w1 ⟨rfl,hb1⟩
  have HB1:=hide (HB0.out.trans (hb1.mono HB0.out.size))
  clear hb1
  go_wp2_with fail
  go_ret
  exact ⟨by rw [HR.out];rfl,HB1.out⟩
end Go.Proofs.YtcnnlecjdkfdjaaGreatDoor
