/- LyIs LyPut LyLast LyBegin LyEnds: the texts of these names, of which the claim is made. -/
import Derived.Test.YtcnnlecjdkfdjaaGreatDoorLyBase
set_option linter.unusedVariables false
set_option linter.unusedSimpArgs false
set_option maxRecDepth 100000
set_option maxHeartbeats 8000000
namespace Go.Proofs.YtcnnlecjdkfdjaaGreatDoor.Ly
open Go.RowKit
def isK (t:Tok) (l:List UInt8):Bool:=t.kd == 4 && t.tx == l
theorem is_any (t:Tok) (l:List UInt8) (w:World):Calls Tryz.prog 45 #[tv t,.string (S l)] w fun e w'=>e=.returned (.bool (isK t l))∧Below w.heap.size w w':=by
 have h1:=S_list t.tx
 have h2:=S_list l
 unfold isK tv
 generalize S t.tx=s at *
 generalize S l=u at *
 generalize t.kd=k at *
 by_cases h:k=4
 ·subst h
  go_enter Tryz.func45,Tryz.ntmps45
  go_wp2
  go_ret
  exact ⟨rfl,(Below.refl _ _).alloc (Nat.le_refl _) _⟩
 ·have h4:(k == 4)=false:=by simpa using h
  go_enter Tryz.func45,Tryz.ntmps45
  go_wp2
  go_ret
  exact ⟨by simp [h],(Below.refl _ _).alloc (Nat.le_refl _) _⟩
def opensK (t:Tok):Bool:=isK t [40] || isK t [123]
def closesK (t:Tok):Bool:=isK t [41] || isK t [125]
def beginsK (t:Tok):Bool:=isK t [111,102] || isK t [100,111] || isK t [100,111,115]
theorem opens_any (t:Tok) (w:World):Calls Tryz.prog 106 #[tv t] w fun e w'=>e=.returned (.bool (opensK t))∧Below w.heap.size w w':=by
 unfold opensK
 have A:=hide (fun w=>is_any t [40] w)
 have C:=hide (fun w=>is_any t [123] w)
 have T0:=TB.new w t
 unfold tv at A C ⊢
 cases h:isK t [40] <;> rw [h] at A
 ·go_enter Tryz.func106,Tryz.ntmps106
  go_wp2_with fail
  refine (A.out _).mono ?_;rintro e w1 ⟨rfl,b1⟩
  obtain ⟨c0,c1,c2,c3,c4⟩:=(T0.below b1 (by simp)).cells
  go_wp2_with fail
  refine (C.out _).mono ?_;rintro e w2 ⟨rfl,b2⟩;go_wp2_with fail
  go_ret
  exact ⟨by simp,(below_next b1).trans (b2.mono (below_next b1).size)⟩
 ·go_enter Tryz.func106,Tryz.ntmps106
  go_wp2_with fail
  refine (A.out _).mono ?_;rintro e w1 ⟨rfl,b1⟩
  go_wp2_with fail
  go_ret
  exact ⟨by simp,below_next b1⟩
theorem closes_any (t:Tok) (w:World):Calls Tryz.prog 48 #[tv t] w fun e w'=>e=.returned (.bool (closesK t))∧Below w.heap.size w w':=by
 unfold closesK
 have A:=hide (fun w=>is_any t [41] w)
 have C:=hide (fun w=>is_any t [125] w)
 have T0:=TB.new w t
 unfold tv at A C ⊢
 cases h:isK t [41] <;> rw [h] at A
 ·go_enter Tryz.func48,Tryz.ntmps48
  go_wp2_with fail
  refine (A.out _).mono ?_;rintro e w1 ⟨rfl,b1⟩
  obtain ⟨c0,c1,c2,c3,c4⟩:=(T0.below b1 (by simp)).cells
  go_wp2_with fail
  refine (C.out _).mono ?_;rintro e w2 ⟨rfl,b2⟩;go_wp2_with fail
  go_ret
  exact ⟨by simp,(below_next b1).trans (b2.mono (below_next b1).size)⟩
 ·go_enter Tryz.func48,Tryz.ntmps48
  go_wp2_with fail
  refine (A.out _).mono ?_;rintro e w1 ⟨rfl,b1⟩
  go_wp2_with fail
  go_ret
  exact ⟨by simp,below_next b1⟩
theorem begins_any (t:Tok) (w:World):Calls Tryz.prog 107 #[tv t] w fun e w'=>e=.returned (.bool (beginsK t))∧Below w.heap.size w w':=by
 unfold beginsK
 have A:=hide (fun w=>is_any t [111,102] w)
 have C:=hide (fun w=>is_any t [100,111] w)
 have D:=hide (fun w=>is_any t [100,111,115] w)
 have T0:=TB.new w t
 unfold tv at A C D ⊢
 cases h:isK t [111,102] <;> rw [h] at A
 ·cases h2:isK t [100,111] <;> rw [h2] at C
  ·go_enter Tryz.func107,Tryz.ntmps107
   go_wp2_with fail
   refine (A.out _).mono ?_;rintro e w1 ⟨rfl,b1⟩
   have T1:=T0.below b1 (by simp)
   obtain ⟨c0,c1,c2,c3,c4⟩:=T1.cells
   go_wp2_with fail
   refine (C.out _).mono ?_;rintro e w2 ⟨rfl,b2⟩
   obtain ⟨d0,d1,d2,d3,d4⟩:=(T1.below b2 (Hold.lt T1)).cells
   go_wp2_with fail
   refine (D.out _).mono ?_;rintro e w3 ⟨rfl,b3⟩
   go_wp2_with fail
   go_ret
   have B2:=(below_next b1).trans (b2.mono (below_next b1).size)
   exact ⟨by simp,B2.trans (b3.mono B2.size)⟩
  ·go_enter Tryz.func107,Tryz.ntmps107
   go_wp2_with fail
   refine (A.out _).mono ?_;rintro e w1 ⟨rfl,b1⟩
   have T1:=T0.below b1 (by simp)
   obtain ⟨c0,c1,c2,c3,c4⟩:=T1.cells
   go_wp2_with fail
   refine (C.out _).mono ?_;rintro e w2 ⟨rfl,b2⟩
   go_wp2_with fail
   go_ret
   exact ⟨by simp,(below_next b1).trans (b2.mono (below_next b1).size)⟩
 ·go_enter Tryz.func107,Tryz.ntmps107
  go_wp2_with fail
  refine (A.out _).mono ?_;rintro e w1 ⟨rfl,b1⟩
  go_wp2_with fail
  go_ret
  exact ⟨by simp,below_next b1⟩
theorem LS.put {P:Nat→Prop} {B:Nat} {o:List Tok} {st:List Blk} {f:Bool} {pa:Option Addr} {ca:Nat} {po:Option Addr} {co:Nat} {w W W1:World} (h:LS P B o st f pa ca po co w) (hB:Below w.heap.size w W) (t:Tok) {g cap H:Nat}
 (hown:W1.ownsRow 0 51 5 (.slice (some ⟨g,0,none⟩) (o.length+1) cap) (o.length+1) (tcs o ++ tc t)) (hg:W.grownBy W1 (Value.slice pa o.length ca).ownBlock) (hat:(Value.slice pa o.length ca).ownBlock=some g∨g=H) (hH:w.heap.size≤H) :
 L P B (o ++ [t]) st f (W1.setCell ⟨B,0,none⟩ (.slice (some ⟨g,0,none⟩) (o.length+1) cap))∧KP P w (W1.setCell ⟨B,0,none⟩ (.slice (some ⟨g,0,none⟩) (o.length+1) cap)):=by
 obtain ⟨hH1,hT,hO,hA⟩:=h
 have nB:some B≠(Value.slice pa o.length ca).ownBlock:=row_ne hH1 hT (by decide)
 have hlt:=hH1.lt
 have HB:Hold B #[.slice pa o.length ca,.slice po st.length co,.bool f] 89 W1:=(hg.block B (Nat.lt_of_lt_of_le hlt hB.size) nB).trans (hH1.below hB hlt)
 have hk:∀ b,b<w.heap.size→some b≠(Value.slice pa o.length ca).ownBlock→W1.heap[b]?=w.heap[b]?:=fun b hb hne=>(hg.block b (Nat.lt_of_lt_of_le hb hB.size) hne).trans (hB.block b hb)
 have hO1:W1.ownsRow 0 146 2 (.slice po st.length co) st.length (bcs st.reverse):=row_keep hO fun x hx hl=>hk x hl (rows_ne hO hT (by decide) x hx)
 refine ⟨⟨some ⟨g,0,none⟩,cap,po,co,?_,?_,?_,?_⟩,?_⟩
 ·have:=HB.set 0 (.slice (some ⟨g,0,none⟩) (o.length+1) cap)
  rw [List.length_append,List.length_singleton];exact this
 ·rw [List.length_append,List.length_singleton,tcs_snoc]
  exact row_other hown HB (by decide) 0 _
 ·exact row_other hO1 HB (by decide) 0 _
 ·intro b hb
  obtain ⟨a1,a2,a3,a4⟩:=hA b hb
  refine ⟨?_,a2,?_,a4⟩
  ·have:=hg.size;have:=hB.size;simp;omega
  ·intro e
   have e2:b=g:=by simpa [Value.ownBlock] using e
   subst e2
   rcases hat with h1 | h1
   ·exact a3 h1.symm
   ·omega
 ·refine KP.trans (KP.trans (KP.of_below hB fun b hb=>(hA b hb).1) (KP.of_grown hg fun b hb=>⟨Nat.lt_of_lt_of_le (hA b hb).1 hB.size,(hA b hb).2.2.1⟩)) (KP.setCell _ _ _ _ fun hb=>(hA B hb).2.1 rfl)
theorem frozen_ad (w:World) (o:Obj) (a:Addr) (h:a.block<w.heap.size):((w.alloc o).drew).frozen? a=w.frozen? a:=by
 have e:((w.alloc o).drew).heap[a.block]?=w.heap[a.block]?:=Below.heap_alloc w o _ h
 unfold World.frozen?;rw [e]
theorem put_any (P:Nat→Prop) (B:Nat) (c:List UInt8) (t:Tok) (o:List Tok) (st:List Blk) (f:Bool) (w:World) (hL:L P B o st f w) (hn:o.length≤1000000) :
 Calls Tryz.prog 101 #[.pointer (some ⟨B,0,none⟩),.string (S c),tv t] w fun e w'=>e=.returned (.tuple #[])∧L P B (o ++ [⟨4,c,0,t.ln,t.co⟩]) st f w'∧KP P w w':=by
 obtain ⟨pa,ca,po,co,hS⟩:=hL
 have T0:=TB.new w t
 obtain ⟨c0,c1,c2,c3,c4⟩:=T0.cells
 have B0:=(Below.refl _ w).alloc (Nat.le_refl _) (.cells #[.int .i64 t.kd,.string (S t.tx),.int .i64 t.nu,.int .i64 t.ln,.int .i64 t.co] 51)
 have hH1:=hS.hold.alloc (.cells #[.int .i64 t.kd,.string (S t.tx),.int .i64 t.nu,.int .i64 t.ln,.int .i64 t.co] 51)
 have hT1:=hS.told.alloc (.cells #[.int .i64 t.kd,.string (S t.tx),.int .i64 t.nu,.int .i64 t.ln,.int .i64 t.co] 51)
 have hq:w.heap.size<(w.alloc (.cells #[.int .i64 t.kd,.string (S t.tx),.int .i64 t.nu,.int .i64 t.ln,.int .i64 t.co] 51)).heap.size:=by simp
 have b0:(w.alloc (.cells #[.int .i64 t.kd,.string (S t.tx),.int .i64 t.nu,.int .i64 t.ln,.int .i64 t.co] 51)).cell? ⟨B,0,none⟩=some (.slice pa o.length ca):=hH1.cell 0
 have f0:=hH1.frozen 0
 have hlt:=hH1.lt
 have nB:(Value.slice pa o.length ca).ownBlock≠some B:=Ne.symm (row_ne hH1 hT1 (by decide))
 have nq:(Value.slice pa o.length ca).ownBlock≠some w.heap.size:=Ne.symm (row_lt hS.told)
 obtain ⟨i0,hi,hz0,hz1,hz2⟩:=info_parts info32
 have HS:=hide hS
 have HB0:=hide B0
 clear hS B0 T0 c0 c1 c2
 unfold tv
 go_enter Tryz.func101,Tryz.ntmps101
 go_wp2_with fail
 generalize (w.alloc (.cells #[.int .i64 t.kd,.string (S t.tx),.int .i64 t.nu,.int .i64 t.ln,.int .i64 t.co] 51))=w1 at *
 generalize hqq:w.heap.size=q at *
 have hfz:∀ x:Obj,((w1.alloc x).drew).frozen? ⟨B,0,none⟩=false:=fun x=>(frozen_ad w1 x ⟨B,0,none⟩ hlt).trans f0
 go_region_law
  ((refine step_append_lies _ (by rfl) _ _ _ (by rfl) 0 51 i0 _ 5 48 Tryz.underlying22 hi hz0 hz1 hz2 rfl (by omega) (.slice pa o.length ca) o.length (tcs o) (by rfl) ((hT1.alloc _).drew) ⟨w1.heap.size,0,none⟩ 1 1 [.int .i64 4,.string (S c),.int .i64 0,.int .i64 t.ln,.int .i64 t.co] (by rfl) (by rfl) (World.news_of_block (cs:=#[.int .i64 4,.string (S c),.int .i64 0,.int .i64 t.ln,.int .i64 t.co]) (t:=51) (fr:=(0,0)) (heap_alloc_new w1 _)) (by simp [Value.oneCell']) (by omega) (by unfold maxLen;omega) (by omega) (by simp) (w1.heap.size+1) (by simp) ?_;intro gg cap w2 hown1 hgrow hat hlt2;have HB2:Hold B #[.slice pa o.length ca,.slice po st.length co,.bool f] 89 w2:=(hgrow.block B (Hold.lt (hH1.alloc _)) (Ne.symm nB)).trans (hH1.alloc _);have d0:w2.cell? ⟨B,0,none⟩=some (.slice pa o.length ca):=HB2.cell 0;have d1:=HB2.frozen 0;clear HB2))
 all_goals go_wp2_with fail
 all_goals go_end0
 all_goals
  have hB2:Below w.heap.size w ((w1.alloc (.cells #[.int .i64 4,.string (S c),.int .i64 0,.int .i64 t.ln,.int .i64 t.co] 51)).drew):=by
   rw [hqq];exact (HB0.out.alloc (Nat.le_of_lt hq) _).trans ⟨rfl,rfl,rfl,Nat.le_refl _,fun _ _=>rfl⟩
  exact ⟨rfl,HS.out.put hB2 ⟨4,c,0,t.ln,t.co⟩ hown1 hgrow hat (by omega)⟩
theorem L.below {P:Nat→Prop} {B:Nat} {o:List Tok} {st:List Blk} {f:Bool} {w w':World} (h:L P B o st f w) (hb:Below w.heap.size w w'):L P B o st f w':=by
 obtain ⟨pa,ca,po,co,hH,hT,hO,hA⟩:=h
 refine ⟨pa,ca,po,co,hH.below hb hH.lt,row_keep hT fun g _ hg=>hb.block g hg,row_keep hO fun g _ hg=>hb.block g hg,fun b hP=>?_⟩
 obtain ⟨h1,h2,h3,h4⟩:=hA b hP
 exact ⟨Nat.lt_of_lt_of_le h1 hb.size,h2,h3,h4⟩
theorem L.weak {P Q:Nat→Prop} {B:Nat} {o:List Tok} {st:List Blk} {f:Bool} {w:World} (h:L P B o st f w) (hq:∀ b,Q b→P b):L Q B o st f w:=by
 obtain ⟨pa,ca,po,co,hH,hT,hO,hA⟩:=h
 exact ⟨pa,ca,po,co,hH,hT,hO,fun b hb=>hA b (hq b hb)⟩
theorem L.drew {P:Nat→Prop} {B:Nat} {o:List Tok} {st:List Blk} {f:Bool} {w:World} (h:L P B o st f w):L P B o st f w.drew:=by
 obtain ⟨pa,ca,po,co,hH,hT,hO,hA⟩:=h
 exact ⟨pa,ca,po,co,hH,hT,hO,hA⟩
theorem KP.drew {P:Nat→Prop} {w w':World} (h:KP P w w'):KP P w w'.drew:=⟨h.os,h.tape,h.output,h.size,h.block⟩
theorem LS.pop {P:Nat→Prop} {B:Nat} {o:List Tok} {b:Blk} {st:List Blk} {f:Bool} {pa:Option Addr} {ca:Nat} {po:Option Addr} {co:Nat} {w:World} (h:LS P B o (b :: st) f pa ca po co w) :
 L P B o st f (w.setCell ⟨B,1,none⟩ (.slice po st.length co))∧KP P w (w.setCell ⟨B,1,none⟩ (.slice po st.length co)):=by
 obtain ⟨hH,hT,hO,hA⟩:=h
 refine ⟨⟨pa,ca,po,co,hH.set 1 _,row_other hT hH (by decide) 1 _,?_,fun x hx=>?_⟩,KP.setCell _ _ _ _ fun hb=>(hA B hb).2.1 rfl⟩
 ·refine row_other ?_ hH (by decide) 1 _
  have:=row_cut hO (j:=st.length) (by simp)
  have e:(bcs (b :: st).reverse).take (st.length * 2)=bcs st.reverse:=by
   rw [List.reverse_cons,bcs_snoc,List.take_append_of_le_length (by rw [bcs_len];simp),List.take_of_length_le (by rw [bcs_len];simp)]
  rw [e] at this;exact this
 ·obtain ⟨h1,h2,h3,h4⟩:=hA x hx
  refine ⟨by simpa using h1,h2,h3,?_⟩
  cases po with
  | none=>simp [Value.ownBlock]
  | some a=>simpa [Value.ownBlock] using h4
theorem LS.fresh {P:Nat→Prop} {B:Nat} {o:List Tok} {st:List Blk} {f:Bool} {pa:Option Addr} {ca:Nat} {po:Option Addr} {co:Nat} {w:World} (h:LS P B o st f pa ca po co w) (f':Bool) :
 L P B o st f' (w.setCell ⟨B,2,none⟩ (.bool f'))∧KP P w (w.setCell ⟨B,2,none⟩ (.bool f')):=by
 obtain ⟨hH,hT,hO,hA⟩:=h
 refine ⟨⟨pa,ca,po,co,hH.set 2 _,row_other hT hH (by decide) 2 _,row_other hO hH (by decide) 2 _,fun x hx=>?_⟩,KP.setCell _ _ _ _ fun hb=>(hA B hb).2.1 rfl⟩
 obtain ⟨h1,h2,h3,h4⟩:=hA x hx
 exact ⟨by simpa using h1,h2,h3,h4⟩
theorem LS.push {P:Nat→Prop} {B:Nat} {o:List Tok} {st:List Blk} {f:Bool} {pa:Option Addr} {ca:Nat} {po:Option Addr} {co:Nat} {w W W1:World} (h:LS P B o st f pa ca po co w) (hB:Below w.heap.size w W) (b:Blk) {g cap H:Nat}
 (hown:W1.ownsRow 0 146 2 (.slice (some ⟨g,0,none⟩) (st.length+1) cap) (st.length+1) (bcs st.reverse ++ bc b)) (hg:W.grownBy W1 (Value.slice po st.length co).ownBlock) (hat:(Value.slice po st.length co).ownBlock=some g∨g=H) (hH:w.heap.size≤H) :
 L P B o (b :: st) f (W1.setCell ⟨B,1,none⟩ (.slice (some ⟨g,0,none⟩) (st.length+1) cap))∧KP P w (W1.setCell ⟨B,1,none⟩ (.slice (some ⟨g,0,none⟩) (st.length+1) cap)):=by
 obtain ⟨hH1,hT,hO,hA⟩:=h
 have nB:some B≠(Value.slice po st.length co).ownBlock:=row_ne hH1 hO (by decide)
 have hlt:=hH1.lt
 have HB:Hold B #[.slice pa o.length ca,.slice po st.length co,.bool f] 89 W1:=(hg.block B (Nat.lt_of_lt_of_le hlt hB.size) nB).trans (hH1.below hB hlt)
 have hk:∀ b,b<w.heap.size→some b≠(Value.slice po st.length co).ownBlock→W1.heap[b]?=w.heap[b]?:=fun b hb hne=>(hg.block b (Nat.lt_of_lt_of_le hb hB.size) hne).trans (hB.block b hb)
 have hT1:W1.ownsRow 0 51 5 (.slice pa o.length ca) o.length (tcs o):=row_keep hT fun x hx hl=>hk x hl (rows_ne hT hO (by decide) x hx)
 refine ⟨⟨pa,ca,some ⟨g,0,none⟩,cap,?_,?_,?_,?_⟩,?_⟩
 ·exact HB.set 1 (.slice (some ⟨g,0,none⟩) (st.length+1) cap)
 ·exact row_other hT1 HB (by decide) 1 _
 ·rw [List.reverse_cons,bcs_snoc]
  exact row_other hown HB (by decide) 1 _
 ·intro b hb
  obtain ⟨a1,a2,a3,a4⟩:=hA b hb
  refine ⟨?_,a2,a3,?_⟩
  ·have:=hg.size;have:=hB.size;simp;omega
  ·intro e
   have e2:b=g:=by simpa [Value.ownBlock] using e
   subst e2
   rcases hat with h1 | h1
   ·exact a4 h1.symm
   ·omega
 ·refine KP.trans (KP.trans (KP.of_below hB fun b hb=>(hA b hb).1) (KP.of_grown hg fun b hb=>⟨Nat.lt_of_lt_of_le (hA b hb).1 hB.size,(hA b hb).2.2.2⟩)) (KP.setCell _ _ _ _ fun hb=>(hA B hb).2.1 rfl)
def top:List Blk→Blk
 | []=>⟨[],0⟩
 | b :: _=>b
theorem top_cells {P:Nat→Prop} {B:Nat} {o:List Tok} {b:Blk} {st:List Blk} {f:Bool} {pa:Option Addr} {ca:Nat} {po:Option Addr} {co:Nat} {W:World} (h:LS P B o (b :: st) f pa ca po co W) :
 ∃ g,po=some ⟨g,0,none⟩∧W.cell? ⟨g,st.length * 2,none⟩=some (.string (S b.sg))∧W.cell? ⟨g,st.length * 2+1,none⟩=some (.int .i64 b.cl):=by
 obtain ⟨g,cap,he,_,_⟩:=h.opn.form (by simp)
 cases he
 refine ⟨g,rfl,?_,?_⟩
 ·refine row_cell h.opn ?_
  have:=bcs_at (b :: st).reverse st.length b 0 (by simp) (by omega)
  rw [Nat.add_zero] at this;rw [this];rfl
 ·refine row_cell h.opn ?_
  have:=bcs_at (b :: st).reverse st.length b 1 (by simp) (by omega)
  rw [this];rfl
theorem last_any (P:Nat→Prop) (B:Nat) (o:List Tok) (st:List Blk) (f:Bool) (w:World) (hL:L P B o st f w) (hn:st.length≤1000000) :
 Calls Tryz.prog 104 #[.pointer (some ⟨B,0,none⟩)] w fun e w'=>e=.returned (bv (top st))∧Below w.heap.size w w':=by
 obtain ⟨pa,ca,po,co,hS⟩:=hL
 have c1:w.cell? ⟨B,1,none⟩=some (.slice po st.length co):=hS.hold.cell 1
 have e1:(w.alloc (.cells #[.string ⟨#[]⟩,.int .i64 0] 146)).cell? ⟨B,1,none⟩=some (.slice po st.length co):=(hS.hold.alloc _).cell 1
 cases st with
 | nil=>
  simp only [List.length_nil] at c1 e1
  go_enter Tryz.func104,Tryz.ntmps104
  go_wp2_with fail
  exact bodyPost_ret (v:=bv ⟨[],0⟩) (by simp only [results,Tryz.results104];go_simp;rfl) rfl ⟨rfl,(Below.refl _ _).alloc (Nat.le_refl _) _⟩
 | cons b st=>
  obtain ⟨g,rfl,d0,d1⟩:=top_cells hS
  have hg:=World.block_lt_of_cell? w _ d0
  have e2:(w.alloc (.cells #[.string ⟨#[]⟩,.int .i64 0] 146)).cell? ⟨g,st.length * 2,none⟩=some (.string (S b.sg)):=(World.cell?_of_block (Below.heap_alloc w _ g hg)).trans d0
  have e3:(w.alloc (.cells #[.string ⟨#[]⟩,.int .i64 0] 146)).cell? ⟨g,st.length * 2+1,none⟩=some (.int .i64 b.cl):=(World.cell?_of_block (Below.heap_alloc w _ g hg)).trans d1
  simp only [List.length_cons] at c1 e1 hn
  clear hS
  generalize st.length=n at *
  go_enter Tryz.func104,Tryz.ntmps104
  go_wp2_with fail
  go_region
  all_goals go_wp2_with fail
  all_goals exact bodyPost_ret (v:=bv b) (by simp only [results,Tryz.results104];go_simp;try rfl) rfl ⟨rfl,((Below.refl _ _).alloc (Nat.le_refl _) _).trans ⟨rfl,rfl,rfl,Nat.le_refl _,fun _ _=>rfl⟩⟩
theorem pop_any (P:Nat→Prop) (B:Nat) (o:List Tok) (b:Blk) (st:List Blk) (f:Bool) (w:World) (hL:L P B o (b :: st) f w) (hn:st.length≤1000000) :
 Calls Tryz.prog 105 #[.pointer (some ⟨B,0,none⟩)] w fun e w'=>e=.returned (.tuple #[])∧L P B o st f w'∧KP P w w':=by
 obtain ⟨pa,ca,po,co,hS⟩:=hL
 have c1:w.cell? ⟨B,1,none⟩=some (.slice po (st.length+1) co):=hS.hold.cell 1
 have f1:=hS.hold.frozen 1
 obtain ⟨g,rfl,d0,d1⟩:=top_cells hS
 have hcap:st.length+1≤co:=by
  rcases hS.opn.2 with ⟨hv,_⟩ | ⟨g',cap,cur,hv,_,_,h1,_⟩
  ·cases hv
  ·cases hv;exact h1
 have HS:=hide hS
 clear hS d0 d1
 generalize hk:st.length=n at *
 go_enter Tryz.func105,Tryz.ntmps105
 go_wp2_with fail
 go_region
 all_goals go_wp2_with fail
 all_goals
  go_end0
  have k:=HS.out.pop
  rw [hk] at k
  exact ⟨rfl,k.1.drew,k.2.drew⟩
theorem begin_any (P:Nat→Prop) (B:Nat) (t:Tok) (c:Int) (o:List Tok) (st:List Blk) (f:Bool) (w:World) (hL:L P B o st f w) (hn:o.length≤1000000) (hn2:st.length≤1000000) :
 Calls Tryz.prog 46 #[.pointer (some ⟨B,0,none⟩),tv t,.int .i64 c] w fun e w'=>e=.returned (.tuple #[])∧L P B (o ++ [⟨4,[123],0,t.ln,t.co⟩]) (⟨[],c⟩ :: st) true w'∧KP P w w':=by
 have hLA:∀ b,P b→b<w.heap.size:=fun b hb=>by obtain ⟨_,_,_,_,h⟩:=hL;exact (h.apart b hb).1
 have A:=hide (fun w hL=>put_any P B [123] t o st f w hL hn)
 unfold tv at A ⊢
 obtain ⟨i0,hi,hz0,hz1,hz2⟩:=info_parts info78
 go_enter Tryz.func46,Tryz.ntmps46
 go_wp2_with fail
 refine (A.out _ (hL.below ((Below.refl _ w).alloc (Nat.le_refl _) _))).mono ?_
 rintro e w1 ⟨rfl,L1,k1⟩
 have K0:KP P w w1:=(KP.alloc w _ fun b hb=>(hLA b hb)).trans k1
 clear k1
 generalize hoe:o ++ [(⟨4,[123],0,t.ln,t.co⟩:Tok)]=o1 at *
 obtain ⟨pa,ca,po,co,hS⟩:=L1
 have hH1:=hS.hold
 have hO1:=hS.opn
 have b0:w1.cell? ⟨B,1,none⟩=some (.slice po st.length co):=hH1.cell 1
 have f0:=hH1.frozen 1
 have hlt:=hH1.lt
 have nB:(Value.slice po st.length co).ownBlock≠some B:=Ne.symm (row_ne hH1 hO1 (by decide))
 have HS:=hide hS
 clear hS hL
 have HX:=fun ops rest o' a Q hgd s x ho hs hx=>@wpList_append_lies Tryz.prog (w1.alloc (.cells #[.string ⟨#[]⟩,.int .i64 c] 146)) ops rest o' a Q hgd s x 87 ho 0 146 i0 _ 2 24 Tryz.underlying87 hi hz0 hz1 hz2 rfl (by omega) (.slice po st.length co) st.length (bcs st.reverse) hs (hO1.alloc _) ⟨w1.heap.size,0,none⟩ 1 1 [.string ⟨#[]⟩,.int .i64 c] hx rfl (cell_two_new w1 (.string ⟨#[]⟩) (.int .i64 c) 146) (by simp [Value.oneCell']) (by omega) (by unfold maxLen;omega) (by omega) (by simp) (w1.heap.size+1) (by simp)
 have HX:=hide HX
 have HBF:Hid (∀ w2:World,(w1.alloc (.cells #[.string ⟨#[]⟩,.int .i64 c] 146)).grownBy w2 (Value.slice po st.length co).ownBlock→Hold B #[.slice pa o1.length ca,.slice po st.length co,.bool f] 89 w2):=fun w2 hgrow=>(hgrow.block B (Hold.lt (hH1.alloc _)) (Ne.symm nB)).trans (hH1.alloc _)
 go_wp2_with (at_builtin;have HY:=HX.out;refine HY _ _ _ _ _ rfl _ _ rfl rfl rfl ?_;clear HY;intro gg cap w2 hown1 hgrow hat hlt2;have HB2:=HBF.out _ hgrow;have d0:w2.cell? ⟨B,1,none⟩=some (.slice po st.length co):=HB2.cell 1;have d1:=HB2.frozen 1;have d2:w2.cell? ⟨B,2,none⟩=some (.bool f):=HB2.cell 2;have d3:=HB2.frozen 2;clear HB2)
 go_end0
 have k:=HS.out.push ((Below.refl _ w1).alloc (Nat.le_refl _) _) ⟨[],c⟩ hown1 hgrow hat (by omega)
 obtain ⟨pa2,ca2,po2,co2,h2⟩:=k.1
 exact ⟨rfl,by rw [hoe];exact (h2.fresh true).1,(K0.trans k.2).trans (h2.fresh true).2⟩
def endM (may:Int→Bool) (t:Tok):List Blk→List Tok→List Blk × List Tok
 | [],o=>([],o)
 | b :: r,o=>if b.sg == [] && may b.cl then endM may t r (o ++ [⟨4,[125],0,t.ln,t.co⟩]) else (b :: r,o)
theorem leftOf_any (q:Nat) (t:Tok) (c:Int) (w:World) (h:TB q t w) :
 Calls Tryz.prog 103 #[.int .i64 c,.pointer (some ⟨q,0,none⟩)] w fun e w'=>e=.returned (.bool (decide (t.co<c)))∧w'=w:=by
 obtain ⟨c0,c1,c2,c3,c4⟩:=h.cells
 go_enter Tryz.func103,Tryz.ntmps103
 go_wp2_with fail
 go_ret
 exact ⟨rfl,rfl⟩
theorem always_any (c:Int) (w:World) :
 Calls Tryz.prog 109 #[.int .i64 c] w fun e w'=>e=.returned (.bool true)∧w'=w:=by
 go_enter Tryz.func109,Tryz.ntmps109
 go_wp2_with fail
 go_ret
 exact ⟨rfl,rfl⟩
theorem Hold.kp {P:Nat→Prop} {b:Nat} {C:Array Value} {t:TypeId} {W W':World} (h:Hold b C t W) (k:KP P W W') (hb:P b):Hold b C t W':=(k.block b hb).trans h
theorem L.lt {P:Nat→Prop} {B:Nat} {o:List Tok} {st:List Blk} {f:Bool} {w:World} (h:L P B o st f w) (b:Nat) (hb:P b):b<w.heap.size:=by obtain ⟨_,_,_,_,h⟩:=h;exact (h.apart b hb).1
theorem endM_stop {may:Int→Bool} {t:Tok} {b:Blk} {r:List Blk} {o:List Tok} (h:(b.sg == [] && may b.cl)=false):endM may t (b :: r) o=(b :: r,o):=by unfold endM;rw [h];rfl
theorem endM_go {may:Int→Bool} {t:Tok} {b:Blk} {r:List Blk} {o:List Tok} (h:(b.sg == [] && may b.cl)=true):endM may t (b :: r) o=endM may t r (o ++ [⟨4,[125],0,t.ln,t.co⟩]):=by rw [endM,h];rfl
theorem end_line (P:Nat→Prop) (B:Nat) (t:Tok) (q:Nat) (o:List Tok) (st:List Blk) (f:Bool) (w:World) (hL:L P B o st f w) (hn:o.length+st.length≤1000000) (hq:TB q t w) (hPq:P q) (may:Int→Bool) (hM:∀ c w,TB q t w→Calls Tryz.prog 103 #[.int .i64 c,.pointer (some ⟨q,0,none⟩)] w fun e w'=>e=.returned (.bool (may c))∧w'=w) :
 Calls Tryz.prog 102 #[.pointer (some ⟨B,0,none⟩),tv t,.func (.func 103) #[] #[.pointer (some ⟨q,0,none⟩)]] w fun e w'=>e=.returned (.tuple #[])∧L P B (endM may t st o).2 (endM may t st o).1 f w'∧KP P w w':=by
 have hLA:∀ b,P b→b<w.heap.size:=fun b hb=>by obtain ⟨_,_,_,_,h⟩:=hL;exact (h.apart b hb).1
 have T0:=TB.new w t
 have K0:=KP.alloc (P:=P) w (.cells #[.int .i64 t.kd,.string (S t.tx),.int .i64 t.nu,.int .i64 t.ln,.int .i64 t.co] 51) hLA
 have L0:L (fun b=>P b∨b=w.heap.size) B o st f (w.alloc (.cells #[.int .i64 t.kd,.string (S t.tx),.int .i64 t.nu,.int .i64 t.ln,.int .i64 t.co] 51)):=by
  obtain ⟨pa,ca,po,co,hS⟩:=hL
  refine ⟨pa,ca,po,co,hS.hold.alloc _,hS.told.alloc _,hS.opn.alloc _,fun b hb=>?_⟩
  rcases hb with hb | rfl
  ·obtain ⟨h1,h2,h3,h4⟩:=hS.apart b hb
   exact ⟨by simp;omega,h2,h3,h4⟩
  ·have:=hS.hold.lt
   exact ⟨by simp,by omega,row_lt hS.told,row_lt hS.opn⟩
 have TQ:TB q t (w.alloc (.cells #[.int .i64 t.kd,.string (S t.tx),.int .i64 t.nu,.int .i64 t.ln,.int .i64 t.co] 51)):=Hold.kp hq K0 hPq
 unfold tv
 go_enter Tryz.func102,Tryz.ntmps102
 go_wp2_with fail
 go_step3
 go_wp2_with fail
 go_step3
 go_wp2_with fail
 generalize w.alloc (.cells #[.int .i64 t.kd,.string (S t.tx),.int .i64 t.nu,.int .i64 t.ln,.int .i64 t.co] 51)=w0 at *
 generalize w.heap.size=q0 at *
 clear hLA hq
 have HM:=hide hM
 clear hM
 go_loopg [] st.length (fun k wr=>∃ o1 st1,st1.length=k∧o1.length+st1.length≤1000000∧L (fun b=>P b∨b=q0) B o1 st1 f wr∧KP P w wr∧TB q0 t wr∧TB q t wr∧endM may t st o=endM may t st1 o1)
 case atStart=>exact ⟨o,st,rfl,hn,L0,K0,T0,TQ,rfl⟩
 case round=>
  obtain ⟨o1,st1,hk,hn1,L1,K1,T1,Q1,hend⟩:=hrel
  have HE:=hide hend
  have HL:=hide L1
  clear hend L0 T0 TQ hL K0
  have HN:Hid (∀ o2 st2 (w':World),L (fun b=>P b∨b=q0) B o2 st2 f w'→KP P w w'→endM may t st o=(st2,o2)→L P B (endM may t st o).2 (endM may t st o).1 f w'∧KP P w w'):=by
   intro o2 st2 w' h1 h2 h3
   rw [h3];exact ⟨h1.weak fun b hb=>.inl hb,h2⟩
  obtain ⟨pa,ca,po,co,hS⟩:=L1
  have c1:wr.cell? ⟨B,1,none⟩=some (.slice po st1.length co):=hS.hold.cell 1
  clear hS
  cases st1 with
  | nil=>
   simp only [List.length_nil] at c1
   go_wp2_with fail
   rw [Exit.noGoto_normal]
   go_end0
   exact ⟨rfl,HN.out _ _ _ HL.out K1 HE.out⟩
  | cons b st1=>
   simp only [List.length_cons] at c1 hn1 hk
   have A:=hide (last_any _ B o1 (b :: st1) f wr HL.out (by simp;omega))
   have hs:=S_list b.sg
   have HB1:=HL.out
   unfold top bv at A
   generalize S b.sg=s at *
   by_cases hb:b.sg=[]
   ·rw [hb] at hs
    have hs2:s.toList.isEmpty=true:=by rw [hs];rfl
    cases hm:may b.cl
    ·have HE2:=hide (HE.out.trans (endM_stop (by rw [hb,hm];rfl)))
     have HC:=hide (fun w h=>HM.out b.cl w h)
     rw [hm] at HC
     clear hm HE HM
     generalize b.cl=cc at *
     go_wp2_with fail
     refine A.out.mono ?_
     rintro e w1 ⟨rfl,b1⟩
     have Q2:=TB.below Q1 b1 (Hold.lt Q1)
     have L2:=HB1.below b1
     have B2:=b1.alloc b1.size (.cells #[.string s,.int .i64 cc] 146)
     have Q3:TB q t (w1.alloc (.cells #[.string s,.int .i64 cc] 146)):=Hold.alloc Q2 _
     have K3:=K1.trans (KP.of_below B2 (fun b hb=>((HB1.lt b (.inl hb)))))
     have L3:=HB1.below B2
     go_wp2_with fail
     refine (HC.out _ Q3).mono ?_
     rintro e w2 ⟨rfl,rfl⟩
     go_wp2_with fail
     rw [Exit.noGoto_normal]
     go_end0
     exact ⟨rfl,HN.out _ _ _ L3 K3 HE2.out⟩
    ·have HE2:=hide (HE.out.trans (endM_go (by rw [hb,hm];rfl)))
     have HC:=hide (fun w h=>HM.out b.cl w h)
     rw [hm] at HC
     have HP:=hide (fun w h=>put_any (fun b=>P b∨b=q0) B [125] t o1 (b :: st1) f w h (by omega))
     unfold tv at HP
     clear hm HE HM
     generalize hcc:b.cl=cc at *
     go_wp2_with fail
     refine A.out.mono ?_
     rintro e w1 ⟨rfl,b1⟩
     have Q2:=TB.below Q1 b1 (Hold.lt Q1)
     have T2:=TB.below T1 b1 (Hold.lt T1)
     have B2:=b1.alloc b1.size (.cells #[.string s,.int .i64 cc] 146)
     have Q3:TB q t (w1.alloc (.cells #[.string s,.int .i64 cc] 146)):=Hold.alloc Q2 _
     have T3:TB q0 t (w1.alloc (.cells #[.string s,.int .i64 cc] 146)):=Hold.alloc T2 _
     have K3:=K1.trans (KP.of_below B2 (fun b hb=>((HB1.lt b (.inl hb)))))
     have L3:=HB1.below B2
     obtain ⟨c30,c31,c32,c33,c34⟩:=T3.cells
     go_wp2_with fail
     refine (HC.out _ Q3).mono ?_
     rintro e w2 ⟨rfl,rfl⟩
     go_wp2_with fail
     refine (HP.out _ L3).mono ?_
     rintro e w3 ⟨rfl,L4,K4⟩
     have K5:=K3.trans (K4.mono fun b hb=>.inl hb)
     have T4:TB q0 t w3:=Hold.kp T3 K4 (.inr rfl)
     have Q4:TB q t w3:=Hold.kp Q3 K4 (.inl hPq)
     have HO:=hide (pop_any _ B _ b st1 f w3 L4 (by omega))
     clear c30 c31 c32 c33 c34 T3 Q3 L3 K3 K4 L4
     go_wp2_with fail
     refine HO.out.mono ?_
     rintro e w4 ⟨rfl,L6,K6⟩
     go_wp2_with fail
     go_roundg st1.length
     case rel=>exact ⟨_,st1,rfl,by simp;omega,L6,K5.trans (K6.mono fun b hb=>.inl hb),Hold.kp T4 K6 (.inr rfl),Hold.kp Q4 K6 (.inl hPq),HE2.out⟩
     case measure=>omega
   ·have hs2:s.toList.isEmpty=false:=by rw [hs];cases h:b.sg with | nil=>exact absurd h hb | cons=>rfl
    have hs3:¬ s.toList=[]:=by rw [hs];exact hb
    have HE2:=hide (HE.out.trans (endM_stop (by rw [← hs];simp [hs3])))
    clear HE HM
    generalize hcc:b.cl=cc at *
    go_wp2_with fail
    refine A.out.mono ?_
    rintro e w1 ⟨rfl,b1⟩
    have B2:=b1.alloc b1.size (.cells #[.string s,.int .i64 cc] 146)
    have K3:=K1.trans (KP.of_below B2 (fun b hb=>((HB1.lt b (.inl hb)))))
    have L3:=HB1.below B2
    go_wp2_with fail
    rw [Exit.noGoto_normal]
    go_end0
    exact ⟨rfl,HN.out _ _ _ L3 K3 HE2.out⟩
theorem end_all (P:Nat→Prop) (B:Nat) (t:Tok) (o:List Tok) (st:List Blk) (f:Bool) (w:World) (hL:L P B o st f w) (hn:o.length+st.length≤1000000) (may:Int→Bool) (hM:∀ c w,Calls Tryz.prog 109 #[.int .i64 c] w fun e w'=>e=.returned (.bool (may c))∧w'=w) :
 Calls Tryz.prog 102 #[.pointer (some ⟨B,0,none⟩),tv t,.func (.func 109) #[] #[]] w fun e w'=>e=.returned (.tuple #[])∧L P B (endM may t st o).2 (endM may t st o).1 f w'∧KP P w w':=by
 have hLA:∀ b,P b→b<w.heap.size:=fun b hb=>by obtain ⟨_,_,_,_,h⟩:=hL;exact (h.apart b hb).1
 have T0:=TB.new w t
 have K0:=KP.alloc (P:=P) w (.cells #[.int .i64 t.kd,.string (S t.tx),.int .i64 t.nu,.int .i64 t.ln,.int .i64 t.co] 51) hLA
 have L0:L (fun b=>P b∨b=w.heap.size) B o st f (w.alloc (.cells #[.int .i64 t.kd,.string (S t.tx),.int .i64 t.nu,.int .i64 t.ln,.int .i64 t.co] 51)):=by
  obtain ⟨pa,ca,po,co,hS⟩:=hL
  refine ⟨pa,ca,po,co,hS.hold.alloc _,hS.told.alloc _,hS.opn.alloc _,fun b hb=>?_⟩
  rcases hb with hb | rfl
  ·obtain ⟨h1,h2,h3,h4⟩:=hS.apart b hb
   exact ⟨by simp;omega,h2,h3,h4⟩
  ·have:=hS.hold.lt
   exact ⟨by simp,by omega,row_lt hS.told,row_lt hS.opn⟩
 unfold tv
 go_enter Tryz.func102,Tryz.ntmps102
 go_wp2_with fail
 go_step3
 go_wp2_with fail
 go_step3
 go_wp2_with fail
 generalize w.alloc (.cells #[.int .i64 t.kd,.string (S t.tx),.int .i64 t.nu,.int .i64 t.ln,.int .i64 t.co] 51)=w0 at *
 generalize w.heap.size=q0 at *
 clear hLA
 have HM:=hide hM
 clear hM
 go_loopg [] st.length (fun k wr=>∃ o1 st1,st1.length=k∧o1.length+st1.length≤1000000∧L (fun b=>P b∨b=q0) B o1 st1 f wr∧KP P w wr∧TB q0 t wr∧endM may t st o=endM may t st1 o1)
 case atStart=>exact ⟨o,st,rfl,hn,L0,K0,T0,rfl⟩
 case round=>
  obtain ⟨o1,st1,hk,hn1,L1,K1,T1,hend⟩:=hrel
  have HE:=hide hend
  have HL:=hide L1
  clear hend L0 T0 hL K0
  have HN:Hid (∀ o2 st2 (w':World),L (fun b=>P b∨b=q0) B o2 st2 f w'→KP P w w'→endM may t st o=(st2,o2)→L P B (endM may t st o).2 (endM may t st o).1 f w'∧KP P w w'):=by
   intro o2 st2 w' h1 h2 h3
   rw [h3];exact ⟨h1.weak fun b hb=>.inl hb,h2⟩
  obtain ⟨pa,ca,po,co,hS⟩:=L1
  have c1:wr.cell? ⟨B,1,none⟩=some (.slice po st1.length co):=hS.hold.cell 1
  clear hS
  cases st1 with
  | nil=>
   simp only [List.length_nil] at c1
   go_wp2_with fail
   rw [Exit.noGoto_normal]
   go_end0
   exact ⟨rfl,HN.out _ _ _ HL.out K1 HE.out⟩
  | cons b st1=>
   simp only [List.length_cons] at c1 hn1 hk
   have A:=hide (last_any _ B o1 (b :: st1) f wr HL.out (by simp;omega))
   have hs:=S_list b.sg
   have HB1:=HL.out
   unfold top bv at A
   generalize S b.sg=s at *
   by_cases hb:b.sg=[]
   ·rw [hb] at hs
    have hs2:s.toList.isEmpty=true:=by rw [hs];rfl
    cases hm:may b.cl
    ·have HE2:=hide (HE.out.trans (endM_stop (by rw [hb,hm];rfl)))
     have HC:=hide (fun w=>HM.out b.cl w)
     rw [hm] at HC
     clear hm HE HM
     generalize b.cl=cc at *
     go_wp2_with fail
     refine A.out.mono ?_
     rintro e w1 ⟨rfl,b1⟩
     have L2:=HB1.below b1
     have B2:=b1.alloc b1.size (.cells #[.string s,.int .i64 cc] 146)
     have K3:=K1.trans (KP.of_below B2 (fun b hb=>((HB1.lt b (.inl hb)))))
     have L3:=HB1.below B2
     go_wp2_with fail
     refine (HC.out _).mono ?_
     rintro e w2 ⟨rfl,rfl⟩
     go_wp2_with fail
     rw [Exit.noGoto_normal]
     go_end0
     exact ⟨rfl,HN.out _ _ _ L3 K3 HE2.out⟩
    ·have HE2:=hide (HE.out.trans (endM_go (by rw [hb,hm];rfl)))
     have HC:=hide (fun w=>HM.out b.cl w)
     rw [hm] at HC
     have HP:=hide (fun w h=>put_any (fun b=>P b∨b=q0) B [125] t o1 (b :: st1) f w h (by omega))
     unfold tv at HP
     clear hm HE HM
     generalize hcc:b.cl=cc at *
     go_wp2_with fail
     refine A.out.mono ?_
     rintro e w1 ⟨rfl,b1⟩
     have T2:=TB.below T1 b1 (Hold.lt T1)
     have B2:=b1.alloc b1.size (.cells #[.string s,.int .i64 cc] 146)
     have T3:TB q0 t (w1.alloc (.cells #[.string s,.int .i64 cc] 146)):=Hold.alloc T2 _
     have K3:=K1.trans (KP.of_below B2 (fun b hb=>((HB1.lt b (.inl hb)))))
     have L3:=HB1.below B2
     obtain ⟨c30,c31,c32,c33,c34⟩:=T3.cells
     go_wp2_with fail
     refine (HC.out _).mono ?_
     rintro e w2 ⟨rfl,rfl⟩
     go_wp2_with fail
     refine (HP.out _ L3).mono ?_
     rintro e w3 ⟨rfl,L4,K4⟩
     have K5:=K3.trans (K4.mono fun b hb=>.inl hb)
     have T4:TB q0 t w3:=Hold.kp T3 K4 (.inr rfl)
     have HO:=hide (pop_any _ B _ b st1 f w3 L4 (by omega))
     clear c30 c31 c32 c33 c34 T3 L3 K3 K4 L4
     go_wp2_with fail
     refine HO.out.mono ?_
     rintro e w4 ⟨rfl,L6,K6⟩
     go_wp2_with fail
     go_roundg st1.length
     case rel=>exact ⟨_,st1,rfl,by simp;omega,L6,K5.trans (K6.mono fun b hb=>.inl hb),Hold.kp T4 K6 (.inr rfl),HE2.out⟩
     case measure=>omega
   ·have hs2:s.toList.isEmpty=false:=by rw [hs];cases h:b.sg with | nil=>exact absurd h hb | cons=>rfl
    have hs3:¬ s.toList=[]:=by rw [hs];exact hb
    have HE2:=hide (HE.out.trans (endM_stop (by rw [← hs];simp [hs3])))
    clear HE HM
    generalize hcc:b.cl=cc at *
    go_wp2_with fail
    refine A.out.mono ?_
    rintro e w1 ⟨rfl,b1⟩
    have B2:=b1.alloc b1.size (.cells #[.string s,.int .i64 cc] 146)
    have K3:=K1.trans (KP.of_below B2 (fun b hb=>((HB1.lt b (.inl hb)))))
    have L3:=HB1.below B2
    go_wp2_with fail
    rw [Exit.noGoto_normal]
    go_end0
    exact ⟨rfl,HN.out _ _ _ L3 K3 HE2.out⟩
end Go.Proofs.YtcnnlecjdkfdjaaGreatDoor.Ly
