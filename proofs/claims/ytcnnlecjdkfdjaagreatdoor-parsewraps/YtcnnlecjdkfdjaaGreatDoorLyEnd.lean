/- Parts of the proof. -/
import Derived.Test.YtcnnlecjdkfdjaaGreatDoorLyLeaf
import Derived.Shelf.Strings.BuilderK
import Derived.Shelf.Strconv.Itoa3
import Derived.Shelf.Strconv.ParseIntPublic10
import Derived.Shelf.Bytes.SlCut
import Derived.Lib.SlBytesConst
set_option linter.unusedVariables false
set_option linter.unusedSimpArgs false
set_option maxRecDepth 100000
set_option maxHeartbeats 8000000
namespace Go.Proofs.YtcnnlecjdkfdjaaGreatDoor.Ly
open Go.RowKit
def t0:Value:=.agg #[.int .i64 0,.string ⟨#[]⟩,.int .i64 0,.int .i64 0,.int .i64 0]
def tc (t:Tok):List Value:=[.int .i64 t.kd,.string (S t.tx),.int .i64 t.nu,.int .i64 t.ln,.int .i64 t.co]
def tv (t:Tok):Value:=.agg #[.int .i64 t.kd,.string (S t.tx),.int .i64 t.nu,.int .i64 t.ln,.int .i64 t.co]
def tcs (l:List Tok):List Value:=l.flatMap tc
theorem tcs_snoc (l:List Tok) (t:Tok):tcs (l ++ [t])=tcs l ++ tc t:=by simp [tcs]
theorem info32:(Tryz.prog.info? 51).map (fun i=>(i.zero,i.size,i.bytes))=some (some t0,5,48):=by kernel_rfl
structure Blk where
 sg:List UInt8
 cl:Int
def bc (b:Blk):List Value:=[.string (S b.sg),.int .i64 b.cl]
def bv (b:Blk):Value:=.agg #[.string (S b.sg),.int .i64 b.cl]
def bcs (l:List Blk):List Value:=l.flatMap bc
theorem bcs_snoc (l:List Blk) (t:Blk):bcs (l ++ [t])=bcs l ++ bc t:=by simp [bcs]
def b0:Value:=.agg #[.string ⟨#[]⟩,.int .i64 0]
theorem info78:(Tryz.prog.info? 146).map (fun i=>(i.zero,i.size,i.bytes))=some (some b0,2,24):=by kernel_rfl
theorem bcs_len (ts:List Blk):(bcs ts).length=ts.length * 2:=by
 induction ts with
 | nil=>rfl
 | cons a r ih=>
  have e:bcs (a :: r)=bc a ++ bcs r:=rfl
  have e5:(bc a).length=2:=rfl
  rw [e,List.length_append,ih,e5,List.length_cons];omega
theorem tcs_len (ts:List Tok):(tcs ts).length=ts.length * 5:=by
 induction ts with
 | nil=>rfl
 | cons a r ih=>
  have e:tcs (a :: r)=tc a ++ tcs r:=rfl
  have e5:(tc a).length=5:=rfl
  rw [e,List.length_append,ih,e5,List.length_cons];omega
def Hold (b:Nat) (C:Array Value) (t:TypeId) (W:World):Prop:=W.heap[b]?=some (Obj.cells C t (0,0))
theorem Hold.new (W:World) (C:Array Value) (t:TypeId):Hold W.heap.size C t (W.alloc (.cells C t)):=by
 show (W.heap.push _)[W.heap.size]?=_
 simp
theorem Hold.alloc {b:Nat} {C:Array Value} {t:TypeId} {W:World} (h:Hold b C t W) (o:Obj):Hold b C t (W.alloc o):=(Below.heap_alloc W o b (Array.getElem?_eq_some_iff.1 h).1).trans h
theorem Hold.lt {b:Nat} {C:Array Value} {t:TypeId} {W:World} (h:Hold b C t W):b<W.heap.size:=(Array.getElem?_eq_some_iff.1 h).1
theorem Hold.set {b:Nat} {C:Array Value} {t:TypeId} {W:World} (h:Hold b C t W) (i:Nat) (v:Value):Hold b (C.setIfInBounds i v) t (W.setCell ⟨b,i,none⟩ v):=by
 obtain ⟨hlt,hk⟩:=Array.getElem?_eq_some_iff.1 h
 show (W.heap.modify b _)[b]?=_
 rw [Array.getElem?_eq_getElem (by rw [Array.size_modify];exact hlt),Array.getElem_modify_self,hk]
 rfl
theorem Hold.other {b b':Nat} {C:Array Value} {t:TypeId} {W:World} (h:Hold b C t W) (hne:b≠b') (i:Nat) (v:Value):Hold b C t (W.setCell ⟨b',i,none⟩ v):=(Below.heap_setCell _ _ _ b hne).trans h
theorem Hold.cell {b:Nat} {C:Array Value} {t:TypeId} {W:World} (h:Hold b C t W) (i:Nat):W.cell? ⟨b,i,none⟩=C[i]?:=by unfold World.cell?;rw [show W.heap[b]?=_ from h];rfl
theorem Hold.frozen {b:Nat} {C:Array Value} {t:TypeId} {W:World} (h:Hold b C t W) (i:Nat):W.frozen? ⟨b,i,none⟩=false:=by unfold World.frozen?;rw [show W.heap[b]?=_ from h];simp
theorem Hold.below {b n:Nat} {C:Array Value} {t:TypeId} {W W':World} (h:Hold b C t W) (hb:Below n W W') (hn:b<n):Hold b C t W':=(hb.block b hn).trans h
def TB (b:Nat) (t:Tok) (W:World):Prop:=Hold b #[.int .i64 t.kd,.string (S t.tx),.int .i64 t.nu,.int .i64 t.ln,.int .i64 t.co] 51 W
theorem TB.cells {b:Nat} {t:Tok} {W:World} (h:TB b t W):W.cell? ⟨b,0,none⟩=some (.int .i64 t.kd)∧W.cell? ⟨b,1,none⟩=some (.string (S t.tx))∧W.cell? ⟨b,2,none⟩=some (.int .i64 t.nu)∧W.cell? ⟨b,3,none⟩=some (.int .i64 t.ln)∧W.cell? ⟨b,4,none⟩=some (.int .i64 t.co):=⟨Hold.cell h 0,Hold.cell h 1,Hold.cell h 2,Hold.cell h 3,Hold.cell h 4⟩
theorem TB.new (W:World) (t:Tok):TB W.heap.size t (W.alloc (.cells #[.int .i64 t.kd,.string (S t.tx),.int .i64 t.nu,.int .i64 t.ln,.int .i64 t.co] 51)):=Hold.new W _ 51
theorem TB.below {b n:Nat} {t:Tok} {W W':World} (h:TB b t W) (hb:Below n W W') (hn:b<n):TB b t W':=Hold.below h hb hn
theorem below_next {w w':World} {o:Obj} (h:Below (w.alloc o).heap.size (w.alloc o) w'):Below w.heap.size w w':=((Below.refl _ w).alloc (Nat.le_refl _) o).trans (h.mono (by simp))
theorem row_other {b:Nat} {C:Array Value} {t e:TypeId} {W:World} {base size k:Nat} {v:Value} {xs:List Value} (hr:W.ownsRow base e size v k xs) (h:Hold b C t W) (hne:t≠e) (i:Nat) (u:Value):(W.setCell ⟨b,i,none⟩ u).ownsRow base e size v k xs:=by
 rcases hr with ⟨h1,h2 | ⟨g,cap,cur,hv,hb,hg,r⟩⟩
 ·exact ⟨h1,.inl h2⟩
 ·refine ⟨h1,.inr ⟨g,cap,cur,hv,hb,(Below.heap_setCell _ _ _ g (fun e'=>?_)).trans hg,r⟩⟩
  have e'':g=b:=e'
  subst e''
  rw [show W.heap[g]?=_ from h] at hg;cases hg;exact hne rfl
theorem row_ne {W:World} {b base k size:Nat} {C:Array Value} {t e:TypeId} {v:Value} {xs:List Value} (h:Hold b C t W) (hr:W.ownsRow base e size v k xs) (hne:t≠e):some b≠v.ownBlock:=by
 rcases hr.2 with ⟨rfl,_⟩ | ⟨g,cap,cur,rfl,_,hgb,_⟩
 ·simp [Value.ownBlock]
 ·intro e'
  have e'':b=g:=by simpa [Value.ownBlock] using e'
  subst e''
  rw [show W.heap[b]?=_ from h] at hgb;cases hgb;exact hne rfl
theorem row_lt {W:World} {base k size:Nat} {e:TypeId} {v:Value} {xs:List Value} (hr:W.ownsRow base e size v k xs):some W.heap.size≠v.ownBlock:=by
 rcases hr.2 with ⟨rfl,_⟩ | ⟨g,cap,cur,rfl,_,hgb,_⟩
 ·simp [Value.ownBlock]
 ·intro e'
  have e'':W.heap.size=g:=by simpa [Value.ownBlock] using e'
  have:=(Array.getElem?_eq_some_iff.1 hgb).1
  omega
theorem slice_of {w:World} {base n:Nat} {e:TypeId} {size:Nat} {v:Value} {xs:List Value} (h:w.ownsRow base e size v n xs):∃ ao cap,v=.slice ao n cap:=by
 rcases h.2 with ⟨rfl,rfl⟩ | ⟨g,cap,cur,rfl,_⟩
 ·exact ⟨none,0,rfl⟩
 ·exact ⟨some ⟨g,0,none⟩,cap,rfl⟩
theorem row_keep {W W':World} {base k size:Nat} {e:TypeId} {v:Value} {xs:List Value} (hr:W.ownsRow base e size v k xs) (h:∀ g,v.ownBlock=some g→g<W.heap.size→W'.heap[g]?=W.heap[g]?):W'.ownsRow base e size v k xs:=by
 rcases hr with ⟨h1,h2 | ⟨g,cap,cur,hv,hb,hg,r⟩⟩
 ·exact ⟨h1,.inl h2⟩
 ·refine ⟨h1,.inr ⟨g,cap,cur,hv,hb,(h g (by rw [hv];rfl) (Array.getElem?_eq_some_iff.1 hg).1).trans hg,r⟩⟩
theorem rows_ne {W:World} {base k size base' k' size':Nat} {e e':TypeId} {v v':Value} {xs xs':List Value} (hr:W.ownsRow base e size v k xs) (hr':W.ownsRow base' e' size' v' k' xs') (hne:e≠e'):∀ g,v.ownBlock=some g→some g≠v'.ownBlock:=by
 intro g hg hg'
 rcases hr.2 with ⟨rfl,_⟩ | ⟨g1,cap,cur,rfl,_,hgb,_⟩
 ·cases hg
 ·rcases hr'.2 with ⟨rfl,_⟩ | ⟨g2,cap',cur',rfl,_,hgb',_⟩
  ·cases hg'
  ·cases hg;cases hg'
   rw [hgb] at hgb';cases hgb';exact hne rfl
theorem row_cut {W:World} {base k size cap j:Nat} {e:TypeId} {p:Option Addr} {xs:List Value} (hr:W.ownsRow base e size (.slice p k cap) k xs) (hj:j≤k):W.ownsRow base e size (.slice p j cap) j (xs.take (j * size)):=by
 have hx:=hr.1
 have hjk:j * size≤k * size:=Nat.mul_le_mul_right _ hj
 rcases hr with ⟨h1,⟨h2,h3⟩ | ⟨g,cap',cur,hv,hb,hg,r1,r2,r3,r4⟩⟩
 ·subst h3
  obtain rfl:j=0:=by omega
  cases h2
  exact ⟨by simp,.inl ⟨rfl,rfl⟩⟩
 ·cases hv
  refine ⟨by rw [List.length_take];omega,.inr ⟨g,cap,cur,rfl,hb,hg,by omega,r2,r3,?_⟩⟩
  rw [← r4,List.take_take,Nat.min_eq_left hjk]
theorem cell_five_new (w:World) (a b c d e:Value) (t:TypeId) (j:Nat) (u:Value) (h:[a,b,c,d,e][j]?=some u):(w.alloc (.cells #[a,b,c,d,e] t)).cell? ((⟨w.heap.size,0,none⟩:Addr).add j)=some u:=by
 have hj:j<5:=by have:=(List.getElem?_eq_some_iff.1 h).1;simpa using this
 have e0:(⟨w.heap.size,0,none⟩:Addr).add j=⟨w.heap.size,j,none⟩:=by unfold Addr.add;split <;> simp_all
 rw [e0,World.cell?_alloc_mark,← h]
 simp
theorem cell_two_new (w:World) (a b:Value) (t:TypeId) (j:Nat) (u:Value) (h:[a,b][j]?=some u):(w.alloc (.cells #[a,b] t)).cell? ((⟨w.heap.size,0,none⟩:Addr).add j)=some u:=by
 have hj:j<2:=by have:=(List.getElem?_eq_some_iff.1 h).1;simpa using this
 have e0:(⟨w.heap.size,0,none⟩:Addr).add j=⟨w.heap.size,j,none⟩:=by unfold Addr.add;split <;> simp_all
 rw [e0,World.cell?_alloc_mark,← h]
 simp
def TMem (w:World) (p:Option Addr) (ts:List Tok):Prop:=ts=[]∨∃ b o,p=some ⟨b,o,none⟩∧b<w.heap.size∧∀ i t,ts[i]?=some t→w.cell? ⟨b,o+i * 5,none⟩=some (.int .i64 t.kd)∧w.cell? ⟨b,o+i * 5+1,none⟩=some (.string (S t.tx))∧w.cell? ⟨b,o+i * 5+2,none⟩=some (.int .i64 t.nu)∧w.cell? ⟨b,o+i * 5+3,none⟩=some (.int .i64 t.ln)∧w.cell? ⟨b,o+i * 5+4,none⟩=some (.int .i64 t.co)
theorem TMem.below {w w':World} {n:Nat} {p:Option Addr} {ts:List Tok} (h:TMem w p ts) (hn:w.heap.size≤n) (hb:Below n w w'):TMem w' p ts:=by
 rcases h with rfl | ⟨b,o,hp,hbk,hm⟩
 ·exact .inl rfl
 ·have hk:∀ x,w'.cell? ⟨b,x,none⟩=w.cell? ⟨b,x,none⟩:=fun x=>hb.cell (p:=⟨b,x,none⟩) (Nat.lt_of_lt_of_le hbk hn)
  exact .inr ⟨b,o,hp,Nat.lt_of_lt_of_le hbk hb.size,fun i t ht=>by rw [hk,hk,hk,hk,hk];exact hm i t ht⟩
theorem TMem.take {w:World} {p:Option Addr} {ts:List Tok} (h:TMem w p ts) (j:Nat):TMem w p (ts.take j):=by
 rcases h with rfl | ⟨b,o,hp,hb,hm⟩
 ·exact .inl (by simp)
 ·exact .inr ⟨b,o,hp,hb,fun i t ht=>by
   rw [List.getElem?_take] at ht
   split at ht
   ·exact hm i t ht
   ·cases ht⟩
theorem tcs_at (us:List Tok):∀ (i:Nat) (t:Tok) (j:Nat),us[i]?=some t→j<5→(tcs us)[i * 5+j]?=(tc t)[j]?:=by
 induction us with
 | nil=>intro i t j ht;simp at ht
 | cons a r ih=>
  intro i t j ht hj
  have e:tcs (a :: r)=tc a ++ tcs r:=rfl
  have e5:(tc a).length=5:=rfl
  cases i with
  | zero=>
   simp at ht;subst ht
   rw [e,Nat.zero_mul,Nat.zero_add,List.getElem?_append_left (by rw [e5];exact hj)]
  | succ i=>
   rw [e,List.getElem?_append_right (by rw [e5];omega),e5,show (i+1) * 5+j - 5=i * 5+j from by omega]
   exact ih i t j (by simpa using ht) hj
theorem bcs_at (us:List Blk):∀ (i:Nat) (t:Blk) (j:Nat),us[i]?=some t→j<2→(bcs us)[i * 2+j]?=(bc t)[j]?:=by
 induction us with
 | nil=>intro i t j ht;simp at ht
 | cons a r ih=>
  intro i t j ht hj
  have e:bcs (a :: r)=bc a ++ bcs r:=rfl
  have e5:(bc a).length=2:=rfl
  cases i with
  | zero=>
   simp at ht;subst ht
   rw [e,Nat.zero_mul,Nat.zero_add,List.getElem?_append_left (by rw [e5];exact hj)]
  | succ i=>
   rw [e,List.getElem?_append_right (by rw [e5];omega),e5,show (i+1) * 2+j - 2=i * 2+j from by omega]
   exact ih i t j (by simpa using ht) hj
theorem row_cell {W:World} {base n cap size:Nat} {e:TypeId} {g:Nat} {xs:List Value} (h:W.ownsRow base e size (.slice (some ⟨g,0,none⟩) n cap) n xs) {j:Nat} {v:Value} (hj:xs[j]?=some v):W.cell? ⟨g,j,none⟩=some v:=by
 have hl:=(List.getElem?_eq_some_iff.1 hj).1
 rcases h with ⟨h1,⟨h2,_⟩ | ⟨g',cap',cur,hv,hb,hg,r1,r2,r3,r4⟩⟩
 ·cases h2
 ·cases hv
  rw [← r4,List.getElem?_take,if_pos (by omega)] at hj
  simp only [World.cell?,hg]
  rw [← hj]
  simp
theorem row_tmem {W:World} {n₀ n c:Nat} {p:Option Addr} {ts:List Tok} (h:W.ownsRow n₀ 51 5 (.slice p n c) n (tcs ts)):TMem W p ts∧ts.length=n:=by
 have hlen:=tcs_len ts
 have hn:ts.length=n:=by have:=h.1;omega
 refine ⟨?_,hn⟩
 rcases h.2 with ⟨hv,h0⟩ | ⟨g,cap,cur,hv,hb,hg,h1,h2,h3,h4⟩
 ·left;exact List.length_eq_zero_iff.1 (by omega)
 ·cases hv
  refine .inr ⟨g,0,rfl,(Array.getElem?_eq_some_iff.1 hg).1,fun i t ht=>?_⟩
  have hx:∀ j,j<5→W.cell? ⟨g,0+i * 5+j,none⟩=(tc t)[j]?:=by
   intro j hj
   have k:=tcs_at ts i t j ht hj
   have hs:∃ v,(tc t)[j]?=some v:=⟨_,List.getElem?_eq_getElem (by show j<5;exact hj)⟩
   obtain ⟨v,hv⟩:=hs
   rw [hv] at k ⊢
   rw [Nat.zero_add]
   exact row_cell h k
  exact ⟨hx 0 (by omega),hx 1 (by omega),hx 2 (by omega),hx 3 (by omega),hx 4 (by omega)⟩
structure KP (P:Nat→Prop) (w w':World):Prop where
 os:w'.os=w.os
 tape:w'.tape=w.tape
 output:w'.output=w.output
 size:w.heap.size≤w'.heap.size
 block:∀ b,P b→w'.heap[b]?=w.heap[b]?
theorem KP.trans {P:Nat→Prop} {a b c:World} (h:KP P a b) (k:KP P b c):KP P a c:=⟨k.os.trans h.os,k.tape.trans h.tape,k.output.trans h.output,Nat.le_trans h.size k.size,fun x hx=>(k.block x hx).trans (h.block x hx)⟩
theorem KP.mono {P Q:Nat→Prop} {a b:World} (h:KP P a b) (hq:∀ x,Q x→P x):KP Q a b:=⟨h.os,h.tape,h.output,h.size,fun x hx=>h.block x (hq x hx)⟩
theorem KP.below {P:Nat→Prop} {a b:World} {n:Nat} (h:KP P a b) (hq:∀ x,x<n→P x):Below n a b:=⟨h.os,h.tape,h.output,h.size,fun x hx=>h.block x (hq x hx)⟩
theorem KP.alloc {P:Nat→Prop} (w:World) (o:Obj) (hP:∀ b,P b→b<w.heap.size):KP P w (w.alloc o):=⟨rfl,rfl,rfl,by simp,fun b hb=>Below.heap_alloc w o b (hP b hb)⟩
theorem KP.setCell {P:Nat→Prop} (w:World) (b i:Nat) (v:Value) (hP:¬ P b):KP P w (w.setCell ⟨b,i,none⟩ v):=⟨rfl,rfl,rfl,by simp,fun x hx=>Below.heap_setCell _ _ _ x (fun e=>hP (by subst e;exact hx))⟩
theorem KP.of_grown {P:Nat→Prop} {w w':World} {r:Option Nat} (h:w.grownBy w' r) (hP:∀ b,P b→b<w.heap.size∧some b≠r):KP P w w':=⟨h.os,h.tape,h.output,h.size,fun b hb=>h.block b (hP b hb).1 (hP b hb).2⟩
theorem KP.of_below {P:Nat→Prop} {w w':World} {n:Nat} (h:Below n w w') (hP:∀ b,P b→b<n):KP P w w':=⟨h.os,h.tape,h.output,h.size,fun b hb=>h.block b (hP b hb)⟩
structure LS (P:Nat→Prop) (B:Nat) (o:List Tok) (st:List Blk) (f:Bool) (pa:Option Addr) (ca:Nat) (po:Option Addr) (co:Nat) (W:World):Prop where
 hold:Hold B #[.slice pa o.length ca,.slice po st.length co,.bool f] 89 W
 told:W.ownsRow 0 51 5 (.slice pa o.length ca) o.length (tcs o)
 opn:W.ownsRow 0 146 2 (.slice po st.length co) st.length (bcs st.reverse)
 apart:∀ b,P b→b<W.heap.size∧b≠B∧some b≠(Value.slice pa o.length ca).ownBlock∧some b≠(Value.slice po st.length co).ownBlock
def L (P:Nat→Prop) (B:Nat) (o:List Tok) (st:List Blk) (f:Bool) (W:World):Prop:=∃ pa ca po co,LS P B o st f pa ca po co W
end Go.Proofs.YtcnnlecjdkfdjaaGreatDoor.Ly
namespace Go.Proofs
open Go.Shelf
def Tryz.lays169_ren:Go.Shelf.Ren:=⟨fun | 169=>169 | n=>n,fun | 70=>182 | 9=>9 | 0=>0 | 72=>184 | 37=>42 | 127=>226 | 3=>3 | 5=>5 | n=>n,fun | n=>n⟩
theorem Tryz.lays169:Go.Proofs.Lays.n169 Tryz.prog Tryz.lays169_ren:={
 mixed:=by kernel_rfl
 f169:=Tryz.func169.trans (congrArg some (by kernel_rfl))
 t0:=Tryz.underlying0
 a0:=Tryz.isAgg0
 z0:=Tryz.sizeOf0
 v0:=Tryz.zeroValue0
 t3:=Tryz.underlying3
 a3:=Tryz.isAgg3
 z3:=Tryz.sizeOf3
 v3:=Tryz.zeroValue3
 t9:=Tryz.underlying9
 a9:=Tryz.isAgg9
 z9:=Tryz.sizeOf9
 v9:=Tryz.zeroValue9
 t37:=Tryz.underlying42
 a37:=Tryz.isAgg42
 z37:=Tryz.sizeOf42
 v37:=Tryz.zeroValue42
 t70:=Tryz.underlying182
 a70:=Tryz.isAgg182
 z70:=Tryz.sizeOf182
 v70:=Tryz.zeroValue182
 t72:=Tryz.underlying184
 a72:=Tryz.isAgg184
 z72:=Tryz.sizeOf184
 v72:=Tryz.zeroValue184
 t127:=Tryz.underlying226
 a127:=Tryz.isAgg226
 z127:=Tryz.sizeOf226
 v127:=Tryz.zeroValue226 }
theorem Tryz.Builder_Extra_169:Builder.Extra Tryz.prog Tryz.lays169_ren:={
 sizeBuilder:=by kernel_rfl
 liesBuilder:=by kernel_rfl
 t5:=Tryz.underlying5
 a5:=Tryz.isAgg5
 z5:=Tryz.sizeOf5
 v5:=Tryz.zeroValue5
 infoByte:=by kernel_rfl
 cellsByte:=by kernel_rfl
 sizeByte:=by kernel_rfl
 neB5:=by decide }
open Go.RowKit in
theorem Tryz.Builder_String_any_k (B b:Nat) (l:List UInt8) (w:World) (h:Lib.IsBuilderF 184 5 B b (Lib.byteCells l) w) (hBw:B≤w.heap.size) :
 Calls Tryz.prog 169 #[.pointer (some ⟨b,0,none⟩)] w fun e w'=>e=.returned (.string ⟨l.toArray⟩)∧(Lib.IsBuilderF 184 5 B b (Lib.byteCells l) w'∧Below B w w'∧Lib.OthersKept 5 (some b) w w'):=Any.Builder_String_any_k Tryz.lays169 Tryz.Builder_Extra_169 B b l w h hBw
def Tryz.laysM171_ren:Go.Shelf.Ren:=⟨fun | 171=>229 | 243=>238 | 246=>243 | 283=>246 | 284=>247 | 285=>248 | 286=>249 | 129=>253 | 317=>252 | 318=>254 | 319=>255 | 320=>256 | 337=>258 | 338=>259 | n=>n,fun | 3=>3 | 9=>9 | 2=>2 | 4=>4 | 171=>249 | 0=>0 | 53=>204 | 37=>42 | 5=>5 | 173=>252 | 212=>255 | 51=>229 | 20=>20 | 213=>256 | 46=>202 | 232=>260 | 233=>261 | n=>n,fun | 17=>3 | 18=>4 | 19=>5 | n=>n⟩
theorem Tryz.laysM171:Go.Proofs.LaysM.n171 Tryz.prog Tryz.laysM171_ren:={
 mixed:=by kernel_rfl
 f129:=Tryz.func253.trans (congrArg some (by kernel_rfl))
 f171:=Tryz.func229.trans (congrArg some (by kernel_rfl))
 f243:=Tryz.func238.trans (congrArg some (by kernel_rfl))
 f246:=Tryz.func243.trans (congrArg some (by kernel_rfl))
 f283:=Tryz.func246.trans (congrArg some (by kernel_rfl))
 f284:=Tryz.func247.trans (congrArg some (by kernel_rfl))
 f285:=Tryz.func248.trans (congrArg some (by kernel_rfl))
 f286:=Tryz.func249.trans (congrArg some (by kernel_rfl))
 f317:=Tryz.func252.trans (congrArg some (by kernel_rfl))
 f318:=Tryz.func254.trans (congrArg some (by kernel_rfl))
 f319:=Tryz.func255.trans (congrArg some (by kernel_rfl))
 f320:=Tryz.func256.trans (congrArg some (by kernel_rfl))
 f337:=Tryz.func258.trans (congrArg some (by kernel_rfl))
 f338:=Tryz.func259.trans (congrArg some (by kernel_rfl))
 t0:=Tryz.underlying0
 a0:=Tryz.isAgg0
 z0:=Tryz.sizeOf0
 v0:=Tryz.zeroValue0
 t2:=Tryz.underlying2
 a2:=Tryz.isAgg2
 z2:=Tryz.sizeOf2
 v2:=Tryz.zeroValue2
 t3:=Tryz.underlying3
 a3:=Tryz.isAgg3
 z3:=Tryz.sizeOf3
 v3:=Tryz.zeroValue3
 t4:=Tryz.underlying4
 a4:=Tryz.isAgg4
 z4:=Tryz.sizeOf4
 v4:=Tryz.zeroValue4
 t5:=Tryz.underlying5
 a5:=Tryz.isAgg5
 z5:=Tryz.sizeOf5
 v5:=Tryz.zeroValue5
 t9:=Tryz.underlying9
 a9:=Tryz.isAgg9
 z9:=Tryz.sizeOf9
 v9:=Tryz.zeroValue9
 t20:=Tryz.underlying20
 a20:=Tryz.isAgg20
 z20:=Tryz.sizeOf20
 v20:=Tryz.zeroValue20
 t37:=Tryz.underlying42
 a37:=Tryz.isAgg42
 z37:=Tryz.sizeOf42
 v37:=Tryz.zeroValue42
 t46:=Tryz.underlying202
 a46:=Tryz.isAgg202
 z46:=Tryz.sizeOf202
 v46:=Tryz.zeroValue202
 t51:=Tryz.underlying229
 a51:=Tryz.isAgg229
 z51:=Tryz.sizeOf229
 v51:=Tryz.zeroValue229
 t53:=Tryz.underlying204
 a53:=Tryz.isAgg204
 z53:=Tryz.sizeOf204
 v53:=Tryz.zeroValue204
 t171:=Tryz.underlying249
 a171:=Tryz.isAgg249
 z171:=Tryz.sizeOf249
 v171:=Tryz.zeroValue249
 t173:=Tryz.underlying252
 a173:=Tryz.isAgg252
 z173:=Tryz.sizeOf252
 v173:=Tryz.zeroValue252
 t212:=Tryz.underlying255
 a212:=Tryz.isAgg255
 z212:=Tryz.sizeOf255
 v212:=Tryz.zeroValue255
 t213:=Tryz.underlying256
 a213:=Tryz.isAgg256
 z213:=Tryz.sizeOf256
 t232:=Tryz.underlying260
 a232:=Tryz.isAgg260
 z232:=Tryz.sizeOf260
 v232:=Tryz.zeroValue260
 t233:=Tryz.underlying261
 a233:=Tryz.isAgg261
 z233:=Tryz.sizeOf261
 v233:=Tryz.zeroValue261
 g17:=by kernel_rfl
 g18:=by kernel_rfl
 g19:=by kernel_rfl
 i0:=by kernel_rfl
 i2:=by kernel_rfl
 i3:=by kernel_rfl
 i4:=by kernel_rfl
 i5:=by kernel_rfl
 i9:=by kernel_rfl
 i20:=by kernel_rfl
 i37:=by kernel_rfl
 i46:=by kernel_rfl
 i51:=by kernel_rfl
 i53:=by kernel_rfl
 i171:=by kernel_rfl
 i173:=by kernel_rfl
 i212:=by kernel_rfl
 i232:=by kernel_rfl
 i233:=by kernel_rfl
 m17:=by kernel_rfl
 m18:=by kernel_rfl
 m19:=by kernel_rfl }
open Go.RowKit Go.Sort Go.Lib in
theorem Tryz.strconv_Itoa (n : Int) (h0 : -9223372036854775808 ≤ n) (h1 : n ≤ 9223372036854775807) (w : World) (htab : Lib.TabIs Tryz.prog w "internal/strconv.uint64pow10" .u64 Lib.pow10Tab) :
 Calls Tryz.prog 229 #[.int .i64 n] w fun e w'=>e=.returned (.string ⟨(Lib.itoa n).toArray⟩)∧∃ k os,w'=grow (w.drewN k) os:=Any.strconv_Itoa Tryz.laysM171 n h0 h1 w htab
def Tryz.laysC174_ren:Go.Shelf.Ren:=⟨fun | 174=>97 | 247=>162 | 245=>163 | 287=>198 | 279=>199 | 280=>200 | 281=>201 | 282=>202 | 321=>225 | 322=>226 | 316=>227 | 171=>229 | 205=>228 | 243=>238 | 246=>243 | 283=>246 | 284=>247 | 285=>248 | 286=>249 | 129=>253 | 317=>252 | 318=>254 | 319=>255 | 320=>256 | 337=>258 | 338=>259 | n=>n,fun | 9=>9 | 3=>3 | 2=>2 | 75=>139 | 85=>140 | 4=>4 | 167=>203 | 5=>5 | 53=>204 | 175=>205 | 46=>202 | 168=>207 | 37=>42 | 0=>0 | 210=>235 | 21=>21 | 127=>226 | 145=>244 | 143=>242 | 171=>249 | 173=>252 | 212=>255 | 51=>229 | 20=>20 | 213=>256 | 232=>260 | 233=>261 | 80=>159 | n=>n,fun | 15=>1 | 16=>2 | 17=>3 | 18=>4 | 19=>5 | n=>n⟩
theorem Tryz.laysC174:Go.Proofs.LaysC.n174 Tryz.prog Tryz.laysC174_ren:={
 mixed:=by kernel_rfl
 f129:=Tryz.func253.trans (congrArg some (by kernel_rfl))
 f171:=Tryz.func229.trans (congrArg some (by kernel_rfl))
 f174:=Tryz.func97.trans (congrArg some (by kernel_rfl))
 f205:=Tryz.func228.trans (congrArg some (by kernel_rfl))
 f243:=Tryz.func238.trans (congrArg some (by kernel_rfl))
 f245:=Tryz.func163.trans (congrArg some (by kernel_rfl))
 f246:=Tryz.func243.trans (congrArg some (by kernel_rfl))
 f247:=Tryz.func162.trans (congrArg some (by kernel_rfl))
 f279:=Tryz.func199.trans (congrArg some (by kernel_rfl))
 f280:=Tryz.func200.trans (congrArg some (by kernel_rfl))
 f281:=Tryz.func201.trans (congrArg some (by kernel_rfl))
 f282:=Tryz.func202.trans (congrArg some (by kernel_rfl))
 f283:=Tryz.func246.trans (congrArg some (by kernel_rfl))
 f284:=Tryz.func247.trans (congrArg some (by kernel_rfl))
 f285:=Tryz.func248.trans (congrArg some (by kernel_rfl))
 f286:=Tryz.func249.trans (congrArg some (by kernel_rfl))
 f287:=Tryz.func198.trans (congrArg some (by kernel_rfl))
 f316:=Tryz.func227.trans (congrArg some (by kernel_rfl))
 f317:=Tryz.func252.trans (congrArg some (by kernel_rfl))
 f318:=Tryz.func254.trans (congrArg some (by kernel_rfl))
 f319:=Tryz.func255.trans (congrArg some (by kernel_rfl))
 f320:=Tryz.func256.trans (congrArg some (by kernel_rfl))
 f321:=Tryz.func225.trans (congrArg some (by kernel_rfl))
 f322:=Tryz.func226.trans (congrArg some (by kernel_rfl))
 f337:=Tryz.func258.trans (congrArg some (by kernel_rfl))
 f338:=Tryz.func259.trans (congrArg some (by kernel_rfl))
 t0:=Tryz.underlying0
 a0:=Tryz.isAgg0
 z0:=Tryz.sizeOf0
 v0:=Tryz.zeroValue0
 t2:=Tryz.underlying2
 a2:=Tryz.isAgg2
 z2:=Tryz.sizeOf2
 v2:=Tryz.zeroValue2
 t3:=Tryz.underlying3
 a3:=Tryz.isAgg3
 z3:=Tryz.sizeOf3
 v3:=Tryz.zeroValue3
 t4:=Tryz.underlying4
 a4:=Tryz.isAgg4
 z4:=Tryz.sizeOf4
 v4:=Tryz.zeroValue4
 t5:=Tryz.underlying5
 a5:=Tryz.isAgg5
 z5:=Tryz.sizeOf5
 v5:=Tryz.zeroValue5
 t9:=Tryz.underlying9
 a9:=Tryz.isAgg9
 z9:=Tryz.sizeOf9
 v9:=Tryz.zeroValue9
 t20:=Tryz.underlying20
 a20:=Tryz.isAgg20
 z20:=Tryz.sizeOf20
 v20:=Tryz.zeroValue20
 t21:=Tryz.underlying21
 a21:=Tryz.isAgg21
 z21:=Tryz.sizeOf21
 v21:=Tryz.zeroValue21
 t37:=Tryz.underlying42
 a37:=Tryz.isAgg42
 z37:=Tryz.sizeOf42
 v37:=Tryz.zeroValue42
 t46:=Tryz.underlying202
 a46:=Tryz.isAgg202
 z46:=Tryz.sizeOf202
 v46:=Tryz.zeroValue202
 t51:=Tryz.underlying229
 a51:=Tryz.isAgg229
 z51:=Tryz.sizeOf229
 v51:=Tryz.zeroValue229
 t53:=Tryz.underlying204
 a53:=Tryz.isAgg204
 z53:=Tryz.sizeOf204
 v53:=Tryz.zeroValue204
 t75:=Tryz.underlying139
 a75:=Tryz.isAgg139
 z75:=Tryz.sizeOf139
 v75:=Tryz.zeroValue139
 t85:=Tryz.underlying140
 a85:=Tryz.isAgg140
 z85:=Tryz.sizeOf140
 v85:=Tryz.zeroValue140
 t127:=Tryz.underlying226
 a127:=Tryz.isAgg226
 z127:=Tryz.sizeOf226
 v127:=Tryz.zeroValue226
 t143:=Tryz.underlying242
 a143:=Tryz.isAgg242
 z143:=Tryz.sizeOf242
 v143:=Tryz.zeroValue242
 t145:=Tryz.underlying244
 a145:=Tryz.isAgg244
 z145:=Tryz.sizeOf244
 v145:=Tryz.zeroValue244
 t167:=Tryz.underlying203
 a167:=Tryz.isAgg203
 z167:=Tryz.sizeOf203
 v167:=Tryz.zeroValue203
 t168:=Tryz.underlying207
 a168:=Tryz.isAgg207
 z168:=Tryz.sizeOf207
 v168:=Tryz.zeroValue207
 t171:=Tryz.underlying249
 a171:=Tryz.isAgg249
 z171:=Tryz.sizeOf249
 v171:=Tryz.zeroValue249
 t173:=Tryz.underlying252
 a173:=Tryz.isAgg252
 z173:=Tryz.sizeOf252
 v173:=Tryz.zeroValue252
 t175:=Tryz.underlying205
 a175:=Tryz.isAgg205
 z175:=Tryz.sizeOf205
 v175:=Tryz.zeroValue205
 t210:=Tryz.underlying235
 a210:=Tryz.isAgg235
 z210:=Tryz.sizeOf235
 v210:=Tryz.zeroValue235
 t212:=Tryz.underlying255
 a212:=Tryz.isAgg255
 z212:=Tryz.sizeOf255
 v212:=Tryz.zeroValue255
 t213:=Tryz.underlying256
 a213:=Tryz.isAgg256
 z213:=Tryz.sizeOf256
 t232:=Tryz.underlying260
 a232:=Tryz.isAgg260
 z232:=Tryz.sizeOf260
 v232:=Tryz.zeroValue260
 t233:=Tryz.underlying261
 a233:=Tryz.isAgg261
 z233:=Tryz.sizeOf261
 v233:=Tryz.zeroValue261
 g15:=by kernel_rfl
 g16:=by kernel_rfl
 g17:=by kernel_rfl
 g18:=by kernel_rfl
 g19:=by kernel_rfl
 t80:=Tryz.underlying159
 a80:=Tryz.isAgg159
 z80:=Tryz.sizeOf159
 v80:=Tryz.zeroValue159
 i0:=by kernel_rfl
 i2:=by kernel_rfl
 i3:=by kernel_rfl
 i4:=by kernel_rfl
 i5:=by kernel_rfl
 i9:=by kernel_rfl
 i20:=by kernel_rfl
 i21:=by kernel_rfl
 i37:=by kernel_rfl
 i46:=by kernel_rfl
 i51:=by kernel_rfl
 i53:=by kernel_rfl
 i75:=by kernel_rfl
 i80:=by kernel_rfl
 i85:=by kernel_rfl
 i127:=by kernel_rfl
 i143:=by kernel_rfl
 i145:=by kernel_rfl
 i167:=by kernel_rfl
 i168:=by kernel_rfl
 i171:=by kernel_rfl
 i173:=by kernel_rfl
 i175:=by kernel_rfl
 i210:=by kernel_rfl
 i212:=by kernel_rfl
 i232:=by kernel_rfl
 i233:=by kernel_rfl
 m15:=by kernel_rfl
 m16:=by kernel_rfl
 m17:=by kernel_rfl
 m18:=by kernel_rfl
 m19:=by kernel_rfl
 c0:=by kernel_rfl
 c2:=by kernel_rfl
 c3:=by kernel_rfl
 c4:=by kernel_rfl
 c5:=by kernel_rfl
 c9:=by kernel_rfl
 c20:=by kernel_rfl
 c21:=by kernel_rfl
 c37:=by kernel_rfl
 c46:=by kernel_rfl
 c51:=by kernel_rfl
 c53:=by kernel_rfl
 c75:=by kernel_rfl
 c80:=by kernel_rfl
 c85:=by kernel_rfl
 c127:=by kernel_rfl
 c143:=by kernel_rfl
 c145:=by kernel_rfl
 c167:=by kernel_rfl
 c168:=by kernel_rfl
 c171:=by kernel_rfl
 c173:=by kernel_rfl
 c175:=by kernel_rfl
 c210:=by kernel_rfl
 c212:=by kernel_rfl
 c213:=by kernel_rfl
 c232:=by kernel_rfl
 c233:=by kernel_rfl }
open Go.RowKit in
theorem Tryz.strconv_ParseInt_10_at64_ok (s:ByteArray) (hmax:s.size≤9223372036854775806) (v:Int) (h:Lib.parseIntB 64 s.data.toList=.ok v) (w:World) :
 Calls Tryz.prog 97 #[.string s,.int .i64 10,.int .i64 64] w fun e w'=>e=.returned (.tuple #[.int .i64 v,.nilIface])∧(w'=w∨∃ t,w'=Lib.bytesWorld w 5 t):=Any.strconv_ParseInt_10_at64_ok Tryz.laysC174 s hmax v h w
open Go.RowKit in
theorem Tryz.strconv_ParseInt_10_at64_range (s:ByteArray) (hlim:s.size≤281474976710656) (h:Lib.parseIntB 64 s.data.toList=.range) (ev:Value) (w:World) (hv:w.cell? ⟨2,0,none⟩=some ev) (hev:ev=.nilIface∨∃ te pe,ev=.iface te pe) :
 Calls Tryz.prog 97 #[.string s,.int .i64 10,.int .i64 64] w fun e w'=>∃ N,e=.returned (.tuple #[.int .i64 (Lib.intSat 64 s.data.toList),.iface 207 (.pointer (some ⟨N,0,none⟩))])∧w.heap.size≤N∧w'.heap[N]?=some (.cells #[.string ⟨#[80,97,114,115,101,73,110,116]⟩,.string s,ev] 235 (0,0))∧Below w.heap.size w w':=Any.strconv_ParseInt_10_at64_range Tryz.laysC174 s hlim h ev w hv hev
def Tryz.lays185_ren:Go.Shelf.Ren:=⟨fun | 185=>160 | 187=>194 | 115=>161 | 253=>195 | 224=>196 | 254=>197 | 255=>223 | 291=>224 | n=>n,fun | 37=>42 | 3=>3 | 4=>4 | 0=>0 | 5=>5 | 46=>202 | 9=>9 | 146=>230 | 51=>229 | n=>n,fun | 1=>0 | n=>n⟩
theorem Tryz.lays185:Go.Proofs.Lays.n185 Tryz.prog Tryz.lays185_ren:={
 mixed:=by kernel_rfl
 f115:=Tryz.func161.trans (congrArg some (by kernel_rfl))
 f185:=Tryz.func160.trans (congrArg some (by kernel_rfl))
 f187:=Tryz.func194.trans (congrArg some (by kernel_rfl))
 f224:=Tryz.func196.trans (congrArg some (by kernel_rfl))
 f253:=Tryz.func195.trans (congrArg some (by kernel_rfl))
 f254:=Tryz.func197.trans (congrArg some (by kernel_rfl))
 f255:=Tryz.func223.trans (congrArg some (by kernel_rfl))
 f291:=Tryz.func224.trans (congrArg some (by kernel_rfl))
 t0:=Tryz.underlying0
 a0:=Tryz.isAgg0
 z0:=Tryz.sizeOf0
 v0:=Tryz.zeroValue0
 t3:=Tryz.underlying3
 a3:=Tryz.isAgg3
 z3:=Tryz.sizeOf3
 v3:=Tryz.zeroValue3
 t4:=Tryz.underlying4
 a4:=Tryz.isAgg4
 z4:=Tryz.sizeOf4
 v4:=Tryz.zeroValue4
 t5:=Tryz.underlying5
 a5:=Tryz.isAgg5
 z5:=Tryz.sizeOf5
 v5:=Tryz.zeroValue5
 t9:=Tryz.underlying9
 a9:=Tryz.isAgg9
 z9:=Tryz.sizeOf9
 v9:=Tryz.zeroValue9
 t37:=Tryz.underlying42
 a37:=Tryz.isAgg42
 z37:=Tryz.sizeOf42
 v37:=Tryz.zeroValue42
 t46:=Tryz.underlying202
 a46:=Tryz.isAgg202
 z46:=Tryz.sizeOf202
 v46:=Tryz.zeroValue202
 t51:=Tryz.underlying229
 a51:=Tryz.isAgg229
 z51:=Tryz.sizeOf229
 v51:=Tryz.zeroValue229
 t146:=Tryz.underlying230
 a146:=Tryz.isAgg230
 z146:=Tryz.sizeOf230
 v146:=Tryz.zeroValue230
 g1:=by kernel_rfl }
open Go.RowKit Go.Lib in
theorem Tryz.bytes_Index_one_nil (b2 o2 d:Nat) (cv:Int) (w:World) (hc2:w.cell? ⟨b2,o2,none⟩=some (.int .u8 cv)) :
 Calls Tryz.prog 160 #[.slice none 0 0,.slice (some ⟨b2,o2,none⟩) 1 d] w fun e w'=>e=.returned (.int .i64 (-1))∧w'=w:=Any.bytes_Index_one_nil Tryz.lays185 b2 o2 d cv w hc2
open Go.RowKit Go.Lib in
theorem Tryz.bytes_Index_one_at (a:Addr) (n c b2 o2 d:Nat) (xs:List Int) (cv:Int) (w:World) (hx:xs.length=n) (hc:∀ i,i<n→w.cell? (a.add i)=some (.int .u8 (xs.getD i 0))) (hc2:w.cell? ⟨b2,o2,none⟩=some (.int .u8 cv)) :
 Calls Tryz.prog 160 #[.slice (some a) n c,.slice (some ⟨b2,o2,none⟩) 1 d] w fun e w'=>e=.returned (.int .i64 (Lib.indexByte (Lib.bytesOf xs) cv.toNat.toUInt8))∧w'=w:=Any.bytes_Index_one_at Tryz.lays185 a n c b2 o2 d xs cv w hx hc hc2
def Tryz.laysnb116_ren:Go.Shelf.Ren:=⟨fun | 116=>95 | 115=>161 | n=>n,fun | 37=>42 | 4=>4 | 3=>3 | 9=>9 | 5=>5 | n=>n,fun | n=>n⟩
theorem Tryz.laysnb116:Go.Proofs.Lays.nb116 Tryz.prog Tryz.laysnb116_ren:={
 mixed:=by kernel_rfl
 f115:=Tryz.func161.trans (congrArg some (by kernel_rfl))
 f116:=Tryz.func95.trans (congrArg some (by kernel_rfl))
 t3:=Tryz.underlying3
 a3:=Tryz.isAgg3
 z3:=Tryz.sizeOf3
 v3:=Tryz.zeroValue3
 t4:=Tryz.underlying4
 a4:=Tryz.isAgg4
 z4:=Tryz.sizeOf4
 v4:=Tryz.zeroValue4
 t9:=Tryz.underlying9
 a9:=Tryz.isAgg9
 z9:=Tryz.sizeOf9
 v9:=Tryz.zeroValue9
 t37:=Tryz.underlying42
 a37:=Tryz.isAgg42
 z37:=Tryz.sizeOf42
 v37:=Tryz.zeroValue42
 t5:=Tryz.underlying5
 a5:=Tryz.isAgg5
 z5:=Tryz.sizeOf5
 v5:=Tryz.zeroValue5 }
theorem Tryz.bytes_HasPrefix_all (p1 p2:Option Addr) (n c m d:Nat) (xs ys:List Int) (w:World) (hx:xs.length=n) (hy:ys.length=m) (hnc:n≤c) (h1:Lib.BytesIn w p1 n xs) (h2:Lib.BytesIn w p2 m ys) :
 Calls Tryz.prog 95 #[.slice p1 n c,.slice p2 m d] w fun e w'=>e=.returned (.bool (Lib.hasPrefix (Lib.bytesOf xs) (Lib.bytesOf ys)))∧w'=w:=Any.bytes_HasPrefix_all Tryz.laysnb116 p1 p2 n c m d xs ys w hx hy hnc h1 h2
def Tryz.laysSlT4_ren:Go.Shelf.Ren:=⟨fun | 4=>94 | 5=>160 | 6=>194 | 7=>161 | 8=>195 | 9=>196 | 10=>197 | 11=>223 | 12=>224 | n=>n,fun | 22=>42 | 4=>4 | 3=>3 | 0=>0 | 5=>5 | 29=>202 | 9=>9 | 31=>230 | 30=>229 | n=>n,fun | 0=>0 | n=>n⟩
theorem Tryz.laysSlT4:Go.Proofs.SlLaysT.n4 Tryz.prog Tryz.laysSlT4_ren:={
 mixed:=by kernel_rfl
 f4:=Tryz.func94.trans (congrArg some (by kernel_rfl))
 f5:=Tryz.func160.trans (congrArg some (by kernel_rfl))
 f6:=Tryz.func194.trans (congrArg some (by kernel_rfl))
 f7:=Tryz.func161.trans (congrArg some (by kernel_rfl))
 f8:=Tryz.func195.trans (congrArg some (by kernel_rfl))
 f9:=Tryz.func196.trans (congrArg some (by kernel_rfl))
 f10:=Tryz.func197.trans (congrArg some (by kernel_rfl))
 f11:=Tryz.func223.trans (congrArg some (by kernel_rfl))
 f12:=Tryz.func224.trans (congrArg some (by kernel_rfl))
 t0:=Tryz.underlying0
 a0:=Tryz.isAgg0
 z0:=Tryz.sizeOf0
 v0:=Tryz.zeroValue0
 t3:=Tryz.underlying3
 a3:=Tryz.isAgg3
 z3:=Tryz.sizeOf3
 v3:=Tryz.zeroValue3
 t4:=Tryz.underlying4
 a4:=Tryz.isAgg4
 z4:=Tryz.sizeOf4
 v4:=Tryz.zeroValue4
 t5:=Tryz.underlying5
 a5:=Tryz.isAgg5
 z5:=Tryz.sizeOf5
 v5:=Tryz.zeroValue5
 t9:=Tryz.underlying9
 a9:=Tryz.isAgg9
 z9:=Tryz.sizeOf9
 v9:=Tryz.zeroValue9
 t22:=Tryz.underlying42
 a22:=Tryz.isAgg42
 z22:=Tryz.sizeOf42
 v22:=Tryz.zeroValue42
 t29:=Tryz.underlying202
 a29:=Tryz.isAgg202
 z29:=Tryz.sizeOf202
 v29:=Tryz.zeroValue202
 t30:=Tryz.underlying229
 a30:=Tryz.isAgg229
 z30:=Tryz.sizeOf229
 v30:=Tryz.zeroValue229
 t31:=Tryz.underlying230
 a31:=Tryz.isAgg230
 z31:=Tryz.sizeOf230
 v31:=Tryz.zeroValue230
 g0:=by kernel_rfl }
theorem Tryz.bytes_Cut_of (p1 p2:Option Addr) (n c1 k c2:Nat) (i:Int) (w:World) (hcap:n≤c1) (hlo:-1≤i) (hroom:0≤i→i+k≤n) (hn:n≤4611686018427387904) (hidx:Calls Tryz.prog 160 #[.slice p1 n c1,.slice p2 k c2] w fun e w'=>e=.returned (.int .i64 i)∧∃ q,w'=w.drewN q) :
 Calls Tryz.prog 94 #[.slice p1 n c1,.slice p2 k c2] w fun e w'=>e=.returned (Lib.cutV p1 n c1 k i)∧∃ q,w'=w.drewN q:=Any.bytes_Cut_of Tryz.laysSlT4 p1 p2 n c1 k c2 i w hcap hlo hroom hn hidx
end Go.Proofs
namespace Go.Proofs.YtcnnlecjdkfdjaaGreatDoor.Ly
open Go.RowKit
def Mem (w:World) (p:Option Addr) (l:List UInt8):Prop:=l=[]∨∃ b o,p=some ⟨b,o,none⟩∧b<w.heap.size∧∀ i x,l[i]?=some x→w.cell? ⟨b,o+i,none⟩=some (.int .u8 x.toNat)
def nums (l:List UInt8):List Int:=l.map fun x=>(x.toNat:Int)
theorem nums_len (l:List UInt8):(nums l).length=l.length:=by simp [nums]
theorem nums_bytes (l:List UInt8):Lib.bytesOf (nums l)=l:=by
 unfold Lib.bytesOf nums;rw [List.map_map];conv=>rhs;rw [← List.map_id l]
 apply List.map_congr_left;intro x _;simp
theorem nums_str (l:List UInt8):strOfNums (nums l)=S l:=by
 unfold strOfNums S;have:=nums_bytes l;unfold Lib.bytesOf at this;rw [this]
theorem nums_getD (l:List UInt8) (i:Nat) (h:i<l.length):(nums l).getD i 0=(l[i].toNat:Int):=by
 simp [nums,h]
theorem Mem.nil (w:World) (p:Option Addr):Mem w p []:=.inl rfl
theorem Mem.in {w:World} {p:Option Addr} {l:List UInt8} (h:Mem w p l):Lib.BytesIn w p l.length (nums l):=by
 intro hn
 rcases h with rfl | ⟨b,o,hp,_,hc⟩
 ·simp at hn
 ·exact ⟨b,o,hp,fun i hi=>by rw [nums_getD l i hi];exact hc i _ (by simp [hi])⟩
theorem Mem.drop {w:World} {p:Option Addr} {l:List UInt8} (h:Mem w p l) (j c:Nat) (hc:l.length≤c):Mem w (if c=j then p else p.map fun x=>x.add j) (l.drop j):=by
 rcases h with rfl | ⟨b,o,rfl,hb,hm⟩
 ·exact .inl (by simp)
 ·by_cases hd:l.drop j=[]
  ·exact .inl hd
  ·have hj:j<l.length:=by
    apply Classical.byContradiction;intro hn
    exact hd (List.drop_eq_nil_of_le (by omega))
   rw [if_neg (by omega)]
   exact .inr ⟨b,o+j,by simp [Addr.add],hb,fun i x hx=>by rw [Nat.add_assoc];exact hm (j+i) x (by rw [← List.getElem?_drop];exact hx)⟩
theorem Mem.take {w:World} {p:Option Addr} {l:List UInt8} (h:Mem w p l) (j:Nat):Mem w p (l.take j):=by
 rcases h with rfl | ⟨b,o,hp,hb,hm⟩
 ·exact .inl (by simp)
 ·exact .inr ⟨b,o,hp,hb,fun i x hx=>by
   rw [List.getElem?_take] at hx
   split at hx
   ·exact hm i x hx
   ·cases hx⟩
theorem Mem.below {w w':World} {n:Nat} {p:Option Addr} {l:List UInt8} (h:Mem w p l) (hn:w.heap.size≤n) (hb:Below n w w'):Mem w' p l:=by
 rcases h with rfl | ⟨b,o,hp,hbk,hm⟩
 ·exact .inl rfl
 ·exact .inr ⟨b,o,hp,Nat.lt_of_lt_of_le hbk hb.size,fun i x hx=>(hb.cell (p:=⟨b,o+i,none⟩) (Nat.lt_of_lt_of_le hbk hn)).trans (hm i x hx)⟩
theorem Mem.alloc {w:World} {p:Option Addr} {l:List UInt8} (h:Mem w p l) (o:Obj):Mem (w.alloc o) p l:=
 h.below (Nat.le_refl _) ((Below.refl _ w).alloc (Nat.le_refl _) o)
theorem Mem.str {w:World} {p:Option Addr} {l:List UInt8} (h:Mem w p l) (hl:l≠[]) (c:Nat):(convert 42 9 (.slice p l.length c)).run Tryz.prog w=.ok (.string (S l)) w:=by
 rcases h with rfl | ⟨b,o,rfl,_,hm⟩
 ·exact absurd rfl hl
 ·have:=run_convert_bytes_arg (P:=Tryz.prog) w 42 5 Tryz.underlying42 Tryz.underlying5 b o l.length c (nums l) (nums_len l) (fun i hi=>by rw [nums_getD l i hi];exact hm i _ (by simp [hi])) 9 Tryz.underlying9
  rw [nums_str] at this
  exact this
theorem pre_two (l:List UInt8):Lib.hasPrefix l [45,45]=(l.take 2 == [45,45]):=by
 unfold Lib.hasPrefix
 match l with
 | []=>rfl
 | [a]=>simp [List.isPrefixOf]
 | a :: b :: r=>
  simp only [List.isPrefixOf,List.take_succ_cons,List.take_zero,List.cons_beq_cons]
  rw [Bool.beq_comm (a:=(45:UInt8)) (b:=a),Bool.beq_comm (a:=(45:UInt8)) (b:=b)]
  rfl
theorem hasPre (w:World) (p:Option Addr) (m d:Nat) (l:List UInt8) (hl:l.length=m) (hd:m≤d) (hm:Mem w p l) :
 Calls Tryz.prog 95 #[.slice p m d,.slice (some ⟨w.heap.size,0,none⟩) 2 2] (w.alloc (.cells #[.int .u8 45,.int .u8 45] 5 (2,3))) fun e w'=>
  e=.returned (.bool (l.take 2 == [45,45]))∧w'=w.alloc (.cells #[.int .u8 45,.int .u8 45] 5 (2,3)):=by
 have h2:Lib.BytesIn (w.alloc (.cells #[.int .u8 45,.int .u8 45] 5 (2,3))) (some ⟨w.heap.size,0,none⟩) 2 [45,45]:=by
  intro _
  refine ⟨w.heap.size,0,rfl,fun i hi=>?_⟩
  have:i=0∨i=1:=by omega
  rcases this with rfl | rfl
  ·rw [Nat.zero_add,World.cell?_alloc_mark];rfl
  ·rw [Nat.zero_add,World.cell?_alloc_mark];rfl
 have h1:=(hm.alloc (.cells #[.int .u8 45,.int .u8 45] 5 (2,3))).in
 rw [hl] at h1
 have h:=Tryz.bytes_HasPrefix_all p (some ⟨w.heap.size,0,none⟩) m d 2 2 (nums l) [45,45] _ (by rw [nums_len,hl]) rfl hd h1 h2
 rw [nums_bytes,show Lib.bytesOf [45,45]=[45,45] from rfl,pre_two] at h
 exact h
theorem gp_space {l:List UInt8} {j:Nat} (h:j<l.length) (h32:((l[j].toNat:Int) == 32)=true):gp (l.drop j)=gp (l.drop (j+1)):=by
 rw [List.drop_eq_getElem_cons h];unfold gp
 rw [List.dropWhile_cons,if_pos]
 simp only [beq_iff_eq] at h32 ⊢
 have:l[j].toNat=32:=by omega
 exact UInt8.toNat_inj.1 this
theorem gp_other {l:List UInt8} {j:Nat} (h:j<l.length) (h32:((l[j].toNat:Int) == 32)=false):gp (l.drop j)=l.drop j:=by
 rw [List.drop_eq_getElem_cons h];unfold gp
 rw [List.dropWhile_cons,if_neg]
 intro hc
 simp only [beq_iff_eq] at hc
 rw [hc] at h32
 simp at h32
theorem skip_end (l:List UInt8) (j n:Nat) (hn:l.length=n) (hj:j≤n) (h:gp (l.drop j)=l.drop j):(n:Int) - (sk (l.drop j)).length=if ((l.drop j).take 2 == [45,45])=true then (n:Int) else (j:Int):=by
 unfold sk;rw [h]
 split
 ·simp
 ·simp;omega
theorem Mem.dropAt {w:World} {b o:Nat} {l:List UInt8} (h:Mem w (some ⟨b,o,none⟩) l) (j:Nat):Mem w (some ⟨b,o+j,none⟩) (l.drop j):=by
 rcases h with rfl | ⟨b',o',he,hb,hm⟩
 ·exact .inl (by simp)
 ·cases he
  exact .inr ⟨b,o+j,rfl,hb,fun i x hx=>by rw [Nat.add_assoc];exact hm (j+i) x (by rw [← List.getElem?_drop];exact hx)⟩
theorem skip_at (b o n c k:Nat) (l:List UInt8) (w:World) (hl:l.length=n) (hn:n≤2147483647) (hc:n≤c) (hk:k≤n) (hb:b<w.heap.size)
 (hm:∀ i x,l[i]?=some x→w.cell? ⟨b,o+i,none⟩=some (.int .u8 x.toNat)) :
 Calls Tryz.prog 42 #[.slice (some ⟨b,o,none⟩) n c,.int .i64 k] w fun e w'=>e=.returned (.int .i64 (n - (sk (l.drop k)).length))∧Below w.heap.size w w':=by
 have M0:Mem w (some ⟨b,o,none⟩) l:=.inr ⟨b,o,rfl,hb,hm⟩
 have kc:=fun (w:World) (C:Array Value) (n c:Nat)=>Lib.run_convert_bytes_const (P:=Tryz.prog) w 42 5 C n c Tryz.underlying42 Tryz.underlying5
 go_enter Tryz.func42,Tryz.ntmps42
 go_wp2
 go_loop [1] (fun i=>∃ j:Nat,k≤j∧j≤n∧i=.int .i64 j∧gp (l.drop k)=gp (l.drop j)) (fun i=>n - (intOf i).toNat)
 case atStart=>exact ⟨k,Nat.le_refl _,hk,rfl,rfl⟩
 case round=>
  obtain ⟨j,hkj,hjn,rfl,hg⟩:=hrel
  have HG:=zz hg
  clear hg
  have HM:=zz hm
  clear hm
  have HK:Hid (sk (l.drop k)=sk (l.drop j)):=by show sk (l.drop k)=sk (l.drop j);unfold sk;rw [HG.out]
  have HX:=zz (M0.dropAt j)
  by_cases hlt:j<n
  ·have hcell:=HM.out j l[j] (by simp)
   by_cases h32:((l[j].toNat:Int) == 32)=true
   ·have H3:=zz (gp_space (l:=l) (j:=j) (by omega) h32)
    go_wp2
    exact ⟨⟨j+1,by omega,by omega,by go_num,by rw [HG.out,H3.out]⟩,by simp [intOf];omega⟩
   ·have h32':((l[j].toNat:Int) == 32)=false:=by simpa using h32
    have HE:=zz (skip_end l j n hl hjn (gp_other (by omega) h32'))
    clear h32
    cases hpre:((l.drop j).take 2 == [45,45])
    all_goals
     rw [hpre] at HE
     have HPRE:=zz hpre
     clear hpre
     go_wp2_with fail
     ·refine (hasPre w _ (n - j) (c - j) (l.drop j) (by rw [List.length_drop,hl]) (by omega) HX.out).mono ?_
      rintro e w' ⟨rfl,rfl⟩
      rw [HPRE.out]
      go_wp2_with fail
      go_ret
      exact ⟨by rw [HK.out,HE.out];rfl,(Below.refl _ _).alloc (Nat.le_refl _) _⟩
  ·have HE:=zz (skip_end l j n hl hjn (by rw [List.drop_eq_nil_of_le (by omega)];rfl))
   have hd:l.drop j=[]:=List.drop_eq_nil_of_le (by omega)
   have HPRE:Hid (((l.drop j).take 2 == [45,45])=false):=by show ((l.drop j).take 2 == [45,45])=false;rw [hd];rfl
   rw [HPRE.out] at HE
   clear hd
   go_wp2_with fail
   all_goals
    refine (hasPre w _ _ _ (l.drop j) (by rw [List.length_drop,hl]) (by omega) (by rw [List.drop_eq_nil_of_le (by omega)];exact Mem.nil _ _)).mono ?_
    rintro e w' ⟨rfl,rfl⟩
    rw [HPRE.out]
    go_wp2_with fail
    go_ret
    exact ⟨by rw [HK.out,HE.out];rfl,(Below.refl _ _).alloc (Nat.le_refl _) _⟩
theorem skip_none (n c:Nat) (p:Option Addr) (w:World) (hp:p=none→c=0) :
 Calls Tryz.prog 42 #[.slice p 0 c,.int .i64 0] w fun e w'=>e=.returned (.int .i64 0)∧Below w.heap.size w w':=by
 have kc:=fun (w:World) (C:Array Value) (n c:Nat)=>Lib.run_convert_bytes_const (P:=Tryz.prog) w 42 5 C n c Tryz.underlying42 Tryz.underlying5
 cases p with
 | none=>
  obtain rfl:=hp rfl
  go_enter Tryz.func42,Tryz.ntmps42
  go_wp2
  go_loop [1] (fun i=>i=.int .i64 0) (fun i=>0)
  case atStart=>rfl
  case round=>
   subst hrel
   go_wp2_with fail
   refine (hasPre w _ 0 0 [] rfl (Nat.zero_le _) (Mem.nil _ _)).mono ?_
   rintro e w' ⟨rfl,rfl⟩
   go_wp2_with fail
   go_ret
   exact ⟨rfl,(Below.refl _ _).alloc (Nat.le_refl _) _⟩
 | some a=>
  go_enter Tryz.func42,Tryz.ntmps42
  go_wp2
  go_loop [1] (fun i=>i=.int .i64 0) (fun i=>0)
  case atStart=>rfl
  case round=>
   subst hrel
   go_wp2_with fail
   all_goals
    refine (hasPre w _ 0 c [] rfl (Nat.zero_le _) (Mem.nil _ _)).mono ?_
    rintro e w' ⟨rfl,rfl⟩
    go_wp2_with fail
    go_ret
    exact ⟨rfl,(Below.refl _ _).alloc (Nat.le_refl _) _⟩
def cl (x:UInt8):Value:=.int .u8 x.toNat
theorem info5:(Tryz.prog.info? 5).map (fun i=>(i.zero,i.size,i.bytes))=some (some (.int .u8 0),1,1):=by kernel_rfl
theorem row_mem {W:World} {n₀ n c:Nat} {p:Option Addr} {l:List UInt8} (h:W.ownsRow n₀ 5 1 (.slice p n c) n (l.map cl)):Mem W p l:=by
 rcases h.2 with ⟨hv,h0⟩ | ⟨g,cap,cur,hv,hb,hg,h1,h2,h3,h4⟩
 ·have:=h.1;simp [h0] at this;exact .inl this
 ·cases hv
  have hl:=h.1
  simp only [List.length_map,Nat.mul_one] at hl h4
  refine .inr ⟨g,0,rfl,(Array.getElem?_eq_some_iff.1 hg).1,fun i x hx=>?_⟩
  have hi:i<n:=by have:=(List.getElem?_eq_some_iff.1 hx).1;omega
  have e:cur.toList[i]?=some (cl x):=by
   have:=congrArg (fun y=>y[i]?) h4
   simp only [List.getElem?_take,if_pos hi,List.getElem?_map,hx,Option.map_some] at this
   exact this
  simp only [World.cell?,hg,Nat.zero_add]
  rw [← Array.getElem?_toList];exact e
theorem row_str {W:World} {n₀ c:Nat} {p:Option Addr} {l:List UInt8} (hl:l≠[]) (n:Nat) (hn:l.length=n) (h:W.ownsRow n₀ 5 1 (.slice p n c) n (l.map cl)) :
 (convert 42 9 (.slice p n c)).run Tryz.prog W=.ok (.string (S l)) W:=by
 subst hn;exact (row_mem h).str hl c
theorem map_snoc (l:List UInt8) (x:UInt8):l.map cl ++ [cl x]=(l ++ [x]).map cl:=by simp
theorem grow_any (B n₀ g cap:Nat) (l:List UInt8) (x:UInt8) (W:World) (hl0:l≠[]) (hlen:l.length≤100) (hB:Boxed W B 42 (.slice (some ⟨g,0,none⟩) l.length cap)) (hrow:W.ownsRow n₀ 5 1 (.slice (some ⟨g,0,none⟩) l.length cap) l.length (l.map cl)) (hn:n₀≤W.heap.size) (hnB:n₀≤B) :
 Calls Tryz.prog 167 #[.int .u8 x.toNat,.pointer (some ⟨B,0,none⟩)] W fun e W'=>∃ g' cap',e=.returned (.bool (sg (l ++ [x])))∧Boxed W' B 42 (.slice (some ⟨g',0,none⟩) (l.length+1) cap')∧W'.ownsRow n₀ 5 1 (.slice (some ⟨g',0,none⟩) (l.length+1) cap') (l.length+1) ((l ++ [x]).map cl)∧Below n₀ W W':=by
 obtain ⟨i0,hi,hz0,hz1,hz2⟩:=info_parts info5
 have hc:=hB.cell
 have hf:=hB.frozen
 go_enter Tryz.func167,Tryz.ntmps167
 go_wp2_with (at_builtin;refine wpList_append_own _ rfl _ _ 42 rfl n₀ 5 i0 (.int .u8 0) 1 1 Tryz.underlying42 hi hz0 hz1 hz2 rfl (by decide) _ _ _ rfl (hrow.alloc _) ⟨W.heap.size,0,none⟩ 1 1 [cl x] rfl rfl (cell_one_new _ _ _) (by simp [Value.oneCell',cl]) (by unfold maxLen;omega) (by omega) (by simp;omega) ?_;intro v' w1 hown' hgrow _;obtain ⟨g',cap',rfl⟩:=ownsRow_succ hown';obtain ⟨hv1,hv2,hr2,hk2,hb2⟩:=hB.appended (by decide) hrow hn hnB hown' hgrow;have hc1:=hv1.cell;have hf1:=hv1.frozen;have hc2:=hv2.cell;have hf2:=hv2.frozen;rw [map_snoc] at hr2;have hcv:=row_str (l:=l ++ [x]) (by simp) (l.length+1) (by simp) hr2)
 refine (sign_any _ _).mono ?_
 rintro e w' ⟨rfl,rfl⟩
 go_wp2_with fail
 go_ret
 exact ⟨g',cap',rfl,hv2,hr2,hb2⟩
theorem ret_int {k:IntKind} {a b:Int} (h:a=b):Ending.returned (.int k a)=.returned (.int k b):=by rw [h]
theorem tw_at (p:UInt8→Bool):∀ (r:List UInt8) (k:Nat),k≤r.length→(r.take k).all p=true→(∀ h:k<r.length,p r[k]=false)→(r.takeWhile p).length=k
 | [],k,hk,_,_=>by simp at hk;simp [hk]
 | a :: r,0,_,_,hs=>by have:=hs (by simp);simp at this;simp [this]
 | a :: r,k+1,hk,ha,hs=>by
  simp only [List.take_succ_cons,List.all_cons,Bool.and_eq_true] at ha
  simp only [List.takeWhile_cons,ha.1,if_true,List.length_cons]
  rw [tw_at p r k (by simpa using hk) ha.2 (fun h=>by have:=hs (by simp;omega);simpa using this)]
theorem end_run (x:UInt8) (f:Nat) (p:UInt8→Bool) (hf:f=96∨f=166) (hp:∀ (c:UInt8) (w:World),Calls Tryz.prog f #[.int .u8 c.toNat] w fun e w'=>e=.returned (.bool (p c))∧w'=w)
 (hgo:∀ w:World,Calls Tryz.prog 100 #[.int .u8 x.toNat] w fun e w'=>e=.returned (.func (.func f) #[] #[])∧w'=w)
 (b o c:Nat) (r:List UInt8) (w:World) (hn:r.length+1≤2147483647)
 (hm:∀ i y,(x :: r)[i]?=some y→w.cell? ⟨b,o+i,none⟩=some (.int .u8 y.toNat)) :
 Calls Tryz.prog 44 #[.slice (some ⟨b,o,none⟩) (r.length+1) c] w fun e w'=>e=.returned (.int .i64 (1+(r.takeWhile p).length:Nat))∧w'=w:=by
 have hx:=hm 0 x rfl
 rw [Nat.add_zero] at hx
 have HM:=zz hm
 have HP:=zz hp
 have HGO:=zz hgo
 clear hm hp hgo
 rcases hf with rfl | rfl
 all_goals
  go_enter Tryz.func44,Tryz.ntmps44
  go_wp2_with fail
  refine (HGO.out _).mono ?_
  rintro e w' ⟨rfl,rfl⟩
  go_wp2_with fail
  go_loop [4] (fun i=>∃ k:Nat,k≤r.length∧i=.int .i64 (k+1:Nat)∧(r.take k).all p=true) (fun i=>r.length+1 - (intOf i).toNat)
  case atStart=>exact ⟨0,Nat.zero_le _,rfl,rfl⟩
  case round=>
   obtain ⟨k,hk,rfl,hall⟩:=hrel
   have HA:=zz hall
   clear hall
   by_cases hlt:k<r.length
   ·have hcell:=HM.out (k+1) r[k] (by simp [hlt])
    have HT:=zz (all_take_succ p r k hlt)
    cases hq:p r[k]
    ·have HE:=zz (tw_at p r k hk HA.out (fun _=>hq))
     have HQ:=zz hq
     clear hq
     go_wp2_with fail
     refine (HP.out _ _).mono ?_
     rintro e w' ⟨rfl,rfl⟩
     rw [HQ.out]
     go_wp2_with fail
     go_ret
     exact ⟨by show Ending.returned (Value.int .i64 ((k:Int)+1))=_;exact ret_int (by rw [HE.out];omega),rfl⟩
    ·have HQ:=zz hq
     clear hq
     go_wp2_with fail
     refine (HP.out _ _).mono ?_
     rintro e w' ⟨rfl,rfl⟩
     rw [HQ.out]
     go_wp2_with fail
     go_round
     case rel=>exact ⟨k+1,by omega,by go_num,by rw [HT.out,HA.out,HQ.out];rfl⟩
     case measure=>simp [intOf];omega
   ·have HE:=zz (tw_at p r k hk HA.out (fun h=>absurd h hlt))
    go_wp2
    go_ret
    exact ⟨by show Ending.returned (Value.int .i64 ((k:Int)+1))=_;exact ret_int (by rw [HE.out];omega),rfl⟩
theorem goesOn_dig (x:UInt8) (h:dg x=true) (w:World):Calls Tryz.prog 100 #[.int .u8 x.toNat] w fun e w'=>e=.returned (.func (.func 96) #[] #[])∧w'=w:=by
 go_enter Tryz.func100,Tryz.ntmps100
 go_wp2_with fail
 refine (digit_any _ _).mono ?_;rintro e w' ⟨rfl,rfl⟩;rw [h]
 go_wp2_with fail
 go_ret
 exact ⟨rfl,rfl⟩
theorem goesOn_word (x:UInt8) (h:dg x=false) (h2:pt x=true) (w:World):Calls Tryz.prog 100 #[.int .u8 x.toNat] w fun e w'=>e=.returned (.func (.func 166) #[] #[])∧w'=w:=by
 go_enter Tryz.func100,Tryz.ntmps100
 go_wp2_with fail
 refine (digit_any _ _).mono ?_;rintro e w' ⟨rfl,rfl⟩;rw [h]
 go_wp2_with fail
 refine (inWord_any _ _).mono ?_;rintro e w' ⟨rfl,rfl⟩;rw [h2]
 go_wp2_with fail
 go_ret
 exact ⟨rfl,rfl⟩
theorem goesOn_sign (x:UInt8) (h:dg x=false) (h2:pt x=false) (w:World):Calls Tryz.prog 100 #[.int .u8 x.toNat] w fun e w'=>
 e=.returned (.func (.func 167) #[] #[.pointer (some ⟨w.heap.size+1,0,none⟩)])∧w'=(w.alloc (.cells #[cl x] 5)).alloc (.cells #[.slice (some ⟨w.heap.size,0,none⟩) 1 1] 42):=by
 unfold cl
 go_enter Tryz.func100,Tryz.ntmps100
 go_wp2_with fail
 refine (digit_any _ _).mono ?_;rintro e w' ⟨rfl,rfl⟩;rw [h]
 go_wp2_with fail
 refine (inWord_any _ _).mono ?_;rintro e w' ⟨rfl,rfl⟩;rw [h2]
 go_wp2_with fail
 go_ret
 exact ⟨rfl,rfl⟩
end Go.Proofs.YtcnnlecjdkfdjaaGreatDoor.Ly
