/- Parts of the proof. -/
import Derived.Test.YtcnnlecjdkfdjaaGreatDoorAwake
import Derived.Test.YtcnnlecjdkfdjaaGreatDoorCards
import Derived.Test.YtcnnlecjdkfdjaaGreatDoorTie
import Derived.LaidMore
import Derived.OpenShut
import Derived.Stop.LaidErr
import Derived.Lib.SlBytesRowKit
import Derived.Deep.Slices
set_option linter.unusedVariables false
set_option linter.unusedSimpArgs false
set_option maxRecDepth 100000
set_option maxHeartbeats 8000000
namespace Go.Proofs.YtcnnlecjdkfdjaaGreatDoor
open Go.ChangeShapes Go.WideShapes Go.ChangeAt Go.RowKit
theorem own:ownKnob Tryz.prog.godebug=none:=by kernel_rfl
theorem laidOut:laidOutB Tryz.prog=true:=by kernel_rfl
theorem door_met (os:Os) (args:Array Value):laidMetH Tryz.prog Rows.parsePlacesRow.laid ((World.doorLaid Tryz.prog 400 os).forCall (fun _ _=>0) ⟨#[],args,[]⟩).memory:=
 laidMetH_of_parts3 (fuel:=8) (laidMet_of_run' 8 (by kernel_rfl) (by kernel_rfl)) (by kernel_rfl) (by kernel_rfl)
theorem gRange : Tryz.prog.globalNamed "strconv.ErrRange" = some 2 := by kernel_rfl
theorem tRange:(Tryz.prog.globals[2]?).map (·.type)=some 139:=by kernel_rfl
theorem cells244:Tryz.prog.cellsOf 244=1:=by kernel_rfl
theorem cells9:Tryz.prog.cellsOf 9=1:=by kernel_rfl
theorem star : "*" ++ "errors.errorString" = "*errors.errorString" := by decide
theorem row242 (u : TypeId) (h : Tryz.prog.typeName? 3 u = some "*errors.errorString") : u = 242 :=
 typeName_ptr_named (nm := "errors.errorString") (by rw [star]; kernel_rfl) (by kernel_rfl) (by decide) u (by rw [star]; exact h)
theorem gPow : Tryz.prog.globalNamed "internal/strconv.uint64pow10" = some 3 := by kernel_rfl
theorem tPow:(Tryz.prog.globals[3]?).map (·.type)=some 255:=by kernel_rfl
theorem cells204:Tryz.prog.cellsOf 204=1:=by kernel_rfl
theorem cells255:Tryz.prog.cellsOf 255=20:=by kernel_rfl
theorem glob_of {W:World} (h:laidMetH Tryz.prog Rows.parsePlacesRow.laid W):Ly.Glob W∧GP (fun b=>b<W.heap.size) W:=by
 rw [MakeChecks.laidMetH_plain _ _ _ (by kernel_rfl)] at h
 refine ⟨?_,?_⟩
 ·obtain ⟨a,s,hv,_,_,_⟩:=laid_sentinel (laidMet.tail (laidMet.tail (laidMet.tail h))) gRange tRange Tryz.underlying139 row242 Tryz.underlying242 Tryz.underlying244 rfl rfl Tryz.underlying9 cells244 cells9
  have h0:=World.var?_cell gRange hv 0
  have h1:W.cell? ⟨2,0,none⟩=some (.iface 242 (.pointer (some a))):=by simpa using h0
  refine ⟨?_,242,_,h1⟩
  apply Classical.byContradiction
  intro hn
  have:W.heap[2]?=none:=Array.getElem?_eq_none (by omega)
  simp [World.cell?,this] at h1
 ·have ht : Lib.TabIs Tryz.prog W "internal/strconv.uint64pow10" .u64 Lib.pow10Tab := Lib.tabIs_of_head gPow tPow Tryz.underlying255 Tryz.underlying204 cells204 cells255 (laidMet.tail (laidMet.tail h))
  refine ⟨ht,fun g hg=>?_⟩
  have hc:=ht.cell gPow 0 (by decide)
  obtain rfl:=Option.some.inj (gPow.symm.trans hg)
  apply Classical.byContradiction
  intro hn
  have:W.heap[3]?=none:=Array.getElem?_eq_none (by omega)
  simp [World.cell?,this] at hc
theorem cells3:Tryz.prog.cellsOf 3=1:=by kernel_rfl
theorem cells51:Tryz.prog.cellsOf 51=5:=by kernel_rfl
theorem cell_block {W:World} {b x:Nat} {v:Value} (h:W.cell? ⟨b,x,none⟩=some v):b<W.heap.size:=by
 apply Classical.byContradiction
 intro hnb
 have hh:W.heap[b]?=none:=Array.getElem?_eq_none (by omega)
 simp [World.cell?,hh] at h
theorem maxA:maxLen≤9223372036854775807:=by decide
theorem maxB:reachBytes≤281474976710656:=by decide
def light {H:Type} (t:TypeId) (d:DataW H):Prop:=(d.weights Tryz.prog t).all (·≤reachBytes)=true
theorem light_all {H:Type} {e:TypeId} {l:List (DataW H)} (h:(DataW.weightsAll Tryz.prog e l).all (·≤reachBytes)=true):∀ d ∈ l,light e d:=by
 induction l with
 | nil=>intro d hd;cases hd
 | cons a r ih=>
  rw [DataW.weightsAll,List.all_append,Bool.and_eq_true] at h
  intro d hd
  rcases List.mem_cons.1 hd with rfl | hd
  ·exact h.1
  ·exact ih h.2 d hd
theorem light_slice {H:Type} {t e:TypeId} {l r:List (DataW H)} (ht:Tryz.prog.underlying t=some (.slice e)) (h:light t (.slice l r)):∀ d ∈ l,light e d:=by
 unfold light at h
 rw [DataW.weights,ht] at h
 simp only [List.all_cons,List.all_append,Bool.and_eq_true] at h
 exact light_all h.2.1
theorem rows_of {H:Type} {enc:TypeId × Value→H} {W:World} {α:Type} (dflt:α) {t e:TypeId} {c fuel:Nat} {cs:List Value} {x:DataW H × List MemPlace} {P:Nat→Prop} (R:α→List Value→Prop) (hP:∀ b y v,W.cell? ⟨b,y,none⟩=some v→P b) (ht:Tryz.prog.underlying t=some (.slice e)) (hc:Tryz.prog.cellsOf e=c) (hc1:1≤c)
 (h:DataW.trod enc Tryz.prog W 0 (fun _=>true) true fuel t cs=some x) (hw:light t x.1) (hel:∀ n,n<fuel→∀ ds y,DataW.trod enc Tryz.prog W 0 (fun _=>true) true n e ds=some y→ds.length=c→light e y.1→∃ a,R a ds) :
 ∃ (p:Option Addr) (l:List α) (cap:Nat),cs=[.slice p l.length cap]∧SlOK p l.length cap∧RM c P W R p l:=by
 rcases DataW.trod_slice ht h with ⟨rfl,_⟩ | ⟨a,len,cap,elems,rest,n,hn,rfl,rfl,_,hl,hm,hlen,hel2,_,_⟩
 ·exact ⟨none,[],0,rfl,⟨Nat.le_refl _,by simp,fun _=>rfl⟩,.inl rfl⟩
 ·have each:∀ i,i<len→∃ q:α × List Value,W.cells? 0 (a.add (i * c)) c=some q.2∧R q.1 q.2:=by
   intro i hi
   have key:=hel2 i hi
   rw [List.getElem?_eq_getElem (by omega)] at key
   obtain ⟨cs',h1,h2⟩:=Option.bind_eq_some_iff.1 key
   rw [hc] at h1
   obtain ⟨a',ha⟩:=hel n (by omega) cs' _ h2 (World.cells?_some h1).2.1 (light_slice ht hw _ (List.mem_map.2 ⟨_,List.getElem_mem _,rfl⟩))
   exact ⟨(a',cs'),h1,ha⟩
  have inh:Inhabited (α × List Value):=⟨(dflt,[])⟩
  obtain ⟨q,hq⟩:=Go.Deep.choose_lt (α:=α × List Value) each
  have hll:((List.range len).map fun i=>(q i).1).length=len:=by simp
  refine ⟨some a,(List.range len).map fun i=>(q i).1,cap,by rw [hll],by rw [hll];exact ⟨hl,Nat.le_trans hm maxA,fun h=>by cases h⟩,?_⟩
  by_cases hn0:len=0
  ·left;rw [hn0];rfl
  ·right
   obtain ⟨b,o,sp⟩:=a
   have hsp:sp=none:=by
    cases sp with
    | none=>rfl
    | some z=>
     have h00:=(World.cells?_some (hq 0 (by omega)).1).2.2 0 (by omega)
     unfold World.cell? at h00
     have hlen0:=(World.cells?_some (hq 0 (by omega)).1).2.1
     rw [List.getElem?_eq_getElem (by omega)] at h00
     simp [Addr.add] at h00
     split at h00 <;> simp at h00
   subst hsp
   have hcl:∀ i,i<len→∀ j,j<c→W.cell? ⟨b,o+i * c+j,none⟩=(q i).2[j]?:=by
    intro i hi j hj
    have:=(World.cells?_some (hq i hi).1).2.2 j hj
    rw [Go.WideShapes.add_plain,Go.WideShapes.add_plain] at this
    exact this
   have h00:=hcl 0 (by omega) 0 (by omega)
   rw [List.getElem?_eq_getElem (by have:=(World.cells?_some (hq 0 (by omega)).1).2.1;omega)] at h00
   refine ⟨b,o,rfl,hP _ _ _ h00,fun i t' ht'=>?_⟩
   have hi:i<len:=by have:=(List.getElem?_eq_some_iff.1 ht').1;simpa using this
   have ht2:t'=(q i).1:=by
    rw [List.getElem?_map,List.getElem?_range hi] at ht'
    simpa using ht'.symm
   subst ht2
   refine ⟨(q i).2,(World.cells?_some (hq i hi).1).2.1,fun j d hd=>?_,(hq i hi).2⟩
   have hj:j<c:=by have:=(List.getElem?_eq_some_iff.1 hd).1;have:=(World.cells?_some (hq i hi).1).2.1;omega
   rw [hcl i hi j hj,hd]
theorem str_of {H:Type} {enc:TypeId × Value→H} {W:World} {n:Nat} {cs:List Value} {x:DataW H × List MemPlace} (h:DataW.trod enc Tryz.prog W 0 (fun _=>true) true n 9 cs=some x) (hw:light 9 x.1):∃ s:List UInt8,cs=[.string (S s)]∧s.length≤281474976710656:=by
 obtain ⟨z1,e1,rfl,h1⟩:=DataW.trod_string Tryz.underlying9 h
 refine ⟨z1.data.toList,by rw [S_of];exact e1,?_⟩
 unfold light at hw
 simp only [DataW.weights,List.all_cons,List.all_nil,Bool.and_true,decide_eq_true_eq] at hw
 exact Nat.le_trans hw maxB
def TkIn (t:Tk) (ds:List Value):Prop:=ds=tkC t∧t.tx.length≤281474976710656∧-9223372036854775808≤t.nu∧t.nu≤9223372036854775807
theorem tok_of {H:Type} {enc:TypeId × Value→H} {W:World} {n:Nat} {cs:List Value} {x:DataW H × List MemPlace} (h:DataW.trod enc Tryz.prog W 0 (fun _=>true) true n 51 cs=some x) (hw:light 51 x.1):∃ t:Tk,TkIn t cs:=by
 obtain ⟨xs,k,hk,rfl,hcl,hxl,hf⟩:=DataW.trod_struct Tryz.underlying51 h
 rw [cells51] at hcl
 match xs,hxl,cs,hcl with
 | [y0,y1,y2,y3,y4],_,[v0,v1,v2,v3,v4],_=>
  unfold light at hw
  rw [DataW.weights,Tryz.underlying51] at hw
  simp only [List.map_cons,List.map_nil,DataW.weightsEach,List.all_append,Bool.and_eq_true] at hw
  obtain ⟨_,w1,_,_,_,_⟩:=hw
  have g0:=hf 0 _ rfl
  have g1:=hf 1 _ rfl
  have g2:=hf 2 _ rfl
  have g3:=hf 3 _ rfl
  have g4:=hf 4 _ rfl
  simp [cells3,cells9] at g0 g1 g2 g3 g4
  obtain ⟨z0,e0,_,_⟩:=DataW.trod_int Tryz.underlying3 g0
  obtain ⟨z1,e1,h1⟩:=str_of g1 w1
  obtain ⟨z2,e2,_,h2⟩:=DataW.trod_int Tryz.underlying3 g2
  obtain ⟨z3,e3,_,_⟩:=DataW.trod_int Tryz.underlying3 g3
  obtain ⟨z4,e4,_,_⟩:=DataW.trod_int Tryz.underlying3 g4
  simp only [List.cons.injEq,and_true] at e0 e1 e2 e3 e4
  subst e0 e1 e2 e3 e4
  have hw:-9223372036854775808≤z2∧z2≤9223372036854775807:=by
   simp only [Lit.wf,Bool.and_eq_true,decide_eq_true_eq] at h2
   have a1:IntKind.min .i64=-9223372036854775808:=by decide
   have a2:IntKind.max .i64=9223372036854775807:=by decide
   rw [a1,a2] at h2
   exact h2
  exact ⟨⟨z0,z1,z2,z3,z4⟩,rfl,h1,hw.1,hw.2⟩
theorem toks_of {H:Type} {enc:TypeId × Value→H} {W:World} {v:Value} {d0:DataW H} {p:List MemPlace} (h0:DataW.Trod enc Tryz.prog W 0 (fun _=>true) true 22 v d0 p) (hv:∃ a n c,v=.slice a n c) (hw:light 22 d0) :
 ∃ (a:Option Addr) (l:List Tk) (cap:Nat),v=.slice a l.length cap∧SlOK a l.length cap∧KM (fun b=>b<W.heap.size) W a l:=by
 obtain ⟨a,n,c,rfl⟩:=hv
 obtain ⟨fuel,hf⟩:=h0
 obtain ⟨q,l,cap,hcs,h1,h2⟩:=rows_of (P:=fun b=>b<W.heap.size) tk0 TkIn (fun b y v h=>cell_block h) Tryz.underlying22 cells51 (by omega) hf hw (fun n _ ds y hd _ hw=>tok_of hd hw)
 have e:Value.slice a n c=.slice q l.length cap:=by simpa [Value.cells] using hcs
 exact ⟨q,l,cap,e,h1,h2⟩
end Go.Proofs.YtcnnlecjdkfdjaaGreatDoor
namespace Go.Proofs.YtcnnlecjdkfdjaaGreatDoor
open Go.RowKit
theorem info51:(Tryz.prog.info? 51).map (fun i=>(i.zero,i.size,i.bytes))=some (some (.agg #[.int .i64 0,.string ⟨#[]⟩,.int .i64 0,.int .i64 0,.int .i64 0]),5,48):=by kernel_rfl
def tcs (l:List Tk):List Value:=l.flatMap tkC
theorem tcs_len (l:List Tk):(tcs l).length=l.length * 5:=by
 unfold tcs
 induction l with
 | nil=>rfl
 | cons a r ih=>rw [List.flatMap_cons,List.length_append,ih,List.length_cons];show 5+_=_;omega
theorem tcs_app (a b:List Tk):tcs (a ++ b)=tcs a ++ tcs b:=List.flatMap_append
theorem tcs_at {l:List Tk} {i j:Nat} {t:Tk} {d:Value} (h:l[i]?=some t) (hj:(tkC t)[j]?=some d):(tcs l)[i * 5+j]?=some d:=by
 unfold tcs
 have hj5:j<5:=(List.getElem?_eq_some_iff.1 hj).1
 induction l generalizing i with
 | nil=>cases h
 | cons a r ih=>
  rw [List.flatMap_cons]
  have ha:(tkC a).length=5:=rfl
  cases i with
  | zero=>
   cases h
   rw [List.getElem?_append_left (by rw [ha];omega),Nat.zero_mul,Nat.zero_add]
   exact hj
  | succ i=>
   rw [List.getElem?_append_right (by rw [ha,Nat.succ_mul];omega),ha,show (i+1) * 5+j - 5=i * 5+j by rw [Nat.succ_mul];omega]
   exact ih h
def TkB (t:Tk):Prop:=t.tx.length≤281474976710656∧-9223372036854775808≤t.nu∧t.nu≤9223372036854775807
def TR (base:Nat) (w:World) (v:Value) (l:List Tk):Prop:=w.ownsRow base 51 5 v l.length (tcs l)∧∀ t ∈ l,TkB t
theorem TR.keep {base:Nat} {w w':World} {v:Value} {l:List Tk} (h:TR base w v l) (hk:∀ g,v.ownBlock=some g→g<w.heap.size→w'.heap[g]?=w.heap[g]?):TR base w' v l:=by
 refine ⟨⟨h.1.1,?_⟩,h.2⟩
 rcases h.1.2 with h1 | ⟨g,cap,cur,rfl,h2,h3,h4,h5,h6,h7⟩
 ·exact .inl h1
 ·exact .inr ⟨g,cap,cur,rfl,h2,(hk g rfl (Array.getElem?_eq_some_iff.1 h3).1).trans h3,h4,h5,h6,h7⟩
theorem TR.below {base:Nat} {w w':World} {v:Value} {l:List Tk} (h:TR base w v l) (hb:Below w.heap.size w w'):TR base w' v l:=h.keep fun g _ hg=>hb.block g hg
theorem TR.slice {base:Nat} {w:World} {v:Value} {l:List Tk} (h:TR base w v l):∃ p cap,v=.slice p l.length cap∧(p=none→cap=0)∧l.length≤cap:=by
 rcases h.1.2 with ⟨h1,h2⟩ | ⟨g,cap,cur,rfl,h2,h3,h4,_⟩
 ·exact ⟨none,0,by rw [h1,h2],fun _=>rfl,by omega⟩
 ·exact ⟨_,cap,rfl,fun h=>(by cases h),h4⟩
theorem TR.km {base:Nat} {w:World} {p:Option Addr} {n cap:Nat} {l:List Tk} (h:TR base w (.slice p n cap) l):KM (fun b=>base≤b∧b<w.heap.size) w p l:=by
 rcases h.1.2 with ⟨h1,h2⟩ | ⟨g,cap',cur,h1,h2,h3,h4,h5,h6,h7⟩
 ·exact .inl (List.length_eq_zero_iff.1 h2)
 ·cases h1
  refine .inr ⟨g,0,rfl,⟨h2,(Array.getElem?_eq_some_iff.1 h3).1⟩,fun i t ht=>⟨tkC t,rfl,fun j d hj=>?_,rfl,h.2 t (List.mem_of_getElem? ht)⟩⟩
  have h8:=tcs_at ht hj
  rw [← h7,List.getElem?_take] at h8
  split at h8
  ·have:w.cell? ⟨g,0+i * 5+j,none⟩=cur[i * 5+j]?:=by unfold World.cell?;rw [Nat.zero_add];simp only [h3];rfl
   rw [this]
   simpa using h8
  ·cases h8
theorem KM.all {P:Nat→Prop} {w:World} {p:Option Addr} {l:List Tk} (h:KM P w p l):∀ t ∈ l,TkB t:=by
 intro t ht
 rcases h with rfl | ⟨b,o,_,_,h2⟩
 ·cases ht
 ·obtain ⟨i,hi,e⟩:=List.mem_iff_getElem.1 ht
  obtain ⟨ds,_,_,_,h5⟩:=h2 i t (by rw [List.getElem?_eq_getElem hi,e])
  exact h5
theorem KM.cells {P:Nat→Prop} {w:World} {ad:Addr} {l:List Tk} (h:KM P w (some ad) l):∀ j u,(tcs l)[j]?=some u→w.cell? (ad.add j)=some u:=by
 intro j u hj
 rcases h with rfl | ⟨b,o,h1,_,h2⟩
 ·cases hj
 ·cases h1
  have hj':j<l.length * 5:=by rw [← tcs_len];exact (List.getElem?_eq_some_iff.1 hj).1
  have hi:j / 5<l.length:=by omega
  obtain ⟨ds,h3,h4,rfl,_⟩:=h2 (j / 5) l[j / 5] (List.getElem?_eq_getElem hi)
  have hm:j % 5<5:=Nat.mod_lt _ (by omega)
  have h5:(tkC l[j / 5])[j % 5]?=some ((tkC l[j / 5])[j % 5]'(by rw [h3];exact hm)):=List.getElem?_eq_getElem _
  have h6:=tcs_at (List.getElem?_eq_getElem hi) h5
  have h8:=h4 _ _ h5
  rw [show j / 5 * 5+j % 5=j by omega,hj] at h6
  rw [← Option.some.inj h6] at h8
  rw [show o+j / 5 * 5+j % 5=o+j by omega] at h8
  rw [Go.WideShapes.add_plain]
  exact h8
theorem tcs_one (l:List Tk):∀ u ∈ tcs l,u.oneCell'=true:=by
 intro u hu
 obtain ⟨t,_,h⟩:=List.mem_flatMap.1 hu
 unfold tkC at h
 simp only [List.mem_cons,List.not_mem_nil,or_false] at h
 rcases h with rfl | rfl | rfl | rfl | rfl <;> rfl
theorem append_noneT (w:World) (ty:TypeId) (pa:Option Addr) (n c:Nat) (h:n≤c):(Builtin.append_ #[22,22] ty #[.slice pa n c,.slice none 0 0]).run Tryz.prog w=.ok (.slice pa n c) w:=by
 have h22:=Tryz.underlying22
 have z51:=Tryz.sizeOf51
 cases pa with
 | none=>simp [Builtin.append_,run_underlying h22,z51,Builtin.lenOf,Builtin.firstCells,h]
 | some a=>simp [Builtin.append_,run_underlying h22,z51,Builtin.lenOf,Builtin.firstCells,h,storeCells]
theorem append_zeroT (w:World) (ty:TypeId) (pa:Option Addr) (n c:Nat) (h:n≤c) (ad:Addr) (c2:Nat):(Builtin.append_ #[22,22] ty #[.slice pa n c,.slice (some ad) 0 c2]).run Tryz.prog w=.ok (.slice pa n c) w:=by
 have h22:=Tryz.underlying22
 have z51:=Tryz.sizeOf51
 cases pa with
 | none=>simp [Builtin.append_,run_underlying h22,z51,Builtin.lenOf,Builtin.firstCells,h,loadCells,loadCellsFrom]
 | some a=>simp [Builtin.append_,run_underlying h22,z51,Builtin.lenOf,Builtin.firstCells,h,storeCells,loadCells,loadCellsFrom]
theorem wp_appT {w:World} {o:Oper} {a:Act} {K:Act→World→Prop} {Q:Exit→Act→World→Prop} (s x:Operand)
 (ho:o.op=.call { callee:=.builtin .append,args:=#[s,x],argTypes:=#[22,22] })
 (base:Nat) (v:Value) (xs:List Tk) (hs:a.eval s=v) (hR:TR base w v xs)
 {P:Nat→Prop} (p:Option Addr) (m c:Nat) (l:List Tk) (hx:a.eval x=.slice p m c) (hl:l.length=m) (hK:KM P w p l) (hp:p=none→c=0)
 (hb:xs.length+m≤1000000) (hbase:base≤w.heap.size)
 (h:∀ v' w',TR base w' v' (xs ++ l)→w.grownBy w' v.ownBlock→(v'.ownBlock=v.ownBlock∨v'.ownBlock=some w.heap.size)→K (a.put o.dst v') w'):o.wp Tryz.prog a w K Q:=by
 obtain ⟨pv,cv,hv,hv0,hvc⟩:=hR.slice
 have hbd:∀ t ∈ xs ++ l,TkB t:=fun t ht=>(List.mem_append.1 ht).elim (hR.2 t) (hK.all t)
 by_cases hm:m=0
 ·subst hm
  obtain rfl:l=[]:=List.length_eq_zero_iff.1 hl
  have:=h v w (by rw [List.append_nil];exact hR) ⟨rfl,rfl,rfl,Nat.le_refl _,fun _ _ _=>rfl⟩ (.inl rfl)
  unfold Oper.wp execOp
  rw [hv] at hs this
  cases p with
  | none=>
   obtain rfl:=hp rfl
   simp only [ho,resolve,invoke,builtin,Sem.run_bind,Sem.run_pure,Result.andThen_ok,List.map_toArray,List.map_cons,List.map_nil,hs,hx,append_noneT w o.type pv xs.length cv hvc]
   exact this
  | some ad=>
   simp only [ho,resolve,invoke,builtin,Sem.run_bind,Sem.run_pure,Result.andThen_ok,List.map_toArray,List.map_cons,List.map_nil,hs,hx,append_zeroT w o.type pv xs.length cv hvc]
   exact this
 ·have hm0:0<m:=Nat.pos_of_ne_zero hm
  cases p with
  | none=>
   rcases hK with rfl | ⟨b,o',he,_⟩
   ·exact absurd hl.symm hm
   ·cases he
  | some ad=>
   obtain ⟨i0,hi,hz0,hz1,hz2⟩:=info_parts info51
   refine wp_append_lies _ s x 22 ho base 51 i0 _ 5 48 Tryz.underlying22 hi hz0 hz1 hz2 rfl (by decide) v xs.length (tcs xs) hs hR.1 ad m c (tcs l) hx (by rw [tcs_len,hl]) hK.cells (tcs_one l) hm0 (by unfold maxLen;omega) (by omega) hbase _ rfl ?_
   intro g cap w' h1 h2 h3 h4
   refine h _ w' ⟨?_,hbd⟩ h2 (h3.elim (fun e=>.inl e.symm) fun e=>.inr (by rw [← e];rfl))
   rw [List.length_append,hl,tcs_app]
   exact h1
theorem TR.lit {w:World} {l:List Tk} (hb:∀ t ∈ l,TkB t) (hl:l.length≤1000000) (base:Nat) (h:base≤w.heap.size):TR base (w.alloc (.cells (tcs l).toArray 51)) (.slice (some ⟨w.heap.size,0,none⟩) l.length l.length) l:=
 ⟨⟨tcs_len l,.inr ⟨w.heap.size,l.length,(tcs l).toArray,rfl,h,Hold.new w _ _,Nat.le_refl _,by unfold maxLen;omega,by simp [tcs_len],by simp [← tcs_len]⟩⟩,hb⟩
theorem undone_zero {ls:Array Bool} (h:ls.toList.count false=0) (i:Nat) (hi:i<ls.size):ls.getD i true=true:=by
 have h1:false ∉ ls.toList:=List.count_eq_zero.1 h
 rw [Array.getD_eq_getD_getElem?,Array.getElem?_eq_getElem hi,Option.getD_some]
 cases hx:ls[i]
 ·exact absurd (hx ▸ (by simp:ls[i] ∈ ls.toList)) h1
 ·rfl
theorem undone_set {ls:Array Bool} {i:Nat} (h:ls.getD i true=false):(ls.setIfInBounds i true).toList.count false+1=ls.toList.count false:=by
 have hi:i<ls.size:=by
  apply Classical.byContradiction
  intro hn
  rw [Array.getD_eq_getD_getElem?,Array.getElem?_eq_none (by omega)] at h
  cases h
 obtain ⟨l⟩:=ls
 simp only [lSI]
 simp only [List.size_toArray] at hi
 have hx:l[i]=false:=by
  rw [Array.getD_eq_getD_getElem?] at h
  simpa [List.getElem?_eq_getElem hi] using h
 clear h
 induction l generalizing i with
 | nil=>simp at hi
 | cons a r ih=>
  cases i with
  | zero=>
   simp only [List.getElem_cons_zero] at hx
   subst hx
   simp
  | succ i=>
   simp only [List.getElem_cons_succ] at hx
   simp only [List.length_cons] at hi
   have:=ih (i:=i) (by omega) hx
   simp only [lSS,List.count_cons]
   omega
def waitsBack (ops:Array Oper):Bool:=(List.range ops.size).all fun i=>((ops[i]?).map fun o=>o.after.all fun e=>!Region.binds .any e || decide (e.on<i)).getD true
theorem back_some {ops:Array Oper} (hb:waitsBack ops=true) {ls:Array Bool} (hs:ls.size=ops.size) (hr:Region.ready .any ops ls=[]):∀ i,i<ops.size→ls.getD i false=true:=by
 intro i
 induction i using Nat.strongRecOn with
 | _ i ih=>
  intro hi
  cases hx:ls.getD i false with
  | true=>rfl
  | false=>
   exfalso
   have h1:ls.getD i true=false:=by
    rw [Array.getD_eq_getD_getElem?,Array.getElem?_eq_getElem (by omega),Option.getD_some] at hx ⊢
    exact hx
   have h2:i ∈ Region.ready .any ops ls:=by
    refine mem_ready.2 ⟨h1,ops[i],Array.getElem?_eq_getElem hi,fun e he hbe=>?_⟩
    have h3:=List.all_eq_true.1 hb i (List.mem_range.2 hi)
    rw [Array.getElem?_eq_getElem hi,Option.map_some,Option.getD_some,Array.all_eq_true_iff_forall_mem] at h3
    have h4:=h3 e he
    rw [hbe] at h4
    have h5:e.on<i:=by simpa using h4
    exact ih e.on h5 (by omega)
   rw [hr] at h2
   cases h2
theorem region_inv (n:Nat) {P:Program} {ops:Array Oper} {Q:Exit→Act→World→Prop} {id:Nat} {a:Act} {w:World} (I:Array Bool→Act→World→Prop)
 (hm:P.follows .mixedOrders=true) (hn:ops.size=n) (hb:waitsBack ops=true) (hz:∀ ls a w,I ls a w→ls.size=n)
 (h0:I (Array.replicate n false) a w.drew)
 (hend:∀ ls a w,I ls a w→(∀ i,i<n→ls.getD i false=true)→Q .normal a w)
 (hstep:∀ (ls:Array Bool) (a:Act) (w:World),I ls a w→∀ i o,ops[i]?=some o→ls.getD i true=false→(∀ e ∈ o.after,Region.binds .any e=true→ls.getD e.on false=true)→wpOp P ops Q i (I (ls.setIfInBounds i true)) a w) :
 (Code.region id ops true).wp P Q a w:=by
 have key:∀ (k:Nat) (ls:Array Bool) (a:Act) (w:World),I ls a w→ls.toList.count false≤k→wpAny P .any ops Q k ls a w:=by
  intro k
  induction k with
  | zero=>
   intro ls a w hI hk
   have hall:∀ i,i<n→ls.getD i false=true:=fun i hi=>by
    have h1:=undone_zero (ls:=ls) (by omega) i (by have:=hz _ _ _ hI;omega)
    rw [Array.getD_eq_getD_getElem?,Array.getElem?_eq_getElem (by have:=hz _ _ _ hI;omega),Option.getD_some] at h1 ⊢
    exact h1
   refine ⟨?_,hend _ _ _ hI hall⟩
   cases hr:Region.ready .any ops ls with
   | nil=>rfl
   | cons i r=>
    have hi:i ∈ Region.ready .any ops ls:=by rw [hr];exact List.mem_cons_self
    obtain ⟨h1,o,h2,_⟩:=mem_ready.1 hi
    have h3:i<ops.size:=(Array.getElem?_eq_some_iff.1 h2).1
    have:=undone_zero (ls:=ls) (by omega) i (by have:=hz _ _ _ hI;omega)
    rw [h1] at this
    cases this
  | succ k ih=>
   intro ls a w hI hk
   refine ⟨fun hr=>hend _ _ _ hI fun i hi=>back_some hb (by rw [hz _ _ _ hI,hn]) hr i (by omega),fun i hi=>?_⟩
   obtain ⟨h1,o,h2,h3⟩:=mem_ready.1 hi
   refine wpOp_mono (fun a' w' h=>ih _ _ _ h ?_) (hstep ls a w hI i o h2 h1 h3)
   have:=undone_set h1
   omega
 exact wp_region_any hm (key _ _ _ _ (by rw [hn];exact h0) (by
  rw [hn]
  simp))
def putsA (a0:Act):List (Option Tmp × Value)→Act
 | []=>a0
 | x :: r=>putsA (a0.put x.1 x.2) r
structure DF (ops:Array Oper) (a0:Act) (val:Nat→Option Value) (a:Act):Prop where
 size:a.tmps.size=a0.tmps.size
 rest:{ a with tmps:=a0.tmps }=a0
 done:∀ i o t v,ops[i]?=some o→o.dst=some t→val i=some v→a.eval (.tmp t)=v
 other:∀ t,(∀ i o v,ops[i]?=some o→val i=some v→o.dst≠some t)→a.tmps[t]?=a0.tmps[t]?
def setV (val:Nat→Option Value) (i:Nat) (v:Value):Nat→Option Value:=fun j=>if j=i then some v else val j
theorem setV_at (val:Nat→Option Value) (i:Nat) (v:Value):setV val i v i=some v:=if_pos rfl
theorem setV_ne (val:Nat→Option Value) {i j:Nat} (v:Value) (h:j≠i):setV val i v j=val j:=if_neg h
def dstsOwn (ops:Array Oper) (n:Nat):Bool:=decide ((ops.toList.filterMap fun o=>o.dst).Nodup) && ops.all fun o=>match o.dst with | some t=>decide (t<n) | none=>true
theorem dst_inj {ops:Array Oper} {n:Nat} (h:dstsOwn ops n=true) {i j:Nat} {o o':Oper} {t:Tmp} (hi:ops[i]?=some o) (hj:ops[j]?=some o') (h1:o.dst=some t) (h2:o'.dst=some t):i=j:=by
 unfold dstsOwn at h
 rw [Bool.and_eq_true,decide_eq_true_eq] at h
 have hn:=h.1
 clear h
 obtain ⟨l⟩:=ops
 simp only [lGA] at hi hj
 simp only at hn
 induction l generalizing i j with
 | nil=>cases hi
 | cons x r ih=>
  have mem:∀ {k:Nat} {q:Oper},r[k]?=some q→q.dst=some t→t ∈ r.filterMap fun o=>o.dst:=fun hk hq=>List.mem_filterMap.2 ⟨_,List.mem_of_getElem? hk,hq⟩
  cases i with
  | zero=>
   cases j with
   | zero=>rfl
   | succ j=>
    cases hi
    rw [List.filterMap_cons,h1] at hn
    exact absurd (mem hj h2) (List.nodup_cons.1 hn).1
  | succ i=>
   cases j with
   | zero=>
    cases hj
    rw [List.filterMap_cons,h2] at hn
    exact absurd (mem hi h1) (List.nodup_cons.1 hn).1
   | succ j=>
    refine congrArg (·+1) (ih ?_ hi hj)
    cases hx:x.dst with
    | none=>rw [List.filterMap_cons,hx] at hn;exact hn
    | some y=>rw [List.filterMap_cons,hx] at hn;exact (List.nodup_cons.1 hn).2
theorem DF.put {ops:Array Oper} {a0 a:Act} {val:Nat→Option Value} (hd:dstsOwn ops a0.tmps.size=true) (h:DF ops a0 val a) {i:Nat} {o:Oper} (hi:ops[i]?=some o) (v:Value):DF ops a0 (setV val i v) (a.put o.dst v):=by
 cases hx:o.dst with
 | none=>
  refine ⟨h.size,h.rest,fun j o' t u hj ht hu=>?_,fun t ht=>h.other t fun j o' u hj hu=>?_⟩
  ·by_cases hji:j=i
   ·subst hji
    rw [hi] at hj
    cases hj
    rw [hx] at ht
    cases ht
   ·rw [setV_ne _ _ hji] at hu
    exact h.done j o' t u hj ht hu
  ·by_cases hji:j=i
   ·subst hji
    rw [hi] at hj
    cases hj
    rw [hx]
    simp
   ·exact ht j o' u hj (by rw [setV_ne _ _ hji];exact hu)
 | some t0=>
  have hlt:t0<a.tmps.size:=by
   rw [h.size]
   unfold dstsOwn at hd
   rw [Bool.and_eq_true] at hd
   have h1:=Array.all_eq_true_iff_forall_mem.1 hd.2 o (Array.mem_of_getElem? hi)
   rw [hx] at h1
   simpa using h1
  refine ⟨by simp [Act.put,h.size],h.rest,fun j o' t u hj ht hu=>?_,fun t ht=>?_⟩
  ·by_cases hji:j=i
   ·subst hji
    rw [hi] at hj
    cases hj
    rw [hx] at ht
    cases ht
    rw [setV_at] at hu
    cases hu
    simp [Act.put,Act.eval,hlt]
   ·rw [setV_ne _ _ hji] at hu
    have h1:=h.done j o' t u hj ht hu
    have hne:t0≠t:=fun e=>hji (dst_inj hd hj hi ht (by rw [hx,e]))
    unfold Act.eval at h1 ⊢
    simp only [Act.put,Array.getD_eq_getD_getElem?,Array.getElem?_setIfInBounds_ne hne] at h1 ⊢
    exact h1
  ·have hne:t0≠t:=fun e=>ht i o v hi (setV_at _ _ _) (by rw [hx,e])
   simp only [Act.put,Array.getElem?_setIfInBounds_ne hne]
   refine h.other t fun j o' u hj hu=>?_
   by_cases hji:j=i
   ·subst hji
    rw [hi] at hj
    cases hj
    rw [hx]
    simpa using hne
   ·exact ht j o' u hj (by rw [setV_ne _ _ hji];exact hu)
theorem putsA_size (l:List (Option Tmp × Value)):∀ a0:Act,(putsA a0 l).tmps.size=a0.tmps.size:=by
 induction l with
 | nil=>intro a0;rfl
 | cons x r ih=>
  intro a0
  show (putsA (a0.put x.1 x.2) r).tmps.size=_
  rw [ih]
  unfold Act.put
  cases x.1 <;> simp
theorem putsA_rest (l:List (Option Tmp × Value)):∀ a0:Act,{ putsA a0 l with tmps:=a0.tmps }=a0:=by
 induction l with
 | nil=>intro a0;rfl
 | cons x r ih=>
  intro a0
  have h:=ih (a0.put x.1 x.2)
  show { putsA (a0.put x.1 x.2) r with tmps:=a0.tmps }=_
  unfold Act.put at h ⊢
  cases hx:x.1 with
  | none=>rw [hx] at h;exact h
  | some t=>
   rw [hx] at h
   simp only at h ⊢
   have:=congrArg (fun a:Act=>{ a with tmps:=a0.tmps }) h
   exact this
theorem putsA_other (l:List (Option Tmp × Value)) (t:Tmp):∀ a0:Act,(∀ x ∈ l,x.1≠some t)→(putsA a0 l).tmps[t]?=a0.tmps[t]?:=by
 induction l with
 | nil=>intro a0 _;rfl
 | cons x r ih=>
  intro a0 h
  show (putsA (a0.put x.1 x.2) r).tmps[t]?=_
  rw [ih _ fun y hy=>h y (List.mem_cons_of_mem _ hy)]
  have h1:=h x List.mem_cons_self
  unfold Act.put
  cases hx:x.1 with
  | none=>rfl
  | some s=>
   rw [hx] at h1
   have hne:s≠t:=fun e=>h1 (by rw [e])
   simp [Array.getElem?_setIfInBounds_ne hne]
theorem putsA_at (l:List (Option Tmp × Value)) (t:Tmp) (v:Value):∀ a0:Act,t<a0.tmps.size→(∃ x ∈ l,x.1=some t)→(∀ x ∈ l,x.1=some t→x.2=v)→(putsA a0 l).tmps[t]?=some v:=by
 induction l with
 | nil=>intro a0 _ ⟨x,hx,_⟩;cases hx
 | cons x r ih=>
  intro a0 hlt hex hv
  show (putsA (a0.put x.1 x.2) r).tmps[t]?=_
  have hs:t<(a0.put x.1 x.2).tmps.size:=by unfold Act.put;cases x.1 <;> simpa using hlt
  by_cases hr:∃ y ∈ r,y.1=some t
  ·exact ih _ hs hr fun y hy=>hv y (List.mem_cons_of_mem _ hy)
  ·rw [putsA_other r t _ fun y hy he=>hr ⟨y,hy,he⟩]
   obtain ⟨y,hy,he⟩:=hex
   rcases List.mem_cons.1 hy with rfl | hy
   ·rw [← hv y List.mem_cons_self he,he]
    simp [Act.put,hlt]
   ·exact absurd ⟨y,hy,he⟩ hr
theorem DF.all {ops:Array Oper} {a0 a:Act} {val:Nat→Option Value} (hd:dstsOwn ops a0.tmps.size=true) (h:DF ops a0 val a) (vs:List Value) (hn:vs.length=ops.size) (hv:∀ i,i<ops.size→val i=vs[i]?):a=putsA a0 ((ops.toList.map fun o=>o.dst).zip vs):=by
 have hz:∀ x ∈ (ops.toList.map fun o=>o.dst).zip vs,∃ i o,ops[i]?=some o∧o.dst=x.1∧val i=some x.2:=by
  intro x hx
  obtain ⟨i,hi,e⟩:=List.mem_iff_getElem.1 hx
  have hlen:((ops.toList.map fun o=>o.dst).zip vs).length=ops.size:=by simp [hn]
  have hi2:i<ops.size:=by omega
  rw [List.getElem_zip] at e
  refine ⟨i,ops[i],Array.getElem?_eq_getElem hi2,?_,?_⟩
  ·rw [← e];simp
  ·rw [hv i hi2,← e]
   exact List.getElem?_eq_getElem _
 have hzz:∀ i o,ops[i]?=some o→∀ v,val i=some v→(o.dst,v) ∈ (ops.toList.map fun o=>o.dst).zip vs:=by
  intro i o hi v hval
  have hi2:i<ops.size:=(Array.getElem?_eq_some_iff.1 hi).1
  rw [hv i hi2] at hval
  refine List.mem_iff_getElem?.2 ⟨i,?_⟩
  rw [List.getElem?_zip_eq_some]
  refine ⟨?_,hval⟩
  rw [List.getElem?_map,Array.getElem?_toList,hi]
  rfl
 have hsz:(putsA a0 ((ops.toList.map fun o=>o.dst).zip vs)).tmps.size=a.tmps.size:=by rw [putsA_size,h.size]
 have ht:a.tmps=(putsA a0 ((ops.toList.map fun o=>o.dst).zip vs)).tmps:=by
  apply Array.ext_getElem?
  intro t
  by_cases hx:∃ i o v,ops[i]?=some o∧val i=some v∧o.dst=some t
  ·obtain ⟨i,o,v,h1,h2,h3⟩:=hx
   have h4:=h.done i o t v h1 h3 h2
   have hlt:t<a0.tmps.size:=by
    unfold dstsOwn at hd
    rw [Bool.and_eq_true] at hd
    have h1:=Array.all_eq_true_iff_forall_mem.1 hd.2 o (Array.mem_of_getElem? h1)
    rw [h3] at h1
    simpa using h1
   rw [putsA_at _ t v a0 hlt ⟨(o.dst,v),hzz i o h1 v h2,h3⟩ fun x hx hxt=>?_]
   ·unfold Act.eval at h4
    simp only at h4
    rw [Array.getD_eq_getD_getElem?,Array.getElem?_eq_getElem (by rw [h.size];exact hlt),Option.getD_some] at h4
    rw [Array.getElem?_eq_getElem (by rw [h.size];exact hlt),h4]
   ·obtain ⟨j,o',k1,k2,k3⟩:=hz x hx
    have:j=i:=dst_inj hd k1 h1 (k2.trans hxt) h3
    subst this
    rw [h2] at k3
    exact (Option.some.inj k3).symm
  ·rw [putsA_other _ t a0 fun x hxm hxt=>?_]
   ·exact h.other t fun i o v h1 h2 h3=>hx ⟨i,o,v,h1,h2,h3⟩
   ·obtain ⟨j,o',k1,k2,k3⟩:=hz x hxm
    exact hx ⟨j,o',x.2,k1,k3,k2.trans hxt⟩
 have h1:=h.rest
 have h2:=putsA_rest ((ops.toList.map fun o=>o.dst).zip vs) a0
 cases a
 generalize putsA a0 ((ops.toList.map fun o=>o.dst).zip vs)=b at *
 cases b
 simp only at ht
 subst ht
 have h3:=h1.trans h2.symm
 simp only [Act.mk.injEq,true_and] at h3 ⊢
 first | exact h3 | (simp_all)
def waitsFor (ops:Array Oper) (i j:Nat):Bool:=((ops[i]?).map fun o=>o.after.any fun e=>Region.binds .any e && e.on == j).getD false
theorem DF.at {ops:Array Oper} {a0 a:Act} {val:Nat→Option Value} (h:DF ops a0 val a) (i:Nat) {v:Value} (hv:val i=some v) (t:Tmp) (ht:(ops[i]?).bind (·.dst)=some t:=by kernel_rfl):a.eval (.tmp t)=v:=by
 obtain ⟨o,h1,h2⟩:=Option.bind_eq_some_iff.1 ht
 exact h.done i o t v h1 h2 hv
theorem DF.was {ops:Array Oper} {a0 a:Act} {val:Nat→Option Value} (h:DF ops a0 val a) (t:Tmp) (ht:(ops.all fun o=>o.dst != some t)=true:=by kernel_rfl):a.eval (.tmp t)=a0.eval (.tmp t):=by
 have:=h.other t fun i o v hi _ e=>by
  have h1:=Array.all_eq_true_iff_forall_mem.1 ht o (Array.mem_of_getElem? hi)
  rw [e] at h1
  simp at h1
 unfold Act.eval
 simp only [Array.getD_eq_getD_getElem?,this]
theorem region_df (n:Nat) {P:Program} {ops:Array Oper} {Q:Exit→Act→World→Prop} {id:Nat} {a0:Act} {w:World} (F:(Nat→Option Value)→World→Prop)
 (hm:P.follows .mixedOrders=true) (hn:ops.size=n) (hb:waitsBack ops=true) (hd:dstsOwn ops a0.tmps.size=true)
 (h0:F (fun _=>none) w.drew)
 (hend:∀ (vs:List Value) (w':World),vs.length=n→F (fun i=>vs[i]?) w'→Q .normal (putsA a0 ((ops.toList.map fun o=>o.dst).zip vs)) w')
 (hstep:∀ (i:Nat),i<n→∀ (val:Nat→Option Value) (w:World) (a:Act),F val w→val i=none→(∀ j,waitsFor ops i j=true→∃ v,val j=some v)→DF ops a0 val a→wpOp P ops Q i (fun a' w'=>∃ v,a'=a.put ((ops[i]?).bind (·.dst)) v∧F (setV val i v) w') a w)
 (hfar:∀ val w,F val w→∀ val',(∀ i,i<n→val' i=val i)→F val' w) :
 (Code.region id ops true).wp P Q a0 w:=by
 refine region_inv n (fun ls a w=>ls.size=n∧∃ val:Nat→Option Value,(∀ i,ls.getD i false=(val i).isSome)∧DF ops a0 val a∧F val w) hm hn hb (fun _ _ _ h=>h.1) ?_ ?_ ?_
 ·refine ⟨by simp,fun _=>none,fun i=>?_,⟨rfl,rfl,fun i o t v _ _ h=>(by cases h),fun t _=>rfl⟩,h0⟩
  rw [Array.getD_eq_getD_getElem?,Array.getElem?_replicate]
  split <;> rfl
 ·rintro ls a w ⟨hs,val,hv,hD,hF⟩ hall
  have hsome:∀ i,i<n→(val i).isSome=true:=fun i hi=>by rw [← hv];exact hall i hi
  have hvv:∀ i,i<n→val i=((List.range n).map fun i=>(val i).getD undef)[i]?:=fun i hi=>by
   rw [List.getElem?_map,List.getElem?_range hi]
   obtain ⟨v,hx⟩:=Option.isSome_iff_exists.1 (hsome i hi)
   rw [Option.map_some,hx]
   rfl
  rw [hD.all hd ((List.range n).map fun i=>(val i).getD undef) (by simp [hn]) fun i hi=>hvv i (by omega)]
  exact hend _ _ (by simp) (hfar _ _ hF _ fun i hi=>(hvv i hi).symm)
 ·rintro ls a w ⟨hs,val,hv,hD,hF⟩ i o hi h1 h2
  have hin:i<ls.size:=by rw [hs,← hn];exact (Array.getElem?_eq_some_iff.1 hi).1
  have hnone:val i=none:=by
   have h3:ls.getD i false=false:=by
    rw [Array.getD_eq_getD_getElem?,Array.getElem?_eq_getElem hin,Option.getD_some] at h1 ⊢
    exact h1
   have:=hv i
   rw [h3] at this
   cases hx:val i with
   | none=>rfl
   | some v=>rw [hx] at this;cases this
  have hdep:∀ j,waitsFor ops i j=true→∃ v,val j=some v:=fun j hj=>by
   unfold waitsFor at hj
   rw [hi,Option.map_some,Option.getD_some] at hj
   obtain ⟨k,hk,e⟩:=Array.any_eq_true.1 hj
   rw [Bool.and_eq_true,beq_iff_eq] at e
   obtain ⟨e1,e2⟩:=e
   have:=h2 _ (Array.getElem_mem hk) e1
   rw [e2,hv] at this
   exact Option.isSome_iff_exists.1 this
  refine wpOp_mono (fun a' w' h=>?_) (hstep i (by omega) val w a hF hnone hdep hD)
  obtain ⟨v,rfl,h4⟩:=h
  refine ⟨by simpa using hs,setV val i v,fun j=>?_,by rw [hi];exact hD.put hd hi v,h4⟩
  by_cases hji:j=i
  ·subst hji
   rw [setV_at]
   simp [Array.getD_eq_getD_getElem?,hin]
  ·rw [setV_ne _ _ hji,← hv]
   simp [Array.getD_eq_getD_getElem?,Array.getElem?_setIfInBounds_ne (Ne.symm hji)]
theorem act_var {P:Program} {c:Code} {Q:Exit→Act→World→Prop} {a:Act} {w:World} (h:∀ a0:Act,a0=a→c.wp P Q a0 w):c.wp P Q a w:=h _ rfl
theorem ev_at {a:Act} {t:Tmp} {v:Value} (h:a.eval (.tmp t)=v):a.tmps[t]?.getD undef=v:=by
 unfold Act.eval at h
 simpa using h
theorem KM.one {P:Nat→Prop} {w:World} {g:Nat} {t:Tk} (hP:P g) (h:Hold g (tkC t).toArray 51 w) (ht:TkB t):KM P w (some ⟨g,0,none⟩) [t]:=by
 refine .inr ⟨g,0,rfl,hP,fun i t' hi=>?_⟩
 cases i with
 | zero=>
  cases hi
  refine ⟨tkC t,rfl,fun j d hj=>?_,rfl,ht⟩
  rw [show 0+0 * 5+j=j by omega,h.cell j]
  simpa using hj
 | succ i=>cases hi
theorem setV_some {val:Nat→Option Value} {i j:Nat} {v:Value} (h:val j≠none):setV val i v j≠none:=by
 unfold setV
 split
 ·simp
 ·exact h
end Go.Proofs.YtcnnlecjdkfdjaaGreatDoor
namespace Go.Proofs.YtcnnlecjdkfdjaaGreatDoor
theorem em_of {P:Nat→Prop} {w:World} {e:Tr} {pn pk:Option Addr} {cn ck:Nat} (hE:TrIn P w e [.int .i64 e.kd,.string (S e.nm),.int .i64 e.nu,.slice pn e.ns.length cn,.slice pk e.ks.length ck]):EM P w pk e.ks∧e.ks.length≤9223372036854775807∧SM P w pn e.ns∧e.ns.length≤9223372036854775807∧e.nm.length≤281474976710656:=by
 obtain ⟨pn',cn',pk',ck',hcs,h2,_,h4,h5,h6,h7⟩:=(TrIn_iff _ _ _ _).1 hE
 simp at hcs
 obtain ⟨⟨rfl,rfl⟩,rfl,rfl⟩:=hcs
 exact ⟨h7,Nat.le_trans h5.1 h5.2.1,h6,Nat.le_trans h4.1 h4.2.1,h2⟩
theorem em_at {P:Nat→Prop} {w:World} {l:List Tr} {pk:Option Addr} (hE:EM P w pk l) {i:Nat} (hi:i<l.length):∃ b o qn dn qk dk,pk=some ⟨b,o,none⟩∧P b∧TrIn P w l[i] [.int .i64 l[i].kd,.string (S l[i].nm),.int .i64 l[i].nu,.slice qn l[i].ns.length dn,.slice qk l[i].ks.length dk] ∧
 w.cell? ⟨b,o+i * 5,none⟩=some (.int .i64 l[i].kd)∧w.cell? ⟨b,o+i * 5+1,none⟩=some (.string (S l[i].nm))∧w.cell? ⟨b,o+i * 5+2,none⟩=some (.int .i64 l[i].nu)∧w.cell? ⟨b,o+i * 5+3,none⟩=some (.slice qn l[i].ns.length dn)∧w.cell? ⟨b,o+i * 5+4,none⟩=some (.slice qk l[i].ks.length dk):=by
 rcases hE with h | ⟨b,o,hp,hb,hm⟩
 ·rw [h] at hi;simp at hi
 ·obtain ⟨ds,h1,h2,h3⟩:=hm i l[i] (by simp)
  obtain ⟨qn,dn,qk,dk,rfl,_⟩:=(TrIn_iff _ _ _ _).1 h3
  exact ⟨b,o,qn,dn,qk,dk,hp,hb,h3,h2 0 _ rfl,h2 1 _ rfl,h2 2 _ rfl,h2 3 _ rfl,h2 4 _ rfl⟩
end Go.Proofs.YtcnnlecjdkfdjaaGreatDoor
