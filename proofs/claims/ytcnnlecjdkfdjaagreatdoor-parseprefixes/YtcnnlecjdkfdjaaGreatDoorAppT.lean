/- Frame FrameT PrefixMath AppT: the texts of these names, of which the claim is made. -/
import Derived.Test.YtcnnlecjdkfdjaaGreatDoorAwake
import Derived.Test.YtcnnlecjdkfdjaaGreatDoorCards
import Derived.Test.YtcnnlecjdkfdjaaGreatDoorTie
import Derived.LaidMore
import Derived.OpenShut
import Derived.Stop.LaidErr
import Derived.Lib.SlBytesRowKit
import Derived.Deep.Slices
set_option linter.unusedVariables false
set_option linter.unusedSimpArgs false
set_option maxRecDepth 100000
set_option maxHeartbeats 8000000
namespace Go.Proofs.YtcnnlecjdkfdjaaGreatDoor
open Go.ChangeShapes Go.WideShapes Go.ChangeAt Go.RowKit
theorem own:ownKnob Tryz.prog.godebug=none:=by kernel_rfl
theorem laidOut:laidOutB Tryz.prog=true:=by kernel_rfl
theorem door_met (os:Os) (args:Array Value):laidMetH Tryz.prog Rows.parsePlacesRow.laid ((World.doorLaid Tryz.prog 400 os).forCall (fun _ _=>0) ⟨#[],args,[]⟩).memory:=
 laidMetH_of_parts3 (fuel:=8) (laidMet_of_run' 8 (by kernel_rfl) (by kernel_rfl)) (by kernel_rfl) (by kernel_rfl)
theorem gRange : Tryz.prog.globalNamed "strconv.ErrRange" = some 2 := by kernel_rfl
theorem tRange:(Tryz.prog.globals[2]?).map (·.type)=some 139:=by kernel_rfl
theorem cells244:Tryz.prog.cellsOf 244=1:=by kernel_rfl
theorem cells9:Tryz.prog.cellsOf 9=1:=by kernel_rfl
theorem star : "*" ++ "errors.errorString" = "*errors.errorString" := by decide
theorem row242 (u : TypeId) (h : Tryz.prog.typeName? 3 u = some "*errors.errorString") : u = 242 :=
 typeName_ptr_named (nm := "errors.errorString") (by rw [star]; kernel_rfl) (by kernel_rfl) (by decide) u (by rw [star]; exact h)
theorem gPow : Tryz.prog.globalNamed "internal/strconv.uint64pow10" = some 3 := by kernel_rfl
theorem tPow:(Tryz.prog.globals[3]?).map (·.type)=some 255:=by kernel_rfl
theorem cells204:Tryz.prog.cellsOf 204=1:=by kernel_rfl
theorem cells255:Tryz.prog.cellsOf 255=20:=by kernel_rfl
theorem glob_of {W:World} (h:laidMetH Tryz.prog Rows.parsePlacesRow.laid W):Ly.Glob W∧GP (fun b=>b<W.heap.size) W:=by
 rw [MakeChecks.laidMetH_plain _ _ _ (by kernel_rfl)] at h
 refine ⟨?_,?_⟩
 ·obtain ⟨a,s,hv,_,_,_⟩:=laid_sentinel (laidMet.tail (laidMet.tail (laidMet.tail h))) gRange tRange Tryz.underlying139 row242 Tryz.underlying242 Tryz.underlying244 rfl rfl Tryz.underlying9 cells244 cells9
  have h0:=World.var?_cell gRange hv 0
  have h1:W.cell? ⟨2,0,none⟩=some (.iface 242 (.pointer (some a))):=by simpa using h0
  refine ⟨?_,242,_,h1⟩
  apply Classical.byContradiction
  intro hn
  have:W.heap[2]?=none:=Array.getElem?_eq_none (by omega)
  simp [World.cell?,this] at h1
 ·have ht : Lib.TabIs Tryz.prog W "internal/strconv.uint64pow10" .u64 Lib.pow10Tab := Lib.tabIs_of_head gPow tPow Tryz.underlying255 Tryz.underlying204 cells204 cells255 (laidMet.tail (laidMet.tail h))
  refine ⟨ht,fun g hg=>?_⟩
  have hc:=ht.cell gPow 0 (by decide)
  obtain rfl:=Option.some.inj (gPow.symm.trans hg)
  apply Classical.byContradiction
  intro hn
  have:W.heap[3]?=none:=Array.getElem?_eq_none (by omega)
  simp [World.cell?,this] at hc
theorem cells3:Tryz.prog.cellsOf 3=1:=by kernel_rfl
theorem cells51:Tryz.prog.cellsOf 51=5:=by kernel_rfl
theorem cell_block {W:World} {b x:Nat} {v:Value} (h:W.cell? ⟨b,x,none⟩=some v):b<W.heap.size:=by
 apply Classical.byContradiction
 intro hnb
 have hh:W.heap[b]?=none:=Array.getElem?_eq_none (by omega)
 simp [World.cell?,hh] at h
theorem maxA:maxLen≤9223372036854775807:=by decide
theorem maxB:reachBytes≤281474976710656:=by decide
def light {H:Type} (t:TypeId) (d:DataW H):Prop:=(d.weights Tryz.prog t).all (·≤reachBytes)=true
theorem light_all {H:Type} {e:TypeId} {l:List (DataW H)} (h:(DataW.weightsAll Tryz.prog e l).all (·≤reachBytes)=true):∀ d ∈ l,light e d:=by
 induction l with
 | nil=>intro d hd;cases hd
 | cons a r ih=>
  rw [DataW.weightsAll,List.all_append,Bool.and_eq_true] at h
  intro d hd
  rcases List.mem_cons.1 hd with rfl | hd
  ·exact h.1
  ·exact ih h.2 d hd
theorem light_slice {H:Type} {t e:TypeId} {l r:List (DataW H)} (ht:Tryz.prog.underlying t=some (.slice e)) (h:light t (.slice l r)):∀ d ∈ l,light e d:=by
 unfold light at h
 rw [DataW.weights,ht] at h
 simp only [List.all_cons,List.all_append,Bool.and_eq_true] at h
 exact light_all h.2.1
theorem rows_of {H:Type} {enc:TypeId × Value→H} {W:World} {α:Type} (dflt:α) {t e:TypeId} {c fuel:Nat} {cs:List Value} {x:DataW H × List MemPlace} {P:Nat→Prop} (R:α→List Value→Prop) (hP:∀ b y v,W.cell? ⟨b,y,none⟩=some v→P b) (ht:Tryz.prog.underlying t=some (.slice e)) (hc:Tryz.prog.cellsOf e=c) (hc1:1≤c)
 (h:DataW.trod enc Tryz.prog W 0 (fun _=>true) true fuel t cs=some x) (hw:light t x.1) (hel:∀ n,n<fuel→∀ ds y,DataW.trod enc Tryz.prog W 0 (fun _=>true) true n e ds=some y→ds.length=c→light e y.1→∃ a,R a ds) :
 ∃ (p:Option Addr) (l:List α) (cap:Nat),cs=[.slice p l.length cap]∧SlOK p l.length cap∧RM c P W R p l:=by
 rcases DataW.trod_slice ht h with ⟨rfl,_⟩ | ⟨a,len,cap,elems,rest,n,hn,rfl,rfl,_,hl,hm,hlen,hel2,_,_⟩
 ·exact ⟨none,[],0,rfl,⟨Nat.le_refl _,by simp,fun _=>rfl⟩,.inl rfl⟩
 ·have each:∀ i,i<len→∃ q:α × List Value,W.cells? 0 (a.add (i * c)) c=some q.2∧R q.1 q.2:=by
   intro i hi
   have key:=hel2 i hi
   rw [List.getElem?_eq_getElem (by omega)] at key
   obtain ⟨cs',h1,h2⟩:=Option.bind_eq_some_iff.1 key
   rw [hc] at h1
   obtain ⟨a',ha⟩:=hel n (by omega) cs' _ h2 (World.cells?_some h1).2.1 (light_slice ht hw _ (List.mem_map.2 ⟨_,List.getElem_mem _,rfl⟩))
   exact ⟨(a',cs'),h1,ha⟩
  have inh:Inhabited (α × List Value):=⟨(dflt,[])⟩
  obtain ⟨q,hq⟩:=Go.Deep.choose_lt (α:=α × List Value) each
  have hll:((List.range len).map fun i=>(q i).1).length=len:=by simp
  refine ⟨some a,(List.range len).map fun i=>(q i).1,cap,by rw [hll],by rw [hll];exact ⟨hl,Nat.le_trans hm maxA,fun h=>by cases h⟩,?_⟩
  by_cases hn0:len=0
  ·left;rw [hn0];rfl
  ·right
   obtain ⟨b,o,sp⟩:=a
   have hsp:sp=none:=by
    cases sp with
    | none=>rfl
    | some z=>
     have h00:=(World.cells?_some (hq 0 (by omega)).1).2.2 0 (by omega)
     unfold World.cell? at h00
     have hlen0:=(World.cells?_some (hq 0 (by omega)).1).2.1
     rw [List.getElem?_eq_getElem (by omega)] at h00
     simp [Addr.add] at h00
     split at h00 <;> simp at h00
   subst hsp
   have hcl:∀ i,i<len→∀ j,j<c→W.cell? ⟨b,o+i * c+j,none⟩=(q i).2[j]?:=by
    intro i hi j hj
    have:=(World.cells?_some (hq i hi).1).2.2 j hj
    rw [Go.WideShapes.add_plain,Go.WideShapes.add_plain] at this
    exact this
   have h00:=hcl 0 (by omega) 0 (by omega)
   rw [List.getElem?_eq_getElem (by have:=(World.cells?_some (hq 0 (by omega)).1).2.1;omega)] at h00
   refine ⟨b,o,rfl,hP _ _ _ h00,fun i t' ht'=>?_⟩
   have hi:i<len:=by have:=(List.getElem?_eq_some_iff.1 ht').1;simpa using this
   have ht2:t'=(q i).1:=by
    rw [List.getElem?_map,List.getElem?_range hi] at ht'
    simpa using ht'.symm
   subst ht2
   refine ⟨(q i).2,(World.cells?_some (hq i hi).1).2.1,fun j d hd=>?_,(hq i hi).2⟩
   have hj:j<c:=by have:=(List.getElem?_eq_some_iff.1 hd).1;have:=(World.cells?_some (hq i hi).1).2.1;omega
   rw [hcl i hi j hj,hd]
theorem str_of {H:Type} {enc:TypeId × Value→H} {W:World} {n:Nat} {cs:List Value} {x:DataW H × List MemPlace} (h:DataW.trod enc Tryz.prog W 0 (fun _=>true) true n 9 cs=some x) (hw:light 9 x.1):∃ s:List UInt8,cs=[.string (S s)]∧s.length≤281474976710656:=by
 obtain ⟨z1,e1,rfl,h1⟩:=DataW.trod_string Tryz.underlying9 h
 refine ⟨z1.data.toList,by rw [S_of];exact e1,?_⟩
 unfold light at hw
 simp only [DataW.weights,List.all_cons,List.all_nil,Bool.and_true,decide_eq_true_eq] at hw
 exact Nat.le_trans hw maxB
def TkIn (t:Tk) (ds:List Value):Prop:=ds=tkC t∧t.tx.length≤281474976710656∧-9223372036854775808≤t.nu∧t.nu≤9223372036854775807
theorem tok_of {H:Type} {enc:TypeId × Value→H} {W:World} {n:Nat} {cs:List Value} {x:DataW H × List MemPlace} (h:DataW.trod enc Tryz.prog W 0 (fun _=>true) true n 51 cs=some x) (hw:light 51 x.1):∃ t:Tk,TkIn t cs:=by
 obtain ⟨xs,k,hk,rfl,hcl,hxl,hf⟩:=DataW.trod_struct Tryz.underlying51 h
 rw [cells51] at hcl
 match xs,hxl,cs,hcl with
 | [y0,y1,y2,y3,y4],_,[v0,v1,v2,v3,v4],_=>
  unfold light at hw
  rw [DataW.weights,Tryz.underlying51] at hw
  simp only [List.map_cons,List.map_nil,DataW.weightsEach,List.all_append,Bool.and_eq_true] at hw
  obtain ⟨_,w1,_,_,_,_⟩:=hw
  have g0:=hf 0 _ rfl
  have g1:=hf 1 _ rfl
  have g2:=hf 2 _ rfl
  have g3:=hf 3 _ rfl
  have g4:=hf 4 _ rfl
  simp [cells3,cells9] at g0 g1 g2 g3 g4
  obtain ⟨z0,e0,_,_⟩:=DataW.trod_int Tryz.underlying3 g0
  obtain ⟨z1,e1,h1⟩:=str_of g1 w1
  obtain ⟨z2,e2,_,h2⟩:=DataW.trod_int Tryz.underlying3 g2
  obtain ⟨z3,e3,_,_⟩:=DataW.trod_int Tryz.underlying3 g3
  obtain ⟨z4,e4,_,_⟩:=DataW.trod_int Tryz.underlying3 g4
  simp only [List.cons.injEq,and_true] at e0 e1 e2 e3 e4
  subst e0 e1 e2 e3 e4
  have hw:-9223372036854775808≤z2∧z2≤9223372036854775807:=by
   simp only [Lit.wf,Bool.and_eq_true,decide_eq_true_eq] at h2
   have a1:IntKind.min .i64=-9223372036854775808:=by decide
   have a2:IntKind.max .i64=9223372036854775807:=by decide
   rw [a1,a2] at h2
   exact h2
  exact ⟨⟨z0,z1,z2,z3,z4⟩,rfl,h1,hw.1,hw.2⟩
theorem toks_of {H:Type} {enc:TypeId × Value→H} {W:World} {v:Value} {d0:DataW H} {p:List MemPlace} (h0:DataW.Trod enc Tryz.prog W 0 (fun _=>true) true 22 v d0 p) (hv:∃ a n c,v=.slice a n c) (hw:light 22 d0) :
 ∃ (a:Option Addr) (l:List Tk) (cap:Nat),v=.slice a l.length cap∧SlOK a l.length cap∧KM (fun b=>b<W.heap.size) W a l:=by
 obtain ⟨a,n,c,rfl⟩:=hv
 obtain ⟨fuel,hf⟩:=h0
 obtain ⟨q,l,cap,hcs,h1,h2⟩:=rows_of (P:=fun b=>b<W.heap.size) tk0 TkIn (fun b y v h=>cell_block h) Tryz.underlying22 cells51 (by omega) hf hw (fun n _ ds y hd _ hw=>tok_of hd hw)
 have e:Value.slice a n c=.slice q l.length cap:=by simpa [Value.cells] using hcs
 exact ⟨q,l,cap,e,h1,h2⟩
end Go.Proofs.YtcnnlecjdkfdjaaGreatDoor
namespace Go.Proofs.YtcnnlecjdkfdjaaGreatDoor
theorem out_ok {l:List Tk} (h:(progOut l).2.2=0):∃ q,progRun l=.inr q:=by
 unfold progOut at h
 cases hx:progRun l with
 | inl n=>rw [hx] at h;exact absurd (show (60:Int)=0 from h) (by decide)
 | inr q=>exact ⟨q,rfl⟩
theorem out_stuck {l:List Tk} {n:Nat} (h:progRun l=.inl n):(progOut l).2=(plM l n,60):=by
 unfold progOut
 rw [h]
def lastP (l:List Tk) (c:Nat):Int × Int:=if c=0 then (0,0) else ((tkAt l (c - 1)).ln,(tkAt l (c - 1)).co)
theorem cut_out {l:List Tk} {c:Nat} (hc:c<l.length) (h:(progOut l).2.2=0):(progOut (l.take c)).2=(lastP l c,60):=by
 obtain ⟨q,hq⟩:=out_ok h
 obtain ⟨n,hn,hcn⟩:=prog_cut hc hq
 rw [out_stuck hn]
 unfold plM lastP
 rw [List.length_take,Nat.min_eq_left (Nat.le_of_lt hc)]
 by_cases h0:c=0
 ·rw [if_pos h0,if_pos h0]
 ·rw [if_neg h0,if_neg h0,Nat.min_eq_right (by omega)]
  have e:tkAt (l.take c) (c - 1)=tkAt l (c - 1):=by
   unfold tkAt
   rw [List.getD_eq_getElem?_getD,List.getD_eq_getElem?_getD,List.getElem?_take,if_pos (by omega)]
  rw [e]
theorem ext_out {l:List Tk} {m:Tk} (h:(progOut l).2.2=0):(progOut (l ++ [m])).2=((m.ln,m.co),60):=by
 obtain ⟨q,hq⟩:=out_ok h
 rw [out_stuck (prog_ext (rest:=[m]) (by simp) hq)]
 unfold plM
 have e:tkAt (l ++ [m]) l.length=m:=by
  unfold tkAt
  rw [List.getD_eq_getElem?_getD,List.getElem?_append_right (Nat.le_refl _),Nat.sub_self]
  rfl
 rw [List.length_append,List.length_singleton,if_neg (by omega),Nat.add_sub_cancel,Nat.min_self,e]
open Go.RowKit
theorem info51:(Tryz.prog.info? 51).map (fun i=>(i.zero,i.size,i.bytes))=some (some (.agg #[.int .i64 0,.string ⟨#[]⟩,.int .i64 0,.int .i64 0,.int .i64 0]),5,48):=by kernel_rfl
def tcs (l:List Tk):List Value:=l.flatMap tkC
theorem tcs_len (l:List Tk):(tcs l).length=l.length * 5:=by
 unfold tcs
 induction l with
 | nil=>rfl
 | cons a r ih=>rw [List.flatMap_cons,List.length_append,ih,List.length_cons];show 5+_=_;omega
theorem tcs_app (a b:List Tk):tcs (a ++ b)=tcs a ++ tcs b:=List.flatMap_append
theorem tcs_at {l:List Tk} {i j:Nat} {t:Tk} {d:Value} (h:l[i]?=some t) (hj:(tkC t)[j]?=some d):(tcs l)[i * 5+j]?=some d:=by
 unfold tcs
 have hj5:j<5:=(List.getElem?_eq_some_iff.1 hj).1
 induction l generalizing i with
 | nil=>cases h
 | cons a r ih=>
  rw [List.flatMap_cons]
  have ha:(tkC a).length=5:=rfl
  cases i with
  | zero=>
   cases h
   rw [List.getElem?_append_left (by rw [ha];omega),Nat.zero_mul,Nat.zero_add]
   exact hj
  | succ i=>
   rw [List.getElem?_append_right (by rw [ha,Nat.succ_mul];omega),ha,show (i+1) * 5+j - 5=i * 5+j by rw [Nat.succ_mul];omega]
   exact ih h
def TkB (t:Tk):Prop:=t.tx.length≤281474976710656∧-9223372036854775808≤t.nu∧t.nu≤9223372036854775807
def TR (base:Nat) (w:World) (v:Value) (l:List Tk):Prop:=w.ownsRow base 51 5 v l.length (tcs l)∧∀ t ∈ l,TkB t
theorem TR.keep {base:Nat} {w w':World} {v:Value} {l:List Tk} (h:TR base w v l) (hk:∀ g,v.ownBlock=some g→g<w.heap.size→w'.heap[g]?=w.heap[g]?):TR base w' v l:=by
 refine ⟨⟨h.1.1,?_⟩,h.2⟩
 rcases h.1.2 with h1 | ⟨g,cap,cur,rfl,h2,h3,h4,h5,h6,h7⟩
 ·exact .inl h1
 ·exact .inr ⟨g,cap,cur,rfl,h2,(hk g rfl (Array.getElem?_eq_some_iff.1 h3).1).trans h3,h4,h5,h6,h7⟩
theorem TR.below {base:Nat} {w w':World} {v:Value} {l:List Tk} (h:TR base w v l) (hb:Below w.heap.size w w'):TR base w' v l:=h.keep fun g _ hg=>hb.block g hg
theorem TR.slice {base:Nat} {w:World} {v:Value} {l:List Tk} (h:TR base w v l):∃ p cap,v=.slice p l.length cap∧(p=none→cap=0)∧l.length≤cap:=by
 rcases h.1.2 with ⟨h1,h2⟩ | ⟨g,cap,cur,rfl,h2,h3,h4,_⟩
 ·exact ⟨none,0,by rw [h1,h2],fun _=>rfl,by omega⟩
 ·exact ⟨_,cap,rfl,fun h=>(by cases h),h4⟩
theorem TR.km {base:Nat} {w:World} {p:Option Addr} {n cap:Nat} {l:List Tk} (h:TR base w (.slice p n cap) l):KM (fun b=>base≤b∧b<w.heap.size) w p l:=by
 rcases h.1.2 with ⟨h1,h2⟩ | ⟨g,cap',cur,h1,h2,h3,h4,h5,h6,h7⟩
 ·exact .inl (List.length_eq_zero_iff.1 h2)
 ·cases h1
  refine .inr ⟨g,0,rfl,⟨h2,(Array.getElem?_eq_some_iff.1 h3).1⟩,fun i t ht=>⟨tkC t,rfl,fun j d hj=>?_,rfl,h.2 t (List.mem_of_getElem? ht)⟩⟩
  have h8:=tcs_at ht hj
  rw [← h7,List.getElem?_take] at h8
  split at h8
  ·have:w.cell? ⟨g,0+i * 5+j,none⟩=cur[i * 5+j]?:=by unfold World.cell?;rw [Nat.zero_add];simp only [h3];rfl
   rw [this]
   simpa using h8
  ·cases h8
theorem KM.all {P:Nat→Prop} {w:World} {p:Option Addr} {l:List Tk} (h:KM P w p l):∀ t ∈ l,TkB t:=by
 intro t ht
 rcases h with rfl | ⟨b,o,_,_,h2⟩
 ·cases ht
 ·obtain ⟨i,hi,e⟩:=List.mem_iff_getElem.1 ht
  obtain ⟨ds,_,_,_,h5⟩:=h2 i t (by rw [List.getElem?_eq_getElem hi,e])
  exact h5
theorem KM.cells {P:Nat→Prop} {w:World} {ad:Addr} {l:List Tk} (h:KM P w (some ad) l):∀ j u,(tcs l)[j]?=some u→w.cell? (ad.add j)=some u:=by
 intro j u hj
 rcases h with rfl | ⟨b,o,h1,_,h2⟩
 ·cases hj
 ·cases h1
  have hj':j<l.length * 5:=by rw [← tcs_len];exact (List.getElem?_eq_some_iff.1 hj).1
  have hi:j / 5<l.length:=by omega
  obtain ⟨ds,h3,h4,rfl,_⟩:=h2 (j / 5) l[j / 5] (List.getElem?_eq_getElem hi)
  have hm:j % 5<5:=Nat.mod_lt _ (by omega)
  have h5:(tkC l[j / 5])[j % 5]?=some ((tkC l[j / 5])[j % 5]'(by rw [h3];exact hm)):=List.getElem?_eq_getElem _
  have h6:=tcs_at (List.getElem?_eq_getElem hi) h5
  have h8:=h4 _ _ h5
  rw [show j / 5 * 5+j % 5=j by omega,hj] at h6
  rw [← Option.some.inj h6] at h8
  rw [show o+j / 5 * 5+j % 5=o+j by omega] at h8
  rw [Go.WideShapes.add_plain]
  exact h8
theorem tcs_one (l:List Tk):∀ u ∈ tcs l,u.oneCell'=true:=by
 intro u hu
 obtain ⟨t,_,h⟩:=List.mem_flatMap.1 hu
 unfold tkC at h
 simp only [List.mem_cons,List.not_mem_nil,or_false] at h
 rcases h with rfl | rfl | rfl | rfl | rfl <;> rfl
theorem append_noneT (w:World) (ty:TypeId) (pa:Option Addr) (n c:Nat) (h:n≤c):(Builtin.append_ #[22,22] ty #[.slice pa n c,.slice none 0 0]).run Tryz.prog w=.ok (.slice pa n c) w:=by
 have h22:=Tryz.underlying22
 have z51:=Tryz.sizeOf51
 cases pa with
 | none=>simp [Builtin.append_,run_underlying h22,z51,Builtin.lenOf,Builtin.firstCells,h]
 | some a=>simp [Builtin.append_,run_underlying h22,z51,Builtin.lenOf,Builtin.firstCells,h,storeCells]
theorem append_zeroT (w:World) (ty:TypeId) (pa:Option Addr) (n c:Nat) (h:n≤c) (ad:Addr) (c2:Nat):(Builtin.append_ #[22,22] ty #[.slice pa n c,.slice (some ad) 0 c2]).run Tryz.prog w=.ok (.slice pa n c) w:=by
 have h22:=Tryz.underlying22
 have z51:=Tryz.sizeOf51
 cases pa with
 | none=>simp [Builtin.append_,run_underlying h22,z51,Builtin.lenOf,Builtin.firstCells,h,loadCells,loadCellsFrom]
 | some a=>simp [Builtin.append_,run_underlying h22,z51,Builtin.lenOf,Builtin.firstCells,h,storeCells,loadCells,loadCellsFrom]
theorem wp_appT {w:World} {o:Oper} {a:Act} {K:Act→World→Prop} {Q:Exit→Act→World→Prop} (s x:Operand)
 (ho:o.op=.call { callee:=.builtin .append,args:=#[s,x],argTypes:=#[22,22] })
 (base:Nat) (v:Value) (xs:List Tk) (hs:a.eval s=v) (hR:TR base w v xs)
 {P:Nat→Prop} (p:Option Addr) (m c:Nat) (l:List Tk) (hx:a.eval x=.slice p m c) (hl:l.length=m) (hK:KM P w p l) (hp:p=none→c=0)
 (hb:xs.length+m≤1000000) (hbase:base≤w.heap.size)
 (h:∀ v' w',TR base w' v' (xs ++ l)→w.grownBy w' v.ownBlock→(v'.ownBlock=v.ownBlock∨v'.ownBlock=some w.heap.size)→K (a.put o.dst v') w'):o.wp Tryz.prog a w K Q:=by
 obtain ⟨pv,cv,hv,hv0,hvc⟩:=hR.slice
 have hbd:∀ t ∈ xs ++ l,TkB t:=fun t ht=>(List.mem_append.1 ht).elim (hR.2 t) (hK.all t)
 by_cases hm:m=0
 ·subst hm
  obtain rfl:l=[]:=List.length_eq_zero_iff.1 hl
  have:=h v w (by rw [List.append_nil];exact hR) ⟨rfl,rfl,rfl,Nat.le_refl _,fun _ _ _=>rfl⟩ (.inl rfl)
  unfold Oper.wp execOp
  rw [hv] at hs this
  cases p with
  | none=>
   obtain rfl:=hp rfl
   simp only [ho,resolve,invoke,builtin,Sem.run_bind,Sem.run_pure,Result.andThen_ok,List.map_toArray,List.map_cons,List.map_nil,hs,hx,append_noneT w o.type pv xs.length cv hvc]
   exact this
  | some ad=>
   simp only [ho,resolve,invoke,builtin,Sem.run_bind,Sem.run_pure,Result.andThen_ok,List.map_toArray,List.map_cons,List.map_nil,hs,hx,append_zeroT w o.type pv xs.length cv hvc]
   exact this
 ·have hm0:0<m:=Nat.pos_of_ne_zero hm
  cases p with
  | none=>
   rcases hK with rfl | ⟨b,o',he,_⟩
   ·exact absurd hl.symm hm
   ·cases he
  | some ad=>
   obtain ⟨i0,hi,hz0,hz1,hz2⟩:=info_parts info51
   refine wp_append_lies _ s x 22 ho base 51 i0 _ 5 48 Tryz.underlying22 hi hz0 hz1 hz2 rfl (by decide) v xs.length (tcs xs) hs hR.1 ad m c (tcs l) hx (by rw [tcs_len,hl]) hK.cells (tcs_one l) hm0 (by unfold maxLen;omega) (by omega) hbase _ rfl ?_
   intro g cap w' h1 h2 h3 h4
   refine h _ w' ⟨?_,hbd⟩ h2 (h3.elim (fun e=>.inl e.symm) fun e=>.inr (by rw [← e];rfl))
   rw [List.length_append,hl,tcs_app]
   exact h1
theorem TR.lit {w:World} {l:List Tk} (hb:∀ t ∈ l,TkB t) (hl:l.length≤1000000) (base:Nat) (h:base≤w.heap.size):TR base (w.alloc (.cells (tcs l).toArray 51)) (.slice (some ⟨w.heap.size,0,none⟩) l.length l.length) l:=
 ⟨⟨tcs_len l,.inr ⟨w.heap.size,l.length,(tcs l).toArray,rfl,h,Hold.new w _ _,Nat.le_refl _,by unfold maxLen;omega,by simp [tcs_len],by simp [← tcs_len]⟩⟩,hb⟩
end Go.Proofs.YtcnnlecjdkfdjaaGreatDoor
