/- Parts of the proof. -/
import Derived.Test.YtcnnlecjdkfdjaaGreatDoorAwake
import Derived.Test.YtcnnlecjdkfdjaaGreatDoorCards
import Derived.Test.YtcnnlecjdkfdjaaGreatDoorTie
import Derived.LaidMore
import Derived.OpenShut
import Derived.Stop.LaidErr
import Derived.Lib.SlBytesRowKit
import Derived.Deep.Slices
set_option linter.unusedVariables false
set_option linter.unusedSimpArgs false
set_option maxRecDepth 100000
set_option maxHeartbeats 8000000
namespace Go.Proofs.YtcnnlecjdkfdjaaGreatDoor
open Go.ChangeShapes Go.WideShapes Go.ChangeAt Go.RowKit
theorem own:ownKnob Tryz.prog.godebug=none:=by kernel_rfl
theorem laidOut:laidOutB Tryz.prog=true:=by kernel_rfl
theorem door_met (os:Os) (args:Array Value):laidMetH Tryz.prog Rows.parsePlacesRow.laid ((World.doorLaid Tryz.prog 400 os).forCall (fun _ _=>0) ⟨#[],args,[]⟩).memory:=
 laidMetH_of_parts3 (fuel:=8) (laidMet_of_run' 8 (by kernel_rfl) (by kernel_rfl)) (by kernel_rfl) (by kernel_rfl)
theorem gRange : Tryz.prog.globalNamed "strconv.ErrRange" = some 2 := by kernel_rfl
theorem tRange:(Tryz.prog.globals[2]?).map (·.type)=some 139:=by kernel_rfl
theorem cells244:Tryz.prog.cellsOf 244=1:=by kernel_rfl
theorem cells9:Tryz.prog.cellsOf 9=1:=by kernel_rfl
theorem star : "*" ++ "errors.errorString" = "*errors.errorString" := by decide
theorem row242 (u : TypeId) (h : Tryz.prog.typeName? 3 u = some "*errors.errorString") : u = 242 :=
 typeName_ptr_named (nm := "errors.errorString") (by rw [star]; kernel_rfl) (by kernel_rfl) (by decide) u (by rw [star]; exact h)
theorem gPow : Tryz.prog.globalNamed "internal/strconv.uint64pow10" = some 3 := by kernel_rfl
theorem tPow:(Tryz.prog.globals[3]?).map (·.type)=some 255:=by kernel_rfl
theorem cells204:Tryz.prog.cellsOf 204=1:=by kernel_rfl
theorem cells255:Tryz.prog.cellsOf 255=20:=by kernel_rfl
theorem glob_of {W:World} (h:laidMetH Tryz.prog Rows.parsePlacesRow.laid W):Ly.Glob W∧GP (fun b=>b<W.heap.size) W:=by
 rw [MakeChecks.laidMetH_plain _ _ _ (by kernel_rfl)] at h
 refine ⟨?_,?_⟩
 ·obtain ⟨a,s,hv,_,_,_⟩:=laid_sentinel (laidMet.tail (laidMet.tail (laidMet.tail h))) gRange tRange Tryz.underlying139 row242 Tryz.underlying242 Tryz.underlying244 rfl rfl Tryz.underlying9 cells244 cells9
  have h0:=World.var?_cell gRange hv 0
  have h1:W.cell? ⟨2,0,none⟩=some (.iface 242 (.pointer (some a))):=by simpa using h0
  refine ⟨?_,242,_,h1⟩
  apply Classical.byContradiction
  intro hn
  have:W.heap[2]?=none:=Array.getElem?_eq_none (by omega)
  simp [World.cell?,this] at h1
 ·have ht : Lib.TabIs Tryz.prog W "internal/strconv.uint64pow10" .u64 Lib.pow10Tab := Lib.tabIs_of_head gPow tPow Tryz.underlying255 Tryz.underlying204 cells204 cells255 (laidMet.tail (laidMet.tail h))
  refine ⟨ht,fun g hg=>?_⟩
  have hc:=ht.cell gPow 0 (by decide)
  obtain rfl:=Option.some.inj (gPow.symm.trans hg)
  apply Classical.byContradiction
  intro hn
  have:W.heap[3]?=none:=Array.getElem?_eq_none (by omega)
  simp [World.cell?,this] at hc
theorem bytes_of {H:Type} {enc:TypeId × Value→H} {W:World} {a0:Option Addr} {len cap:Nat} {d0:DataW H} {p:List MemPlace} (h0:DataW.Trod enc Tryz.prog W 0 (fun _=>true) true 42 (.slice a0 len cap) d0 p) :
 ∃ l:List UInt8,l.length=len∧len≤cap∧Ly.Mem W a0 l∧(a0=none→cap=0):=by
 obtain ⟨xs,hx,hcap,hB,_,hr,hp⟩:=opened_bytes Tryz.underlying42 Tryz.underlying5 cells5 h0
 refine ⟨Lib.bytesOf xs,by unfold Lib.bytesOf;rw [List.length_map,hx],hcap,?_,hp⟩
 by_cases hn:0<len
 ·obtain ⟨b,o,rfl,hc⟩:=hB hn
  refine .inr ⟨b,o,rfl,?_,fun i x hix=>?_⟩
  ·have:=hc 0 hn
   apply Classical.byContradiction
   intro hnb
   have hh:W.heap[b]?=none:=Array.getElem?_eq_none (by omega)
   simp [World.cell?,hh] at this
  ·unfold Lib.bytesOf at hix
   rw [List.getElem?_map] at hix
   obtain ⟨z,hz,rfl⟩:=Option.map_eq_some_iff.1 hix
   have hi:i<len:=by rw [← hx];exact (List.getElem?_eq_some_iff.1 hz).1
   rw [hc i hi]
   obtain ⟨h1,h2⟩:=hr z (List.mem_of_getElem? hz)
   have e:xs.getD i 0=z:=by simp [List.getD,hz]
   rw [e]
   have e2:((UInt8.ofNat z.toNat).toNat:Int)=z:=by
    rw [UInt8.toNat_ofNat'];omega
   rw [e2]
 ·left
  exact List.length_eq_zero_iff.1 (by unfold Lib.bytesOf;rw [List.length_map];omega)
theorem cells3:Tryz.prog.cellsOf 3=1:=by kernel_rfl
theorem cells51:Tryz.prog.cellsOf 51=5:=by kernel_rfl
theorem cell_block {W:World} {b x:Nat} {v:Value} (h:W.cell? ⟨b,x,none⟩=some v):b<W.heap.size:=by
 apply Classical.byContradiction
 intro hnb
 have hh:W.heap[b]?=none:=Array.getElem?_eq_none (by omega)
 simp [World.cell?,hh] at h
theorem maxA:maxLen≤9223372036854775807:=by decide
theorem maxB:reachBytes≤281474976710656:=by decide
def light {H:Type} (t:TypeId) (d:DataW H):Prop:=(d.weights Tryz.prog t).all (·≤reachBytes)=true
theorem light_all {H:Type} {e:TypeId} {l:List (DataW H)} (h:(DataW.weightsAll Tryz.prog e l).all (·≤reachBytes)=true):∀ d ∈ l,light e d:=by
 induction l with
 | nil=>intro d hd;cases hd
 | cons a r ih=>
  rw [DataW.weightsAll,List.all_append,Bool.and_eq_true] at h
  intro d hd
  rcases List.mem_cons.1 hd with rfl | hd
  ·exact h.1
  ·exact ih h.2 d hd
theorem light_slice {H:Type} {t e:TypeId} {l r:List (DataW H)} (ht:Tryz.prog.underlying t=some (.slice e)) (h:light t (.slice l r)):∀ d ∈ l,light e d:=by
 unfold light at h
 rw [DataW.weights,ht] at h
 simp only [List.all_cons,List.all_append,Bool.and_eq_true] at h
 exact light_all h.2.1
theorem rows_of {H:Type} {enc:TypeId × Value→H} {W:World} {α:Type} (dflt:α) {t e:TypeId} {c fuel:Nat} {cs:List Value} {x:DataW H × List MemPlace} {P:Nat→Prop} (R:α→List Value→Prop) (hP:∀ b y v,W.cell? ⟨b,y,none⟩=some v→P b) (ht:Tryz.prog.underlying t=some (.slice e)) (hc:Tryz.prog.cellsOf e=c) (hc1:1≤c)
 (h:DataW.trod enc Tryz.prog W 0 (fun _=>true) true fuel t cs=some x) (hw:light t x.1) (hel:∀ n,n<fuel→∀ ds y,DataW.trod enc Tryz.prog W 0 (fun _=>true) true n e ds=some y→ds.length=c→light e y.1→∃ a,R a ds) :
 ∃ (p:Option Addr) (l:List α) (cap:Nat),cs=[.slice p l.length cap]∧SlOK p l.length cap∧RM c P W R p l:=by
 rcases DataW.trod_slice ht h with ⟨rfl,_⟩ | ⟨a,len,cap,elems,rest,n,hn,rfl,rfl,_,hl,hm,hlen,hel2,_,_⟩
 ·exact ⟨none,[],0,rfl,⟨Nat.le_refl _,by simp,fun _=>rfl⟩,.inl rfl⟩
 ·have each:∀ i,i<len→∃ q:α × List Value,W.cells? 0 (a.add (i * c)) c=some q.2∧R q.1 q.2:=by
   intro i hi
   have key:=hel2 i hi
   rw [List.getElem?_eq_getElem (by omega)] at key
   obtain ⟨cs',h1,h2⟩:=Option.bind_eq_some_iff.1 key
   rw [hc] at h1
   obtain ⟨a',ha⟩:=hel n (by omega) cs' _ h2 (World.cells?_some h1).2.1 (light_slice ht hw _ (List.mem_map.2 ⟨_,List.getElem_mem _,rfl⟩))
   exact ⟨(a',cs'),h1,ha⟩
  have inh:Inhabited (α × List Value):=⟨(dflt,[])⟩
  obtain ⟨q,hq⟩:=Go.Deep.choose_lt (α:=α × List Value) each
  have hll:((List.range len).map fun i=>(q i).1).length=len:=by simp
  refine ⟨some a,(List.range len).map fun i=>(q i).1,cap,by rw [hll],by rw [hll];exact ⟨hl,Nat.le_trans hm maxA,fun h=>by cases h⟩,?_⟩
  by_cases hn0:len=0
  ·left;rw [hn0];rfl
  ·right
   obtain ⟨b,o,sp⟩:=a
   have hsp:sp=none:=by
    cases sp with
    | none=>rfl
    | some z=>
     have h00:=(World.cells?_some (hq 0 (by omega)).1).2.2 0 (by omega)
     unfold World.cell? at h00
     have hlen0:=(World.cells?_some (hq 0 (by omega)).1).2.1
     rw [List.getElem?_eq_getElem (by omega)] at h00
     simp [Addr.add] at h00
     split at h00 <;> simp at h00
   subst hsp
   have hcl:∀ i,i<len→∀ j,j<c→W.cell? ⟨b,o+i * c+j,none⟩=(q i).2[j]?:=by
    intro i hi j hj
    have:=(World.cells?_some (hq i hi).1).2.2 j hj
    rw [Go.WideShapes.add_plain,Go.WideShapes.add_plain] at this
    exact this
   have h00:=hcl 0 (by omega) 0 (by omega)
   rw [List.getElem?_eq_getElem (by have:=(World.cells?_some (hq 0 (by omega)).1).2.1;omega)] at h00
   refine ⟨b,o,rfl,hP _ _ _ h00,fun i t' ht'=>?_⟩
   have hi:i<len:=by have:=(List.getElem?_eq_some_iff.1 ht').1;simpa using this
   have ht2:t'=(q i).1:=by
    rw [List.getElem?_map,List.getElem?_range hi] at ht'
    simpa using ht'.symm
   subst ht2
   refine ⟨(q i).2,(World.cells?_some (hq i hi).1).2.1,fun j d hd=>?_,(hq i hi).2⟩
   have hj:j<c:=by have:=(List.getElem?_eq_some_iff.1 hd).1;have:=(World.cells?_some (hq i hi).1).2.1;omega
   rw [hcl i hi j hj,hd]
theorem str_of {H:Type} {enc:TypeId × Value→H} {W:World} {n:Nat} {cs:List Value} {x:DataW H × List MemPlace} (h:DataW.trod enc Tryz.prog W 0 (fun _=>true) true n 9 cs=some x) (hw:light 9 x.1):∃ s:List UInt8,cs=[.string (S s)]∧s.length≤281474976710656:=by
 obtain ⟨z1,e1,rfl,h1⟩:=DataW.trod_string Tryz.underlying9 h
 refine ⟨z1.data.toList,by rw [S_of];exact e1,?_⟩
 unfold light at hw
 simp only [DataW.weights,List.all_cons,List.all_nil,Bool.and_true,decide_eq_true_eq] at hw
 exact Nat.le_trans hw maxB
def TkIn (t:Tk) (ds:List Value):Prop:=ds=tkC t∧t.tx.length≤281474976710656∧-9223372036854775808≤t.nu∧t.nu≤9223372036854775807
theorem tok_of {H:Type} {enc:TypeId × Value→H} {W:World} {n:Nat} {cs:List Value} {x:DataW H × List MemPlace} (h:DataW.trod enc Tryz.prog W 0 (fun _=>true) true n 51 cs=some x) (hw:light 51 x.1):∃ t:Tk,TkIn t cs:=by
 obtain ⟨xs,k,hk,rfl,hcl,hxl,hf⟩:=DataW.trod_struct Tryz.underlying51 h
 rw [cells51] at hcl
 match xs,hxl,cs,hcl with
 | [y0,y1,y2,y3,y4],_,[v0,v1,v2,v3,v4],_=>
  unfold light at hw
  rw [DataW.weights,Tryz.underlying51] at hw
  simp only [List.map_cons,List.map_nil,DataW.weightsEach,List.all_append,Bool.and_eq_true] at hw
  obtain ⟨_,w1,_,_,_,_⟩:=hw
  have g0:=hf 0 _ rfl
  have g1:=hf 1 _ rfl
  have g2:=hf 2 _ rfl
  have g3:=hf 3 _ rfl
  have g4:=hf 4 _ rfl
  simp [cells3,cells9] at g0 g1 g2 g3 g4
  obtain ⟨z0,e0,_,_⟩:=DataW.trod_int Tryz.underlying3 g0
  obtain ⟨z1,e1,h1⟩:=str_of g1 w1
  obtain ⟨z2,e2,_,h2⟩:=DataW.trod_int Tryz.underlying3 g2
  obtain ⟨z3,e3,_,_⟩:=DataW.trod_int Tryz.underlying3 g3
  obtain ⟨z4,e4,_,_⟩:=DataW.trod_int Tryz.underlying3 g4
  simp only [List.cons.injEq,and_true] at e0 e1 e2 e3 e4
  subst e0 e1 e2 e3 e4
  have hw:-9223372036854775808≤z2∧z2≤9223372036854775807:=by
   simp only [Lit.wf,Bool.and_eq_true,decide_eq_true_eq] at h2
   have a1:IntKind.min .i64=-9223372036854775808:=by decide
   have a2:IntKind.max .i64=9223372036854775807:=by decide
   rw [a1,a2] at h2
   exact h2
  exact ⟨⟨z0,z1,z2,z3,z4⟩,rfl,h1,hw.1,hw.2⟩
theorem toks_of {H:Type} {enc:TypeId × Value→H} {W:World} {v:Value} {d0:DataW H} {p:List MemPlace} (h0:DataW.Trod enc Tryz.prog W 0 (fun _=>true) true 22 v d0 p) (hv:∃ a n c,v=.slice a n c) (hw:light 22 d0) :
 ∃ (a:Option Addr) (l:List Tk) (cap:Nat),v=.slice a l.length cap∧SlOK a l.length cap∧KM (fun b=>b<W.heap.size) W a l:=by
 obtain ⟨a,n,c,rfl⟩:=hv
 obtain ⟨fuel,hf⟩:=h0
 obtain ⟨q,l,cap,hcs,h1,h2⟩:=rows_of (P:=fun b=>b<W.heap.size) tk0 TkIn (fun b y v h=>cell_block h) Tryz.underlying22 cells51 (by omega) hf hw (fun n _ ds y hd _ hw=>tok_of hd hw)
 have e:Value.slice a n c=.slice q l.length cap:=by simpa [Value.cells] using hcs
 exact ⟨q,l,cap,e,h1,h2⟩
end Go.Proofs.YtcnnlecjdkfdjaaGreatDoor
namespace Go.Proofs.YtcnnlecjdkfdjaaGreatDoor
open Go.RowKit
theorem info51:(Tryz.prog.info? 51).map (fun i=>(i.zero,i.size,i.bytes))=some (some (.agg #[.int .i64 0,.string ⟨#[]⟩,.int .i64 0,.int .i64 0,.int .i64 0]),5,48):=by kernel_rfl
def tcs (l:List Tk):List Value:=l.flatMap tkC
theorem tcs_len (l:List Tk):(tcs l).length=l.length * 5:=by
 unfold tcs
 induction l with
 | nil=>rfl
 | cons a r ih=>rw [List.flatMap_cons,List.length_append,ih,List.length_cons];show 5+_=_;omega
theorem tcs_app (a b:List Tk):tcs (a ++ b)=tcs a ++ tcs b:=List.flatMap_append
theorem tcs_at {l:List Tk} {i j:Nat} {t:Tk} {d:Value} (h:l[i]?=some t) (hj:(tkC t)[j]?=some d):(tcs l)[i * 5+j]?=some d:=by
 unfold tcs
 have hj5:j<5:=(List.getElem?_eq_some_iff.1 hj).1
 induction l generalizing i with
 | nil=>cases h
 | cons a r ih=>
  rw [List.flatMap_cons]
  have ha:(tkC a).length=5:=rfl
  cases i with
  | zero=>
   cases h
   rw [List.getElem?_append_left (by rw [ha];omega),Nat.zero_mul,Nat.zero_add]
   exact hj
  | succ i=>
   rw [List.getElem?_append_right (by rw [ha,Nat.succ_mul];omega),ha,show (i+1) * 5+j - 5=i * 5+j by rw [Nat.succ_mul];omega]
   exact ih h
def TkB (t:Tk):Prop:=t.tx.length≤281474976710656∧-9223372036854775808≤t.nu∧t.nu≤9223372036854775807
def TR (base:Nat) (w:World) (v:Value) (l:List Tk):Prop:=w.ownsRow base 51 5 v l.length (tcs l)∧∀ t ∈ l,TkB t
theorem TR.keep {base:Nat} {w w':World} {v:Value} {l:List Tk} (h:TR base w v l) (hk:∀ g,v.ownBlock=some g→g<w.heap.size→w'.heap[g]?=w.heap[g]?):TR base w' v l:=by
 refine ⟨⟨h.1.1,?_⟩,h.2⟩
 rcases h.1.2 with h1 | ⟨g,cap,cur,rfl,h2,h3,h4,h5,h6,h7⟩
 ·exact .inl h1
 ·exact .inr ⟨g,cap,cur,rfl,h2,(hk g rfl (Array.getElem?_eq_some_iff.1 h3).1).trans h3,h4,h5,h6,h7⟩
theorem TR.below {base:Nat} {w w':World} {v:Value} {l:List Tk} (h:TR base w v l) (hb:Below w.heap.size w w'):TR base w' v l:=h.keep fun g _ hg=>hb.block g hg
theorem TR.slice {base:Nat} {w:World} {v:Value} {l:List Tk} (h:TR base w v l):∃ p cap,v=.slice p l.length cap∧(p=none→cap=0)∧l.length≤cap:=by
 rcases h.1.2 with ⟨h1,h2⟩ | ⟨g,cap,cur,rfl,h2,h3,h4,_⟩
 ·exact ⟨none,0,by rw [h1,h2],fun _=>rfl,by omega⟩
 ·exact ⟨_,cap,rfl,fun h=>(by cases h),h4⟩
theorem TR.km {base:Nat} {w:World} {p:Option Addr} {n cap:Nat} {l:List Tk} (h:TR base w (.slice p n cap) l):KM (fun b=>base≤b∧b<w.heap.size) w p l:=by
 rcases h.1.2 with ⟨h1,h2⟩ | ⟨g,cap',cur,h1,h2,h3,h4,h5,h6,h7⟩
 ·exact .inl (List.length_eq_zero_iff.1 h2)
 ·cases h1
  refine .inr ⟨g,0,rfl,⟨h2,(Array.getElem?_eq_some_iff.1 h3).1⟩,fun i t ht=>⟨tkC t,rfl,fun j d hj=>?_,rfl,h.2 t (List.mem_of_getElem? ht)⟩⟩
  have h8:=tcs_at ht hj
  rw [← h7,List.getElem?_take] at h8
  split at h8
  ·have:w.cell? ⟨g,0+i * 5+j,none⟩=cur[i * 5+j]?:=by unfold World.cell?;rw [Nat.zero_add];simp only [h3];rfl
   rw [this]
   simpa using h8
  ·cases h8
theorem KM.all {P:Nat→Prop} {w:World} {p:Option Addr} {l:List Tk} (h:KM P w p l):∀ t ∈ l,TkB t:=by
 intro t ht
 rcases h with rfl | ⟨b,o,_,_,h2⟩
 ·cases ht
 ·obtain ⟨i,hi,e⟩:=List.mem_iff_getElem.1 ht
  obtain ⟨ds,_,_,_,h5⟩:=h2 i t (by rw [List.getElem?_eq_getElem hi,e])
  exact h5
theorem KM.cells {P:Nat→Prop} {w:World} {ad:Addr} {l:List Tk} (h:KM P w (some ad) l):∀ j u,(tcs l)[j]?=some u→w.cell? (ad.add j)=some u:=by
 intro j u hj
 rcases h with rfl | ⟨b,o,h1,_,h2⟩
 ·cases hj
 ·cases h1
  have hj':j<l.length * 5:=by rw [← tcs_len];exact (List.getElem?_eq_some_iff.1 hj).1
  have hi:j / 5<l.length:=by omega
  obtain ⟨ds,h3,h4,rfl,_⟩:=h2 (j / 5) l[j / 5] (List.getElem?_eq_getElem hi)
  have hm:j % 5<5:=Nat.mod_lt _ (by omega)
  have h5:(tkC l[j / 5])[j % 5]?=some ((tkC l[j / 5])[j % 5]'(by rw [h3];exact hm)):=List.getElem?_eq_getElem _
  have h6:=tcs_at (List.getElem?_eq_getElem hi) h5
  have h8:=h4 _ _ h5
  rw [show j / 5 * 5+j % 5=j by omega,hj] at h6
  rw [← Option.some.inj h6] at h8
  rw [show o+j / 5 * 5+j % 5=o+j by omega] at h8
  rw [Go.WideShapes.add_plain]
  exact h8
theorem tcs_one (l:List Tk):∀ u ∈ tcs l,u.oneCell'=true:=by
 intro u hu
 obtain ⟨t,_,h⟩:=List.mem_flatMap.1 hu
 unfold tkC at h
 simp only [List.mem_cons,List.not_mem_nil,or_false] at h
 rcases h with rfl | rfl | rfl | rfl | rfl <;> rfl
theorem append_noneT (w:World) (ty:TypeId) (pa:Option Addr) (n c:Nat) (h:n≤c):(Builtin.append_ #[22,22] ty #[.slice pa n c,.slice none 0 0]).run Tryz.prog w=.ok (.slice pa n c) w:=by
 have h22:=Tryz.underlying22
 have z51:=Tryz.sizeOf51
 cases pa with
 | none=>simp [Builtin.append_,run_underlying h22,z51,Builtin.lenOf,Builtin.firstCells,h]
 | some a=>simp [Builtin.append_,run_underlying h22,z51,Builtin.lenOf,Builtin.firstCells,h,storeCells]
theorem append_zeroT (w:World) (ty:TypeId) (pa:Option Addr) (n c:Nat) (h:n≤c) (ad:Addr) (c2:Nat):(Builtin.append_ #[22,22] ty #[.slice pa n c,.slice (some ad) 0 c2]).run Tryz.prog w=.ok (.slice pa n c) w:=by
 have h22:=Tryz.underlying22
 have z51:=Tryz.sizeOf51
 cases pa with
 | none=>simp [Builtin.append_,run_underlying h22,z51,Builtin.lenOf,Builtin.firstCells,h,loadCells,loadCellsFrom]
 | some a=>simp [Builtin.append_,run_underlying h22,z51,Builtin.lenOf,Builtin.firstCells,h,storeCells,loadCells,loadCellsFrom]
theorem wp_appT {w:World} {o:Oper} {a:Act} {K:Act→World→Prop} {Q:Exit→Act→World→Prop} (s x:Operand)
 (ho:o.op=.call { callee:=.builtin .append,args:=#[s,x],argTypes:=#[22,22] })
 (base:Nat) (v:Value) (xs:List Tk) (hs:a.eval s=v) (hR:TR base w v xs)
 {P:Nat→Prop} (p:Option Addr) (m c:Nat) (l:List Tk) (hx:a.eval x=.slice p m c) (hl:l.length=m) (hK:KM P w p l) (hp:p=none→c=0)
 (hb:xs.length+m≤1000000) (hbase:base≤w.heap.size)
 (h:∀ v' w',TR base w' v' (xs ++ l)→w.grownBy w' v.ownBlock→(v'.ownBlock=v.ownBlock∨v'.ownBlock=some w.heap.size)→K (a.put o.dst v') w'):o.wp Tryz.prog a w K Q:=by
 obtain ⟨pv,cv,hv,hv0,hvc⟩:=hR.slice
 have hbd:∀ t ∈ xs ++ l,TkB t:=fun t ht=>(List.mem_append.1 ht).elim (hR.2 t) (hK.all t)
 by_cases hm:m=0
 ·subst hm
  obtain rfl:l=[]:=List.length_eq_zero_iff.1 hl
  have:=h v w (by rw [List.append_nil];exact hR) ⟨rfl,rfl,rfl,Nat.le_refl _,fun _ _ _=>rfl⟩ (.inl rfl)
  unfold Oper.wp execOp
  rw [hv] at hs this
  cases p with
  | none=>
   obtain rfl:=hp rfl
   simp only [ho,resolve,invoke,builtin,Sem.run_bind,Sem.run_pure,Result.andThen_ok,List.map_toArray,List.map_cons,List.map_nil,hs,hx,append_noneT w o.type pv xs.length cv hvc]
   exact this
  | some ad=>
   simp only [ho,resolve,invoke,builtin,Sem.run_bind,Sem.run_pure,Result.andThen_ok,List.map_toArray,List.map_cons,List.map_nil,hs,hx,append_zeroT w o.type pv xs.length cv hvc]
   exact this
 ·have hm0:0<m:=Nat.pos_of_ne_zero hm
  cases p with
  | none=>
   rcases hK with rfl | ⟨b,o',he,_⟩
   ·exact absurd hl.symm hm
   ·cases he
  | some ad=>
   obtain ⟨i0,hi,hz0,hz1,hz2⟩:=info_parts info51
   refine wp_append_lies _ s x 22 ho base 51 i0 _ 5 48 Tryz.underlying22 hi hz0 hz1 hz2 rfl (by decide) v xs.length (tcs xs) hs hR.1 ad m c (tcs l) hx (by rw [tcs_len,hl]) hK.cells (tcs_one l) hm0 (by unfold maxLen;omega) (by omega) hbase _ rfl ?_
   intro g cap w' h1 h2 h3 h4
   refine h _ w' ⟨?_,hbd⟩ h2 (h3.elim (fun e=>.inl e.symm) fun e=>.inr (by rw [← e];rfl))
   rw [List.length_append,hl,tcs_app]
   exact h1
theorem TR.lit {w:World} {l:List Tk} (hb:∀ t ∈ l,TkB t) (hl:l.length≤1000000) (base:Nat) (h:base≤w.heap.size):TR base (w.alloc (.cells (tcs l).toArray 51)) (.slice (some ⟨w.heap.size,0,none⟩) l.length l.length) l:=
 ⟨⟨tcs_len l,.inr ⟨w.heap.size,l.length,(tcs l).toArray,rfl,h,Hold.new w _ _,Nat.le_refl _,by unfold maxLen;omega,by simp [tcs_len],by simp [← tcs_len]⟩⟩,hb⟩
structure DF (ops:Array Oper) (a0:Act) (val:Nat→Option Value) (a:Act):Prop where
 size:a.tmps.size=a0.tmps.size
 rest:{ a with tmps:=a0.tmps }=a0
 done:∀ i o t v,ops[i]?=some o→o.dst=some t→val i=some v→a.eval (.tmp t)=v
 other:∀ t,(∀ i o v,ops[i]?=some o→val i=some v→o.dst≠some t)→a.tmps[t]?=a0.tmps[t]?
end Go.Proofs.YtcnnlecjdkfdjaaGreatDoor
namespace Go.Proofs.YtcnnlecjdkfdjaaGreatDoor
theorem em_of {P:Nat→Prop} {w:World} {e:Tr} {pn pk:Option Addr} {cn ck:Nat} (hE:TrIn P w e [.int .i64 e.kd,.string (S e.nm),.int .i64 e.nu,.slice pn e.ns.length cn,.slice pk e.ks.length ck]):EM P w pk e.ks∧e.ks.length≤9223372036854775807∧SM P w pn e.ns∧e.ns.length≤9223372036854775807∧e.nm.length≤281474976710656:=by
 obtain ⟨pn',cn',pk',ck',hcs,h2,_,h4,h5,h6,h7⟩:=(TrIn_iff _ _ _ _).1 hE
 simp at hcs
 obtain ⟨⟨rfl,rfl⟩,rfl,rfl⟩:=hcs
 exact ⟨h7,Nat.le_trans h5.1 h5.2.1,h6,Nat.le_trans h4.1 h4.2.1,h2⟩
theorem em_at {P:Nat→Prop} {w:World} {l:List Tr} {pk:Option Addr} (hE:EM P w pk l) {i:Nat} (hi:i<l.length):∃ b o qn dn qk dk,pk=some ⟨b,o,none⟩∧P b∧TrIn P w l[i] [.int .i64 l[i].kd,.string (S l[i].nm),.int .i64 l[i].nu,.slice qn l[i].ns.length dn,.slice qk l[i].ks.length dk] ∧
 w.cell? ⟨b,o+i * 5,none⟩=some (.int .i64 l[i].kd)∧w.cell? ⟨b,o+i * 5+1,none⟩=some (.string (S l[i].nm))∧w.cell? ⟨b,o+i * 5+2,none⟩=some (.int .i64 l[i].nu)∧w.cell? ⟨b,o+i * 5+3,none⟩=some (.slice qn l[i].ns.length dn)∧w.cell? ⟨b,o+i * 5+4,none⟩=some (.slice qk l[i].ks.length dk):=by
 rcases hE with h | ⟨b,o,hp,hb,hm⟩
 ·rw [h] at hi;simp at hi
 ·obtain ⟨ds,h1,h2,h3⟩:=hm i l[i] (by simp)
  obtain ⟨qn,dn,qk,dk,rfl,_⟩:=(TrIn_iff _ _ _ _).1 h3
  exact ⟨b,o,qn,dn,qk,dk,hp,hb,h3,h2 0 _ rfl,h2 1 _ rfl,h2 2 _ rfl,h2 3 _ rfl,h2 4 _ rfl⟩
open Go.RowKit
theorem texts_any {P:Nat→Prop} {p q:Option Addr} {c d:Nat} {l m:List (List UInt8)} {w:World} (hn:l.length≤9223372036854775807) (hP:∀ b,P b→b<w.heap.size) (hL:SM P w p l) (hM:SM P w q m) :
 Calls Tryz.prog 33 #[.slice p l.length c,.slice q m.length d] w fun r w'=>r=.returned (.bool (decide (l=m)))∧Below w.heap.size w w':=by
 generalize hll:l.length=nl at *
 generalize hml:m.length=ml at *
 have HLL:=zz hll
 have HML:=zz hml
 have HL:=zz hL
 have HM:=zz hM
 clear hL hM hll hml
 by_cases hne:¬ nl=ml
 ·have HF:Hid (decide (l=m)=false):=by
   show _=_
   rw [decide_eq_false_iff_not]
   rintro rfl
   exact hne (HLL.out.symm.trans HML.out)
  have h1:¬ (nl:Int)=ml:=by omega
  have h2:((nl:Int) == ml)=false:=by simpa using h1
  go_enter Tryz.func33,Tryz.ntmps33
  go_wp2_with fail
  go_ret
  exact ⟨by rw [HF.out];rfl,Below.refl _ _⟩
 ·obtain rfl:nl=ml:=by omega
  go_enter Tryz.func33,Tryz.ntmps33
  go_wp2_with fail
  go_loopg [5] nl (fun k s5 wr=>∃ i:Nat,i≤nl∧k=nl - i∧s5=.int .i64 i∧Below w.heap.size w wr∧l.take i=m.take i)
  case atStart=>exact ⟨0,Nat.zero_le _,by omega,rfl,Below.refl _ _,rfl⟩
  case round=>
   obtain ⟨i,hi1,rfl,rfl,hbr,htk⟩:=hrel
   have HBR:=zz hbr
   by_cases hlt:i<nl
   ·have hil:i<l.length:=by rw [HLL.out];exact hlt
    have him:i<m.length:=by rw [HML.out];exact hlt
    rcases HL.out with he | ⟨b,o,rfl,hPb,hma⟩
    ·rw [he] at hil;simp at hil
    rcases HM.out with he | ⟨b',o',rfl,hPb',hma'⟩
    ·rw [he] at him;simp at him
    have a1:wr.cell? ⟨b,o+i,none⟩=some (.string (S l[i])):=(hbr.cell (p:=⟨b,o+i,none⟩) (hP b hPb)).trans (hma i l[i] (by simp)).2
    have a2:wr.cell? ⟨b',o'+i,none⟩=some (.string (S m[i])):=(hbr.cell (p:=⟨b',o'+i,none⟩) (hP b' hPb')).trans (hma' i m[i] (by simp)).2
    have ht1:l.take (i+1)=l.take i ++ [l[i]]:=List.take_succ_eq_append_getElem hil
    have ht2:m.take (i+1)=m.take i ++ [m[i]]:=List.take_succ_eq_append_getElem him
    have hneq:¬ l[i]=m[i]→¬ l=m:=fun h e=>by subst e;exact h rfl
    have hs1:(S l[i]).toList=l[i]:=S_list _
    have hs2:(S m[i]).toList=m[i]:=S_list _
    have hii:(i:Int)<nl:=by omega
    generalize l[i]=x at *
    generalize m[i]=y at *
    have HT1:=zz ht1
    have HT2:=zz ht2
    have HTK:=zz htk
    have HNE:=zz hneq
    clear ht1 ht2 htk hneq hma hma' hbr
    by_cases hxy:x=y
    ·subst hxy
     have hqq:((S x).toList == (S x).toList)=true:=by simp
     clear hs1 hs2
     go_wp2_with fail
     go_quiet (fail)
     go_wp2_with fail
     go_roundg (nl - (i+1))
     case measure=>omega
     case rel=>exact ⟨i+1,by omega,rfl,by go_num,⟨HBR.out.os,HBR.out.tape,HBR.out.output,HBR.out.size,HBR.out.block⟩,by rw [HT1.out,HT2.out,HTK.out]⟩
    ·have hqq:((S x).toList == (S y).toList)=false:=by rw [hs1,hs2];simpa using hxy
     have HF:Hid (decide (l=m)=false):=by show _=_;rw [decide_eq_false_iff_not];exact HNE.out hxy
     clear hs1 hs2 hxy
     go_wp2_with fail
     go_quiet (fail)
     go_wp2_with fail
     go_ret
     exact ⟨by rw [HF.out];rfl,⟨HBR.out.os,HBR.out.tape,HBR.out.output,HBR.out.size,HBR.out.block⟩⟩
   ·have HF:Hid (decide (l=m)=true):=by
     show _=_
     rw [decide_eq_true_iff]
     rw [List.take_of_length_le (by rw [HLL.out];omega),List.take_of_length_le (by rw [HML.out];omega)] at htk
     exact htk
    have hii:¬ (i:Int)<nl:=by omega
    clear hbr htk
    go_wp2_with fail
    go_ret
    exact ⟨by rw [HF.out];rfl,HBR.out⟩
theorem alloc_step2 {W:World} {n:Nat} (hs:W.heap.size=n) (C:Array Value) (t:TypeId):Hold n C t (W.alloc (.cells C t))∧(W.alloc (.cells C t)).heap.size=n+1:=by
 subst hs
 exact ⟨Hold.new W C t,by simp⟩
def Tells (p:Prop) (w:World) (r:Ending) (w':World):Prop:=(p→r=.returned (.bool true))∧(¬ p→r=.returned (.bool false))∧Below w.heap.size w w'
theorem same_tree (a:Tr):∀ (b:Tr) {P:Nat→Prop} {w:World} {pn pk qn qk:Option Addr} {cn ck dn dk:Nat},(∀ b,P b→b<w.heap.size)→TrIn P w a [.int .i64 a.kd,.string (S a.nm),.int .i64 a.nu,.slice pn a.ns.length cn,.slice pk a.ks.length ck]→TrIn P w b [.int .i64 b.kd,.string (S b.nm),.int .i64 b.nu,.slice qn b.ns.length dn,.slice qk b.ks.length dk] →
 Calls Tryz.prog 13 #[.agg (cs5 a pn cn pk ck),.agg (cs5 b qn dn qk dk)] w (Tells (a=b) w):=by
 induction a using Tr.ind with
 | _ a ih=>
  intro b P w pn pk qn qk cn ck dn dk hP hA hB
  obtain ⟨hEA,hka,hSA,hna,_⟩:=em_of hA
  obtain ⟨hEB,hkb,hSB,hnb,_⟩:=em_of hB
  have hB0:Below w.heap.size w ((w.alloc (.cells (cs5 a pn cn pk ck) 27)).alloc (.cells (cs5 b qn dn qk dk) 27)):=((Below.refl _ w).alloc (Nat.le_refl _) _).alloc (by simp) _
  obtain ⟨h1,s1⟩:=alloc_step2 (W:=w) rfl (cs5 a pn cn pk ck) 27
  obtain ⟨h2,s2⟩:=alloc_step2 s1 (cs5 b qn dn qk dk) 27
  have h1:=h1.alloc (.cells (cs5 b qn dn qk dk) 27)
  have HTX:=zz fun W (hb:Below w.heap.size w W)=>texts_any (w:=W) (P:=P) (p:=pn) (q:=qn) (c:=cn) (d:=dn) hna (fun b hb'=>Nat.lt_of_lt_of_le (hP b hb') hb.size) (hSA.keep (KP.of_below hb hP)) (hSB.keep (KP.of_below hb hP))
  have HIH:=zz ih
  have HEA:=zz hEA
  have HEB:=zz hEB
  have HB0:=zz hB0
  have HH1:=zz h1
  have HH2:=zz h2
  have HS2:=zz s2
  clear ih hA hB hEA hEB hSA hSB hB0 h1 h2 s1 s2 hna hnb
  obtain ⟨pp,hpp⟩:∃ pp:Prop,pp ↔ (a=b):=⟨_,Iff.rfl⟩
  have HPP:=zz hpp
  have hgoal:∀ r w',Tells pp w r w'→Tells (a=b) w r w':=fun r w' h=>⟨fun e=>h.1 (HPP.out.2 e),fun e=>h.2.1 (fun q=>e (HPP.out.1 q)),h.2.2⟩
  refine Calls.mono ?_ hgoal
  clear hgoal hpp
  obtain ⟨ka,na,ua,nsa,ksa⟩:=a
  obtain ⟨kb,nb,ub,nsb,ksb⟩:=b
  unfold cs5 at *
  simp only at *
  have hsa:(S na).toList=na:=S_list na
  have hsb:(S nb).toList=nb:=S_list nb
  generalize hla:nsa.length=la at *
  generalize hlb:nsb.length=lb at *
  generalize hma:ksa.length=ma at *
  generalize hmb:ksb.length=mb at *
  generalize hxa:S na=xa at *
  generalize hxb:S nb=xb at *
  have HMA:=zz hma
  have HMB:=zz hmb
  clear hla hlb hma hmb hxa hxb
  by_cases hk:¬ ka=kb
  ·have HF:Hid (¬ (Tr.mk ka na ua nsa ksa=Tr.mk kb nb ub nsb ksb)):=fun e=>hk (Tr.mk.inj e).1
   have hk2:(ka == kb)=false:=by simpa using hk
   go_enter Tryz.func13,Tryz.ntmps13
   go_wp2_with fail
   go_ret
   exact ⟨fun h=>absurd (HPP.out.1 h) HF.out,fun _=>rfl,HB0.out⟩
  obtain rfl:ka=kb:=by simpa using hk
  by_cases hk:¬ na=nb
  ·have HF:Hid (¬ (Tr.mk ka na ua nsa ksa=Tr.mk ka nb ub nsb ksb)):=fun e=>hk (Tr.mk.inj e).2.1
   have hk2:(xa.toList == xb.toList)=false:=by rw [hsa,hsb];simpa using hk
   clear hsa hsb
   go_enter Tryz.func13,Tryz.ntmps13
   go_wp2_with fail
   go_ret
   exact ⟨fun h=>absurd (HPP.out.1 h) HF.out,fun _=>rfl,HB0.out⟩
  obtain rfl:na=nb:=by simpa using hk
  have hk2:(xa.toList == xb.toList)=true:=by rw [hsa,hsb];simp
  clear hsa hsb
  by_cases hk:¬ ua=ub
  ·have HF:Hid (¬ (Tr.mk ka na ua nsa ksa=Tr.mk ka na ub nsb ksb)):=fun e=>hk (Tr.mk.inj e).2.2.1
   have hk3:(ua == ub)=false:=by simpa using hk
   go_enter Tryz.func13,Tryz.ntmps13
   go_wp2_with fail
   go_ret
   exact ⟨fun h=>absurd (HPP.out.1 h) HF.out,fun _=>rfl,HB0.out⟩
  obtain rfl:ua=ub:=by simpa using hk
  by_cases hk:¬ ma=mb
  ·have HF:Hid (¬ (Tr.mk ka na ua nsa ksa=Tr.mk ka na ua nsb ksb)):=fun e=>hk (by rw [← HMA.out,← HMB.out,(Tr.mk.inj e).2.2.2.2])
   have hk3:¬ (ma:Int)=mb:=by omega
   have hk4:((ma:Int) == mb)=false:=by simpa using hk3
   go_enter Tryz.func13,Tryz.ntmps13
   go_wp2_with fail
   go_ret
   exact ⟨fun h=>absurd (HPP.out.1 h) HF.out,fun _=>rfl,HB0.out⟩
  obtain rfl:ma=mb:=by simpa using hk
  by_cases hk:¬ nsa=nsb
  ·have HF:Hid (¬ (Tr.mk ka na ua nsa ksa=Tr.mk ka na ua nsb ksb)):=fun e=>hk (Tr.mk.inj e).2.2.2.1
   rw [decide_eq_false hk] at HTX
   go_enter Tryz.func13,Tryz.ntmps13
   go_wp2_with fail
   refine (HTX.out _ HB0.out).mono ?_
   rintro r w1 ⟨rfl,hb1⟩
   have HB1:=zz (HB0.out.trans (hb1.mono HB0.out.size))
   clear hb1
   go_wp2_with fail
   go_ret
   exact ⟨fun h=>absurd (HPP.out.1 h) HF.out,fun _=>rfl,HB1.out⟩
  obtain rfl:nsa=nsb:=by simpa using hk
  rw [decide_eq_true rfl] at HTX
  go_enter Tryz.func13,Tryz.ntmps13
  go_wp2_with fail
  refine (HTX.out _ HB0.out).mono ?_
  rintro r w1 ⟨rfl,hb1⟩
  have HB1:=zz (HB0.out.trans (hb1.mono HB0.out.size))
  have HG1:=zz (HH1.out.below hb1 HH1.out.lt)
  have HG2:=zz (HH2.out.below hb1 HH2.out.lt)
  have HSZ:=zz (show w.heap.size+1+1≤w1.heap.size from by have:=hb1.size;rw [HS2.out] at this;exact this)
  clear hb1
  go_wp2_with fail
  go_loopg [5] ma (fun k s5 wr=>∃ i:Nat,i≤ma∧k=ma - i∧s5=.int .i64 i∧Below w.heap.size w wr∧Below (w.heap.size+1+1) w1 wr∧ksa.take i=ksb.take i)
  case atStart=>exact ⟨0,Nat.zero_le _,by omega,rfl,HB1.out,Below.refl _ _,rfl⟩
  case round=>
   obtain ⟨i,hi1,rfl,rfl,hbr,hb2,htk⟩:=hrel
   have HBR:=zz hbr
   have HB2:=zz hb2
   have g1:=HG1.out.below hb2 (by omega)
   have g2:=HG2.out.below hb2 (by omega)
   have c4:=g1.cell 4
   have d4:=g2.cell 4
   simp only [lGA,lGS,lGZ,Nat.zero_add] at c4 d4
   by_cases hlt:i<ma
   ·have hil:i<ksa.length:=by rw [HMA.out];exact hlt
    have him:i<ksb.length:=by rw [HMB.out];exact hlt
    obtain ⟨b1,o1,qn1,dn1,qk1,dk1,hp1,hPb1,hIn1,a0,a1,a2,a3,a4⟩:=em_at HEA.out hil
    obtain ⟨b2,o2,qn2,dn2,qk2,dk2,hp2,hPb2,hIn2,e0,e1,e2,e3,e4⟩:=em_at HEB.out him
    have hc1:∀ x,wr.cell? ⟨b1,x,none⟩=w.cell? ⟨b1,x,none⟩:=fun x=>hbr.cell (p:=⟨b1,x,none⟩) (hP b1 hPb1)
    have hc2:∀ x,wr.cell? ⟨b2,x,none⟩=w.cell? ⟨b2,x,none⟩:=fun x=>hbr.cell (p:=⟨b2,x,none⟩) (hP b2 hPb2)
    rw [← hc1] at a0 a1 a2 a3 a4
    rw [← hc2] at e0 e1 e2 e3 e4
    have hcall:=fun W (hb:Below w.heap.size w W)=>HIH.out ksa[i] (by simp) ksb[i] (w:=W) (fun b hb'=>Nat.lt_of_lt_of_le (hP b hb') hb.size) (TrIn.keep (KP.of_below hb hP) (fun b hb=>hb) _ _ hIn1) (TrIn.keep (KP.of_below hb hP) (fun b hb=>hb) _ _ hIn2)
    have ht1:ksa.take (i+1)=ksa.take i ++ [ksa[i]]:=List.take_succ_eq_append_getElem hil
    have ht2:ksb.take (i+1)=ksb.take i ++ [ksb[i]]:=List.take_succ_eq_append_getElem him
    have hneq:¬ ksa[i]=ksb[i]→¬ ksa=ksb:=fun h e=>by subst e;exact h rfl
    have hii:(i:Int)<ma:=by omega
    subst hp1 hp2
    generalize ksa[i]=x at *
    generalize ksb[i]=y at *
    have HT1:=zz ht1
    have HT2:=zz ht2
    have HTK:=zz htk
    have HNE:=zz hneq
    have HC:=zz hcall
    have hbd:Below w.heap.size w wr.drew:=⟨hbr.os,hbr.tape,hbr.output,hbr.size,hbr.block⟩
    have hb2d:Below (w.heap.size+1+1) w1 wr.drew:=⟨hb2.os,hb2.tape,hb2.output,hb2.size,hb2.block⟩
    have HBD:=zz hbd
    have HB2D:=zz hb2d
    have hszr:w.heap.size+1+1≤wr.heap.size:=Nat.le_trans HSZ.out hb2.size
    have HSZR:Hid (w.heap.size+1+1≤wr.drew.heap.size):=hszr
    obtain ⟨SS,hSS⟩:∃ SS:World→Prop,SS=fun w'=>w'.cell? ⟨w.heap.size,4,none⟩=some (.slice (some ⟨b1,o1,none⟩) ma ck)∧w'.cell? ⟨w.heap.size+1,4,none⟩=some (.slice (some ⟨b2,o2,none⟩) ma dk)∧w'.cell? ⟨b1,o1+i * 5,none⟩=some (.int .i64 x.kd)∧w'.cell? ⟨b1,o1+i * 5+1,none⟩=some (.string (S x.nm))∧w'.cell? ⟨b1,o1+i * 5+2,none⟩=some (.int .i64 x.nu)∧w'.cell? ⟨b1,o1+i * 5+3,none⟩=some (.slice qn1 x.ns.length dn1)∧w'.cell? ⟨b1,o1+i * 5+4,none⟩=some (.slice qk1 x.ks.length dk1) ∧
     w'.cell? ⟨b2,o2+i * 5,none⟩=some (.int .i64 y.kd)∧w'.cell? ⟨b2,o2+i * 5+1,none⟩=some (.string (S y.nm))∧w'.cell? ⟨b2,o2+i * 5+2,none⟩=some (.int .i64 y.nu)∧w'.cell? ⟨b2,o2+i * 5+3,none⟩=some (.slice qn2 y.ns.length dn2)∧w'.cell? ⟨b2,o2+i * 5+4,none⟩=some (.slice qk2 y.ks.length dk2):=⟨_,rfl⟩
    have hS0:SS wr.drew:=by rw [hSS];exact ⟨c4,d4,a0,a1,a2,a3,a4,e0,e1,e2,e3,e4⟩
    have hkeep:∀ W2,Below wr.drew.heap.size wr.drew W2→SS W2:=fun W2 hb=>by
     have hk1:∀ n x,n<wr.drew.heap.size→W2.cell? ⟨n,x,none⟩=wr.drew.cell? ⟨n,x,none⟩:=fun n x hn=>hb.cell (p:=⟨n,x,none⟩) hn
     have z1:b1<wr.drew.heap.size:=Nat.lt_of_lt_of_le (hP b1 hPb1) hbd.size
     have z2:b2<wr.drew.heap.size:=Nat.lt_of_lt_of_le (hP b2 hPb2) hbd.size
     have z3:w.heap.size<wr.drew.heap.size:=by have:=HSZR.out;omega
     have z4:w.heap.size+1<wr.drew.heap.size:=by have:=HSZR.out;omega
     rw [hSS] at hS0 ⊢
     simp only [hk1 _ _ z1,hk1 _ _ z2,hk1 _ _ z3,hk1 _ _ z4]
     exact hS0
    have HS:=zz hkeep
    rw [hSS] at HS hS0
    obtain ⟨c4,d4,a0,a1,a2,a3,a4,e0,e1,e2,e3,e4⟩:=hS0
    clear hcall hc1 hc2 hbr hb2 hIn1 hIn2 ht1 ht2 htk hneq g1 g2 hkeep hSS hbd hb2d hszr
    by_cases hxy:x=y
    ·have HCT:=zz fun W hb=>(HC.out W hb).mono fun r w' (h:Tells (x=y) W r w')=>(⟨h.1 hxy,h.2.2⟩:r=.returned (.bool true)∧Below W.heap.size W w')
     have HXY:=zz hxy
     clear hxy HC
     go_wp2_with fail
     go_region_held3 (fun w'=>w'.cell? ⟨w.heap.size,4,none⟩=some (.slice (some ⟨b1,o1,none⟩) ma ck)∧w'.cell? ⟨w.heap.size+1,4,none⟩=some (.slice (some ⟨b2,o2,none⟩) ma dk)∧w'.cell? ⟨b1,o1+i * 5,none⟩=some (.int .i64 x.kd)∧w'.cell? ⟨b1,o1+i * 5+1,none⟩=some (.string (S x.nm))∧w'.cell? ⟨b1,o1+i * 5+2,none⟩=some (.int .i64 x.nu)∧w'.cell? ⟨b1,o1+i * 5+3,none⟩=some (.slice qn1 x.ns.length dn1)∧w'.cell? ⟨b1,o1+i * 5+4,none⟩=some (.slice qk1 x.ks.length dk1)∧w'.cell? ⟨b2,o2+i * 5,none⟩=some (.int .i64 y.kd)∧w'.cell? ⟨b2,o2+i * 5+1,none⟩=some (.string (S y.nm))∧w'.cell? ⟨b2,o2+i * 5+2,none⟩=some (.int .i64 y.nu)∧w'.cell? ⟨b2,o2+i * 5+3,none⟩=some (.slice qn2 y.ns.length dn2)∧w'.cell? ⟨b2,o2+i * 5+4,none⟩=some (.slice qk2 y.ks.length dk2)) (first | go_keep | (exact HS.out _ HB5.out)) (first | (go_at_call 13;refine (HCT.out _ HBD.out).mono ?_;rintro r w5 ⟨rfl,hb5⟩;have HB5:=zz hb5;clear hb5))
     go_wp2_with fail
     go_roundg (ma - (i+1))
     case measure=>omega
     case rel=>exact ⟨i+1,by omega,rfl,by go_num,HBD.out.trans (HB5.out.mono HBD.out.size),HB2D.out.trans (HB5.out.mono HSZR.out),by rw [HT1.out,HT2.out,HTK.out,HXY.out]⟩
    ·have HCT:=zz fun W hb=>(HC.out W hb).mono fun r w' (h:Tells (x=y) W r w')=>(⟨h.2.1 hxy,h.2.2⟩:r=.returned (.bool false)∧Below W.heap.size W w')
     have HF:Hid (¬ (Tr.mk ka na ua nsa ksa=Tr.mk ka na ua nsa ksb)):=fun e=>HNE.out hxy (Tr.mk.inj e).2.2.2.2
     clear hxy HC
     go_wp2_with fail
     go_region_held3 (fun w'=>w'.cell? ⟨w.heap.size,4,none⟩=some (.slice (some ⟨b1,o1,none⟩) ma ck)∧w'.cell? ⟨w.heap.size+1,4,none⟩=some (.slice (some ⟨b2,o2,none⟩) ma dk)∧w'.cell? ⟨b1,o1+i * 5,none⟩=some (.int .i64 x.kd)∧w'.cell? ⟨b1,o1+i * 5+1,none⟩=some (.string (S x.nm))∧w'.cell? ⟨b1,o1+i * 5+2,none⟩=some (.int .i64 x.nu)∧w'.cell? ⟨b1,o1+i * 5+3,none⟩=some (.slice qn1 x.ns.length dn1)∧w'.cell? ⟨b1,o1+i * 5+4,none⟩=some (.slice qk1 x.ks.length dk1)∧w'.cell? ⟨b2,o2+i * 5,none⟩=some (.int .i64 y.kd)∧w'.cell? ⟨b2,o2+i * 5+1,none⟩=some (.string (S y.nm))∧w'.cell? ⟨b2,o2+i * 5+2,none⟩=some (.int .i64 y.nu)∧w'.cell? ⟨b2,o2+i * 5+3,none⟩=some (.slice qn2 y.ns.length dn2)∧w'.cell? ⟨b2,o2+i * 5+4,none⟩=some (.slice qk2 y.ks.length dk2)) (first | go_keep | (exact HS.out _ HB5.out)) (first | (go_at_call 13;refine (HCT.out _ HBD.out).mono ?_;rintro r w5 ⟨rfl,hb5⟩;have HB5:=zz hb5;clear hb5))
     go_wp2_with fail
     go_ret
     exact ⟨fun h=>absurd (HPP.out.1 h) HF.out,fun _=>rfl,HBD.out.trans (HB5.out.mono HBD.out.size)⟩
   ·have HF:Hid (Tr.mk ka na ua nsa ksa=Tr.mk ka na ua nsa ksb):=by
     rw [List.take_of_length_le (by rw [HMA.out];omega),List.take_of_length_le (by rw [HMB.out];omega)] at htk
     rw [htk]
     rfl
    have hii:¬ (i:Int)<ma:=by omega
    clear hbr htk hb2 g1 g2
    go_wp2_with fail
    go_ret
    exact ⟨fun _=>rfl,fun h=>absurd (HPP.out.2 HF.out) h,HBR.out⟩
end Go.Proofs.YtcnnlecjdkfdjaaGreatDoor
