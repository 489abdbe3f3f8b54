/- Frame MassQ Short: the texts of these names, of which the claim is made. -/
import Derived.Test.YtcnnlecjdkfdjaaGreatDoorAwake
import Derived.Test.YtcnnlecjdkfdjaaGreatDoorCards
import Derived.Test.YtcnnlecjdkfdjaaGreatDoorTie
import Derived.ProofKit
import Derived.LaidMore
import Derived.OpenShut
import Derived.Stop.Joined
import Derived.Stop.LaidErr
import Derived.SizedLaws
import Derived.Lib.SlBytesRowKit
import Derived.Lib.LaidTab
import Derived.Deep.Slices
import Derived.Test.YtcnnlecjdkfdjaaGreatDoorMass
import Derived.Test.YtcnnlecjdkfdjaaGreatDoorLyMath
import Derived.Test.YtcnnlecjdkfdjaaGreatDoorAw
set_option linter.unusedVariables false
set_option linter.unusedSimpArgs false
set_option maxRecDepth 100000
set_option maxHeartbeats 8000000
namespace Go.Proofs.YtcnnlecjdkfdjaaGreatDoor
open Go.ChangeShapes Go.WideShapes Go.ChangeAt Go.RowKit
theorem own:ownKnob Tryz.prog.godebug=none:=by kernel_rfl
theorem laidOut:laidOutB Tryz.prog=true:=by kernel_rfl
theorem door_met (os:Os) (args:Array Value):laidMetH Tryz.prog Rows.parsePlacesRow.laid ((World.doorLaid Tryz.prog 400 os).forCall (fun _ _=>0) ⟨#[],args,[]⟩).memory:=
 laidMetH_of_parts3 (fuel:=8) (laidMet_of_run' 8 (by kernel_rfl) (by kernel_rfl)) (by kernel_rfl) (by kernel_rfl)
theorem gRange : Tryz.prog.globalNamed "strconv.ErrRange" = some 2 := by kernel_rfl
theorem tRange:(Tryz.prog.globals[2]?).map (·.type)=some 139:=by kernel_rfl
theorem cells244:Tryz.prog.cellsOf 244=1:=by kernel_rfl
theorem cells9:Tryz.prog.cellsOf 9=1:=by kernel_rfl
theorem star : "*" ++ "errors.errorString" = "*errors.errorString" := by decide
theorem row242 (u : TypeId) (h : Tryz.prog.typeName? 3 u = some "*errors.errorString") : u = 242 :=
 typeName_ptr_named (nm := "errors.errorString") (by rw [star]; kernel_rfl) (by kernel_rfl) (by decide) u (by rw [star]; exact h)
theorem gPow : Tryz.prog.globalNamed "internal/strconv.uint64pow10" = some 3 := by kernel_rfl
theorem tPow:(Tryz.prog.globals[3]?).map (·.type)=some 255:=by kernel_rfl
theorem cells204:Tryz.prog.cellsOf 204=1:=by kernel_rfl
theorem cells255:Tryz.prog.cellsOf 255=20:=by kernel_rfl
theorem glob_of {W:World} (h:laidMetH Tryz.prog Rows.parsePlacesRow.laid W):Ly.Glob W∧GP (fun b=>b<W.heap.size) W:=by
 rw [MakeChecks.laidMetH_plain _ _ _ (by kernel_rfl)] at h
 refine ⟨?_,?_⟩
 ·obtain ⟨a,s,hv,_,_,_⟩:=laid_sentinel (laidMet.tail (laidMet.tail (laidMet.tail h))) gRange tRange Tryz.underlying139 row242 Tryz.underlying242 Tryz.underlying244 rfl rfl Tryz.underlying9 cells244 cells9
  have h0:=World.var?_cell gRange hv 0
  have h1:W.cell? ⟨2,0,none⟩=some (.iface 242 (.pointer (some a))):=by simpa using h0
  refine ⟨?_,242,_,h1⟩
  apply Classical.byContradiction
  intro hn
  have:W.heap[2]?=none:=Array.getElem?_eq_none (by omega)
  simp [World.cell?,this] at h1
 ·have ht : Lib.TabIs Tryz.prog W "internal/strconv.uint64pow10" .u64 Lib.pow10Tab := Lib.tabIs_of_head gPow tPow Tryz.underlying255 Tryz.underlying204 cells204 cells255 (laidMet.tail (laidMet.tail h))
  refine ⟨ht,fun g hg=>?_⟩
  have hc:=ht.cell gPow 0 (by decide)
  obtain rfl:=Option.some.inj (gPow.symm.trans hg)
  apply Classical.byContradiction
  intro hn
  have:W.heap[3]?=none:=Array.getElem?_eq_none (by omega)
  simp [World.cell?,this] at hc
theorem bytes_of {H:Type} {enc:TypeId × Value→H} {W:World} {a0:Option Addr} {len cap:Nat} {d0:DataW H} {p:List MemPlace} (h0:DataW.Trod enc Tryz.prog W 0 (fun _=>true) true 42 (.slice a0 len cap) d0 p) :
  ∃ l:List UInt8,l.length=len∧len≤cap∧Ly.Mem W a0 l∧(a0=none→cap=0):=by
 obtain ⟨xs,hx,hcap,hB,_,hr,hp⟩:=opened_bytes Tryz.underlying42 Tryz.underlying5 cells5 h0
 refine ⟨Lib.bytesOf xs,by unfold Lib.bytesOf;rw [List.length_map,hx],hcap,?_,hp⟩
 by_cases hn:0<len
 ·obtain ⟨b,o,rfl,hc⟩:=hB hn
  refine .inr ⟨b,o,rfl,?_,fun i x hix=>?_⟩
  ·have:=hc 0 hn
   apply Classical.byContradiction
   intro hnb
   have hh:W.heap[b]?=none:=Array.getElem?_eq_none (by omega)
   simp [World.cell?,hh] at this
  ·unfold Lib.bytesOf at hix
   rw [List.getElem?_map] at hix
   obtain ⟨z,hz,rfl⟩:=Option.map_eq_some_iff.1 hix
   have hi:i<len:=by rw [← hx];exact (List.getElem?_eq_some_iff.1 hz).1
   rw [hc i hi]
   obtain ⟨h1,h2⟩:=hr z (List.mem_of_getElem? hz)
   have e:xs.getD i 0=z:=by simp [List.getD,hz]
   rw [e]
   have e2:((UInt8.ofNat z.toNat).toNat:Int)=z:=by
    rw [UInt8.toNat_ofNat'];omega
   rw [e2]
 ·left
  exact List.length_eq_zero_iff.1 (by unfold Lib.bytesOf;rw [List.length_map];omega)
end Go.Proofs.YtcnnlecjdkfdjaaGreatDoor
namespace Go.Proofs.YtcnnlecjdkfdjaaGreatDoor
def nsq (r:Ru):Nat:=if r.k=25∨r.k=26∨r.k=27 then 1 else 0
def massS (t:Sg):Nat:=t.fold fun t l=>1+(l.map fun k=>k.2).sum
theorem massS_eq (t:Sg):massS t=1+(t.ar.map massS).sum:=by
 unfold massS
 rw [Sg.fold_eq]
 simp only [List.map_map]
 rfl
def massF (f:Fm):Nat:=1+(f.ar.map massS).sum
def massT (d:Dt):Nat:=1+(d.fs.map massF).sum
def massQ (p:Ps):Nat:=(p.sg.map massS).sum+(p.fm.map massF).sum+(p.ds.map massT).sum+(p.ru.map nsq).sum
def Mj (p:Ps):Prop:=massQ p≤3 * p.tk+t21 p.ru
theorem nsq_r0 (k:Nat) (h:k≠25∧k≠26∧k≠27):nsq (r0 k)=0:=by unfold nsq r0;simp [h.1,h.2.1,h.2.2]
theorem nsq_later (s:List UInt8):nsq (rLater s)=0:=rfl
theorem nsq_more (s:List UInt8) (j:Nat):nsq (rMore s j)=0:=rfl
theorem nsq_sig (s:List UInt8) (n:Nat):nsq (rSig s n)=1:=rfl
theorem nsq_form (s:List UInt8):nsq (rForm s)=1:=rfl
theorem nsq_def (s:List UInt8):nsq (rDef s)=0:=rfl
theorem nsq_data (s:List UInt8) (ns:List (List UInt8)):nsq (rData s ns)=1:=rfl
theorem nsq_make (t:Tr) (n:Nat):nsq (rMake t n)=0:=rfl
theorem mj_push {p q:Ps} {rs:List Ru} (h:pushR rs p=.inr q) (hM:massQ p+(rs.map nsq).sum≤3 * p.tk+t21 rs):Mj q:=by
 cases h
 unfold Mj massQ at *
 simp only [List.map_append,List.sum_append]
 have:t21 rs≤t21 (rs ++ p.ru):=by
  cases rs with
  | nil=>exact Nat.zero_le _
  | cons a r=>exact Nat.le_refl _
 omega
theorem massQ_tk (p:Ps) (n:Nat):massQ { p with tk:=n }=massQ p:=rfl
theorem expr_massQ {l:List Tk} {p q:Ps} (hM:massQ p≤3 * p.tk) (h:exprR l p=.inr q):Mj q:=by
 unfold exprR at h
 split at h
 ·unfold lamR at h
  obtain ⟨p1,h1,h2⟩:=then_inv h
  obtain ⟨hl,rfl⟩:=key_inv h1
  obtain ⟨hl2,h3⟩:=take_inv (by decide) h2
  obtain ⟨p2,h4,h5⟩:=then_inv h3
  obtain ⟨hl3,rfl⟩:=key_inv h4
  refine mj_push h5 ?_
  simp only [massQ_tk,List.map_cons,List.map_nil,List.sum_cons,List.sum_nil,nsq_r0 10 (by decide),nsq_make,bindT,List.length_singleton]
  omega
 split at h
 ·unfold letR at h
  obtain ⟨p1,h1,h2⟩:=then_inv h
  obtain ⟨hl,rfl⟩:=key_inv h1
  obtain ⟨hl2,h3⟩:=take_inv (by decide) h2
  obtain ⟨p2,h4,h5⟩:=then_inv h3
  obtain ⟨hl3,rfl⟩:=key_inv h4
  refine mj_push h5 ?_
  simp only [massQ_tk,List.map_cons,List.map_nil,List.sum_cons,List.sum_nil,nsq_r0 10 (by decide),nsq_make,nsq_later,bindT,List.length_singleton]
  omega
 split at h
 ·unfold waysR at h
  obtain ⟨p1,h1,h2⟩:=then_inv h
  obtain ⟨hl,rfl⟩:=key_inv h1
  refine mj_push h2 ?_
  simp only [massQ_tk,List.map_cons,List.map_nil,List.sum_cons,List.sum_nil,nsq_r0 10 (by decide),nsq_r0 11 (by decide),nsq_make,nsq_later,nsq_more,kindT,List.length_nil]
  omega
 split at h
 ·unfold choiceR at h
  obtain ⟨p1,h1,h2⟩:=then_inv h
  obtain ⟨hl,rfl⟩:=key_inv h1
  refine mj_push h2 ?_
  simp only [massQ_tk,List.map_cons,List.map_nil,List.sum_cons,List.sum_nil,nsq_r0 10 (by decide),nsq_make,nsq_later,nsq_more,kindT,List.length_nil]
  omega
 have hblock:∀ {s:List UInt8} {k:Int},blockR l s k p=.inr q→Mj q:=fun h=>by
  unfold blockR at h
  obtain ⟨p1,h1,h2⟩:=then_inv h
  obtain ⟨hl,rfl⟩:=key_inv h1
  refine mj_push h2 ?_
  simp only [massQ_tk,List.map_cons,List.map_nil,List.sum_cons,List.sum_nil,nsq_r0 12 (by decide),nsq_make,nsq_later,nsq_more,kindT,List.length_nil]
  omega
 split at h
 ·exact hblock h
 split at h
 ·exact hblock h
 ·refine mj_push h ?_
  simp only [List.map_cons,List.map_nil,List.sum_cons,List.sum_nil,nsq_r0 14 (by decide),nsq_r0 15 (by decide)]
  omega
theorem mj_same {p q:Ps} (hM:massQ p≤3 * p.tk) (h:(.inr p:Rs)=.inr q):Mj q:=by
 cases h
 exact Nat.le_trans hM (Nat.le_add_right _ _)
theorem sigAtom_massQ {l:List Tk} {p q:Ps} (hM:massQ p≤3 * p.tk) (h:sigAtomR l p=.inr q):Mj q:=by
 unfold sigAtomR at h
 have hsg:∀ (x:List UInt8),Mj { p with tk:=p.tk+1,sg:=p.sg ++ [⟨x,[]⟩] }:=fun x=>by
  have e:massS ⟨x,[]⟩=1:=by rw [massS_eq];rfl
  show massQ _≤3 * (p.tk+1)+_
  unfold massQ at hM ⊢
  simp only [List.map_append,List.sum_append,List.map_cons,List.map_nil,List.sum_cons,List.sum_nil,e]
  omega
 split at h
 ·obtain ⟨hl,h2⟩:=take_inv (by decide) h
  cases h2
  exact hsg _
 split at h
 ·obtain ⟨hl,h2⟩:=take_inv (by decide) h
  cases h2
  exact hsg _
 ·obtain ⟨p1,h1,h2⟩:=then_inv h
  obtain ⟨hl,rfl⟩:=key_inv h1
  refine mj_push h2 ?_
  simp only [massQ_tk,List.map_cons,List.map_nil,List.sum_cons,List.sum_nil,nsq_r0 5 (by decide),nsq_later]
  omega
theorem rule_massQ {l:List Tk} {r:Ru} {p q:Ps} (hM:massQ p+nsq r≤3 * p.tk+(if r.k=21 then 1 else 0)) (h:ruleR l r p=.inr q):Mj q:=by
 obtain ⟨k,s,j,t,n,ns⟩:=r
 by_cases hk:28<k
 ·unfold ruleR at h
  simp only at h
  split at h <;> first | omega | cases h
 by_cases h13:k=13
 ·subst h13
  cases h
 have hcases:k=0∨k=1∨k=2∨k=3∨k=4∨k=5∨k=6∨k=7∨k=8∨k=9∨k=10∨k=11∨k=12∨k=14∨k=15∨k=16∨k=17∨k=18∨k=19∨k=20∨k=21∨k=22∨k=23∨k=24∨k=25∨k=26∨k=27∨k=28:=by omega
 have hM0:k≠21→massQ p≤3 * p.tk:=fun h=>by simp [h] at hM;omega
 have hp2:∀ {a b:Nat},(a≠25∧a≠26∧a≠27)→(b≠25∧b≠26∧b≠27)→massQ p≤3 * p.tk→pushR [r0 a,r0 b] p=.inr q→Mj q:=fun ha hb hM h=>by
  refine mj_push h ?_
  simp only [List.map_cons,List.map_nil,List.sum_cons,List.sum_nil,nsq_r0 _ ha,nsq_r0 _ hb]
  omega
 rcases hcases with rfl | rfl | rfl | rfl | rfl | rfl | rfl | rfl | rfl | rfl | rfl | rfl | rfl | rfl | rfl | rfl | rfl | rfl | rfl | rfl | rfl | rfl | rfl | rfl | rfl | rfl | rfl | rfl
 ·have h:endR l p=.inr q:=h
  unfold endR at h
  split at h
  ·cases h
  ·exact mj_same (hM0 (by decide)) h
 ·have h:progR l p=.inr q:=h
  obtain ⟨p1,h1,h2⟩:=then_inv h
  obtain ⟨hl,rfl⟩:=key_inv h1
  refine mj_push h2 ?_
  have:=hM0 (by decide)
  simp only [massQ_tk,List.map_cons,List.map_nil,List.sum_cons,List.sum_nil,nsq_r0 2 (by decide),nsq_later]
  omega
 ·have h:declsR l p=.inr q:=h
  unfold declsR at h
  split at h
  ·exact mj_same (hM0 (by decide)) h
  ·refine mj_push h ?_
   have:=hM0 (by decide)
   simp only [List.map_cons,List.map_nil,List.sum_cons,List.sum_nil,nsq_r0 3 (by decide),nsq_more]
   omega
 ·have h:declR l p=.inr q:=h
  have hM1:=hM0 (by decide)
  unfold declR at h
  split at h
  ·obtain ⟨p1,h1,h2⟩:=then_inv h
   obtain ⟨hl,rfl⟩:=key_inv h1
   obtain ⟨hl2,h3⟩:=take_inv (by decide) h2
   unfold namesR at h3
   simp only at h3 hl2
   generalize namesN (l.drop (p.tk+1+1))=ns2 at *
   obtain ⟨p2,h4,h5⟩:=then_inv h3
   obtain ⟨hl3,rfl⟩:=key_inv h4
   refine mj_push h5 ?_
   simp only [massQ_tk,List.map_cons,List.map_nil,List.sum_cons,List.sum_nil,nsq_r0 4 (by decide),nsq_more,nsq_data]
   omega
  ·obtain ⟨hl,h2⟩:=take_inv (by decide) h
   unfold namesR at h2
   simp only at h2
   generalize namesN (l.drop (p.tk+1))=ns at *
   obtain ⟨p2,h4,h5⟩:=then_inv h2
   obtain ⟨hl3,rfl⟩:=key_inv h4
   refine mj_push h5 ?_
   have hs:∀ xs:List (List UInt8),((xs.map fun n=>rMake (bindT 4 n) p.ex.length).map nsq).sum=0:=fun xs=>by
    induction xs with
    | nil=>rfl
    | cons a r ih=>
     have e:nsq (rMake (bindT 4 a) p.ex.length)=0:=rfl
     simp only [List.map_cons,List.sum_cons,ih,e,List.length_cons]
   have e:massQ ({ p with tk:=p.tk+1+ns.length+1,ru:=(ns.reverse.map fun n=>rMake (bindT 4 n) p.ex.length) ++ (rDef (tkAt l p.tk).tx :: p.ru) }:Ps)=massQ p:=by
    have h1:=hs ns.reverse
    unfold massQ
    simp only [List.map_append,List.sum_append,h1,List.map_cons,List.sum_cons,nsq_def]
    omega
   show massQ ({ p with tk:=p.tk+1+ns.length+1,ru:=(ns.reverse.map fun n=>rMake (bindT 4 n) p.ex.length) ++ (rDef (tkAt l p.tk).tx :: p.ru) }:Ps)+_≤3 * (p.tk+1+ns.length+1)+_
   rw [e]
   simp only [List.map_cons,List.map_nil,List.sum_cons,List.sum_nil,nsq_r0 10 (by decide)]
   omega
 ·have h:formR l p=.inr q:=h
  obtain ⟨hl,h2⟩:=take_inv (by decide) h
  refine mj_push h2 ?_
  have:=hM0 (by decide)
  simp only [massQ_tk,List.map_cons,List.map_nil,List.sum_cons,List.sum_nil,nsq_r0 8 (by decide),nsq_form]
  omega
 ·exact hp2 (by decide) (by decide) (hM0 (by decide)) h
 ·have h:arrowR l p=.inr q:=h
  unfold arrowR at h
  split at h
  ·obtain ⟨p1,h1,h2⟩:=then_inv h
   obtain ⟨hl,rfl⟩:=key_inv h1
   refine mj_push h2 ?_
   have:=hM0 (by decide)
   simp only [massQ_tk,List.map_cons,List.map_nil,List.sum_cons,List.sum_nil,nsq_r0 5 (by decide),nsq_sig]
   omega
  ·exact mj_same (hM0 (by decide)) h
 ·have h:sigAppR l p=.inr q:=h
  unfold sigAppR at h
  split at h
  ·obtain ⟨hl,h2⟩:=take_inv (by decide) h
   refine mj_push h2 ?_
   have:=hM0 (by decide)
   simp only [massQ_tk,List.map_cons,List.map_nil,List.sum_cons,List.sum_nil,nsq_r0 8 (by decide),nsq_sig]
   omega
  ·exact sigAtom_massQ (hM0 (by decide)) h
 ·have h:sigAtomsR l p=.inr q:=h
  unfold sigAtomsR at h
  split at h
  ·exact hp2 (by decide) (by decide) (hM0 (by decide)) h
  ·exact mj_same (hM0 (by decide)) h
 ·exact sigAtom_massQ (hM0 (by decide)) h
 ·exact expr_massQ (hM0 (by decide)) h
 ·have h:altR l p=.inr q:=h
  obtain ⟨hl,h2⟩:=take_inv (by decide) h
  unfold namesR at h2
  simp only at h2
  obtain ⟨p2,h4,h5⟩:=then_inv h2
  obtain ⟨hl3,rfl⟩:=key_inv h4
  refine mj_push h5 ?_
  have:=hM0 (by decide)
  simp only [massQ_tk,List.map_cons,List.map_nil,List.sum_cons,List.sum_nil,nsq_r0 10 (by decide),nsq_make]
  omega
 ·have h:lineR l p=.inr q:=h
  unfold lineR at h
  split at h
  ·obtain ⟨hl,h2⟩:=take_inv (by decide) h
   refine mj_push h2 ?_
   have:=hM0 (by decide)
   simp only [massQ_tk,List.map_cons,List.map_nil,List.sum_cons,List.sum_nil,nsq_r0 10 (by decide),nsq_make,nsq_later,bindT,List.length_singleton]
   omega
  ·exact expr_massQ (hM0 (by decide)) h
 ·have h:comparedR l p=.inr q:=h
  unfold comparedR at h
  split at h
  ·obtain ⟨hl,h2⟩:=take_inv (by decide) h
   refine mj_push h2 ?_
   have:=hM0 (by decide)
   simp only [massQ_tk,List.map_cons,List.map_nil,List.sum_cons,List.sum_nil,nsq_r0 15 (by decide),nsq_make,opT,List.length_nil]
   omega
  ·exact mj_same (hM0 (by decide)) h
 ·exact hp2 (by decide) (by decide) (hM0 (by decide)) h
 ·have h:addedR l p=.inr q:=h
  unfold addedR at h
  split at h
  ·obtain ⟨hl,h2⟩:=take_inv (by decide) h
   refine mj_push h2 ?_
   have:=hM0 (by decide)
   simp only [massQ_tk,List.map_cons,List.map_nil,List.sum_cons,List.sum_nil,nsq_r0 17 (by decide),nsq_r0 16 (by decide),nsq_make,opT,List.length_nil]
   omega
  ·exact mj_same (hM0 (by decide)) h
 ·exact hp2 (by decide) (by decide) (hM0 (by decide)) h
 ·have h:multipliedR l p=.inr q:=h
  unfold multipliedR at h
  split at h
  ·obtain ⟨hl,h2⟩:=take_inv (by decide) h
   refine mj_push h2 ?_
   have:=hM0 (by decide)
   simp only [massQ_tk,List.map_cons,List.map_nil,List.sum_cons,List.sum_nil,nsq_r0 19 (by decide),nsq_r0 18 (by decide),nsq_make,opT,List.length_nil]
   omega
  ·exact mj_same (hM0 (by decide)) h
 ·exact hp2 (by decide) (by decide) (hM0 (by decide)) h
 ·have h:appliedR l p=.inr q:=h
  unfold appliedR at h
  split at h
  ·refine mj_push h ?_
   have:=hM0 (by decide)
   simp only [List.map_cons,List.map_nil,List.sum_cons,List.sum_nil,nsq_r0 21 (by decide),nsq_r0 20 (by decide),nsq_make,kindT,List.length_nil]
   show _≤_+1
   omega
  ·exact mj_same (hM0 (by decide)) h
 ·have h:atomR l p=.inr q:=h
  have hM1:massQ p≤3 * p.tk+1:=by
   have e:nsq (⟨21,s,j,t,n,ns⟩:Ru)=0:=rfl
   rw [e] at hM
   simpa using hM
  have hex:∀ (t:Tr),t.ns=[]→t.ks=[]→Mj { p with tk:=p.tk+1,ex:=p.ex ++ [t] }:=fun t h1 h2=>by
   show massQ p≤3 * (p.tk+1)+_
   omega
  unfold atomR at h
  split at h
  ·obtain ⟨hl,h2⟩:=take_inv (by decide) h
   cases h2
   exact hex _ rfl rfl
  split at h
  ·obtain ⟨hl,h2⟩:=take_inv (by decide) h
   cases h2
   exact hex _ rfl rfl
  split at h
  ·obtain ⟨hl,h2⟩:=take_inv (by decide) h
   cases h2
   exact hex _ rfl rfl
  ·obtain ⟨p1,h1,h2⟩:=then_inv h
   obtain ⟨hl,rfl⟩:=key_inv h1
   refine mj_push h2 ?_
   simp only [massQ_tk,List.map_cons,List.map_nil,List.sum_cons,List.sum_nil,nsq_r0 10 (by decide),nsq_later]
   omega
 ·have h:keyR l s p=.inr q:=h
  obtain ⟨hl,rfl⟩:=key_inv h
  have:=hM0 (by decide)
  show massQ p≤3 * (p.tk+1)+_
  omega
 ·have h:moreR l s j p=.inr q:=h
  unfold moreR at h
  split at h
  ·obtain ⟨p1,h1,h2⟩:=then_inv h
   obtain ⟨hl,rfl⟩:=key_inv h1
   refine mj_push h2 ?_
   have:=hM0 (by decide)
   have e:nsq (r0 j)≤1:=by unfold nsq r0;simp only;split <;> simp [t0] <;> split <;> simp
   simp only [massQ_tk,List.map_cons,List.map_nil,List.sum_cons,List.sum_nil,nsq_more]
   omega
  ·exact mj_same (hM0 (by decide)) h
 ·have h:makeR t n p=.inr q:=h
  cases h
  exact Nat.le_trans (hM0 (by decide)) (Nat.le_add_right _ _)
 ·have h:makeSigR s n p=.inr q:=h
  cases h
  have hM1:massQ p+1≤3 * p.tk:=by
   have e:nsq (⟨25,s,j,t,n,ns⟩:Ru)=1:=rfl
   rw [e] at hM
   simpa using hM
  have e:massS (⟨s,p.sg.drop n⟩:Sg)=1+((p.sg.drop n).map massS).sum:=massS_eq _
  have e2:(p.sg.map massS).sum=((p.sg.take n).map massS).sum+((p.sg.drop n).map massS).sum:=by rw [← List.sum_append,← List.map_append,List.take_append_drop]
  show massQ _≤3 * p.tk+_
  unfold massQ at hM1 ⊢
  simp only [List.map_append,List.sum_append,List.map_cons,List.map_nil,List.sum_cons,List.sum_nil,e]
  omega
 ·have h:(.inr { p with ds:=p.ds ++ [⟨s,ns,p.fm⟩],fm:=[] }:Rs)=.inr q:=h
  cases h
  have hM1:massQ p+1≤3 * p.tk:=by
   have e:nsq (⟨26,s,j,t,n,ns⟩:Ru)=1:=rfl
   rw [e] at hM
   simpa using hM
  show massQ _≤3 * p.tk+_
  unfold massQ at hM1 ⊢
  simp only [List.map_append,List.sum_append,List.map_cons,List.map_nil,List.sum_cons,List.sum_nil,massT]
  omega
 ·have h:(.inr { p with fm:=p.fm ++ [⟨s,p.sg⟩],sg:=[] }:Rs)=.inr q:=h
  cases h
  have hM1:massQ p+1≤3 * p.tk:=by
   have e:nsq (⟨27,s,j,t,n,ns⟩:Ru)=1:=rfl
   rw [e] at hM
   simpa using hM
  show massQ _≤3 * p.tk+_
  unfold massQ at hM1 ⊢
  simp only [List.map_append,List.sum_append,List.map_cons,List.map_nil,List.sum_cons,List.sum_nil,massF]
  omega
 ·have h:(.inr { p with fs:=p.fs ++ [⟨s,p.ex.headD t0⟩],ex:=[] }:Rs)=.inr q:=h
  cases h
  exact Nat.le_trans (hM0 (by decide)) (Nat.le_add_right _ _)
theorem run_massQ {l:List Tk} {nd:Nat} (p:Ps):GoodP nd p→Mj p→∀ q,run l p=.inr q→massQ q≤3 * q.tk:=by
 refine run_ind (l:=l) (M:=fun p=>GoodP nd p→Mj p→∀ q,run l p=.inr q→massQ q≤3 * q.tk) (fun p ih hg hm q hq=>?_) p
 cases hru:p.ru with
 | nil=>
  rw [run_nil hru] at hq
  cases hq
  unfold Mj at hm
  rw [hru] at hm
  exact hm
 | cons r rest=>
  have hgd:Good nd (r :: rest) p.ex.length p.sg.length:=by unfold GoodP at hg;rw [hru] at hg;exact hg
  rw [run_cons hru] at hq
  cases hx:ruleR l r { p with ru:=rest } with
  | inl n=>rw [hx] at hq;cases hq
  | inr p2=>
   rw [hx] at hq
   have hm2:massQ { p with ru:=rest }+nsq r≤3 * p.tk+(if r.k=21 then 1 else 0):=by
    unfold Mj massQ at hm
    rw [hru] at hm
    unfold massQ
    simp only [List.map_cons,List.sum_cons] at hm ⊢
    have e:t21 (r :: rest)=if r.k=21 then 1 else 0:=rfl
    rw [e] at hm
    omega
   exact ih r rest p2 hru hx (rule_good (p:={ p with ru:=rest }) hgd hx).1 (rule_massQ (p:={ p with ru:=rest }) hm2 hx) q hq
def lw (l:List Wd):Nat:=(l.map fun x=>x.2.length+1).sum
theorem lw_nil:lw []=0:=rfl
theorem lw_cons (x:Wd) (l:List Wd):lw (x :: l)=x.2.length+1+lw l:=by simp [lw]
theorem lw_app (a b:List Wd):lw (a ++ b)=lw a+lw b:=by simp [lw]
theorem lw_pw (s:List UInt8) (l:List Wd):lw (pw s :: l)=s.length+1+lw l:=lw_cons _ _
theorem pw_snd (s:List UInt8):(pw s).2=s:=rfl
theorem lw_names {ns:List (List UInt8)} (h:∀ s ∈ ns,s.length≤20):lw (ns.map pw)≤21 * ns.length:=by
 induction ns with
 | nil=>exact Nat.le_refl _
 | cons a r ih=>
  have h1:=ih fun s hs=>h s (List.mem_cons_of_mem _ hs)
  have h2:=h a List.mem_cons_self
  rw [List.map_cons,lw_pw,List.length_cons]
  omega
theorem lw_br (l:List Wd):lw (brW l)=lw l+4:=by
 unfold brW
 rw [lw_cons,lw_app]
 simp [lw]
 omega
theorem lw_at (k:Tr × List Wd):lw (atW k)≤lw k.2+4:=by
 unfold atW
 split
 ·omega
 ·rw [lw_br];exact Nat.le_refl _
theorem lw_sep (s:List UInt8) (l:List (List Wd)):lw (sepW s l)≤(l.map fun x=>lw x+(s.length+1)).sum:=by
 cases l with
 | nil=>exact Nat.zero_le _
 | cons a r=>
  have:lw (r.flatMap fun b=>pw s :: b)=(r.map fun x=>lw x+(s.length+1)).sum:=by
   induction r with
   | nil=>rfl
   | cons b r ih=>rw [List.flatMap_cons,lw_app,ih,lw_pw,List.map_cons,List.sum_cons];omega
  show lw (a ++ _)≤_
  rw [lw_app,this,List.map_cons,List.sum_cons]
  omega
theorem oneA_short (x:Wd) (o:List UInt8) (t:Bool) (h:o.length+(x.2.length+1)≤2147483647):∃ o' t',oneA x (some (o,t))=some (o',t')∧o'.length≤o.length+(x.2.length+1):=by
 have hw:∀ t:Bool,∃ o',wdA x.2 (some (o,t))=some (o',false)∧o'.length≤o.length+(x.2.length+1):=fun t=>by
  have hl:(o ++ ((if t then [] else [32]) ++ x.2)).length≤o.length+(x.2.length+1):=by
   cases t <;> simp <;> omega
  refine ⟨o ++ ((if t then [] else [32]) ++ x.2),?_,hl⟩
  show (if (o ++ ((if t then [] else [32]) ++ x.2)).length≤2147483647 then some (o ++ ((if t then [] else [32]) ++ x.2),false) else none)=_
  exact if_pos (Nat.le_trans hl h)
 unfold oneA
 split
 ·obtain ⟨o',h1,h2⟩:=hw t
  exact ⟨o',_,h1,h2⟩
 ·split
  ·obtain ⟨o',h1,h2⟩:=hw t
   exact ⟨o',true,by rw [h1];rfl,h2⟩
  ·obtain ⟨o',h1,h2⟩:=hw true
   exact ⟨o',_,h1,h2⟩
theorem runA_short (l:List Wd):∀ (o:List UInt8) (t:Bool),o.length+lw l≤2147483647→∃ o' t',runA l (some (o,t))=some (o',t'):=by
 induction l with
 | nil=>intro o t _;exact ⟨o,t,rfl⟩
 | cons x r ih=>
  intro o t h
  rw [lw_cons] at h
  obtain ⟨o',t',h1,h2⟩:=oneA_short x o t (by omega)
  rw [runA_cons,h1]
  exact ih o' t' (by omega)
theorem wd_20 {l:List UInt8} (h:wd l=true):l.length≤20:=by
 unfold wd at h
 simp only [Bool.and_eq_true,decide_eq_true_eq] at h
 exact h.1.2
theorem nm_20 {l:List UInt8} (h:nm l=true):l.length≤20:=by
 unfold nm at h
 simp only [Bool.and_eq_true] at h
 exact wd_20 h.1.1
theorem cn_20 {l:List UInt8} (h:cn l=true):l.length≤20:=by
 unfold cn at h
 simp only [Bool.and_eq_true] at h
 exact wd_20 h.1
theorem names_20 {l:List (List UInt8)} (h:namesM l=true):∀ s ∈ l,s.length≤20:=fun s hs=>by
 unfold namesM at h
 simp only [Bool.and_eq_true,List.all_eq_true] at h
 exact nm_20 (h.1 s hs)
theorem op_2 {l:List UInt8} (h:(isOp l || isCmp l)=true):l.length≤2:=by
 unfold isOp isCmp at h
 simp only [Bool.or_eq_true,beq_iff_eq] at h
 rcases h with (((rfl | rfl) | rfl) | rfl) | (rfl | rfl) <;> simp
theorem one_of {α:Type} {l:List α} (h:l.length=1):∃ a,l=[a]:=by
 match l,h with
 | [a],_=>exact ⟨a,rfl⟩
theorem two_of {α:Type} {l:List α} (h:l.length=2):∃ a b,l=[a,b]:=by
 match l,h with
 | [a,b],_=>exact ⟨a,b,rfl⟩
theorem three_of {α:Type} {l:List α} (h:l.length=3):∃ a b c,l=[a,b,c]:=by
 match l,h with
 | [a,b,c],_=>exact ⟨a,b,c,rfl⟩
def NuOK (x:Int):Prop:=-9223372036854775808≤x∧x≤9223372036854775807
theorem lw_kids {s:List UInt8} (hs:s.length≤2) (l:List Tr) (h:∀ k ∈ l,lw (ws k)+4≤40 * mass k):lw (sepW s (l.map fun x=>ws x))≤40 * (l.map mass).sum:=by
 refine Nat.le_trans (lw_sep s _) ?_
 induction l with
 | nil=>exact Nat.le_refl _
 | cons a r ih=>
  have h1:=ih fun k hk=>h k (List.mem_cons_of_mem _ hk)
  have h2:=h a List.mem_cons_self
  simp only [List.map_cons,List.sum_cons] at h1 ⊢
  omega
theorem lw_ws (e:Tr):∀ n,(∀ x ∈ po e n,soundM x.2=true∧NuOK x.2.nu)→lw (ws e)+4≤40 * mass e:=by
 induction e using Tr.ind with
 | _ e ih=>
  intro n hall
  have hs:=(hall (n,e) (by rw [po_eq];exact List.mem_cons_self)).1
  have hu:=(hall (n,e) (by rw [po_eq];exact List.mem_cons_self)).2
  have hk:∀ k ∈ e.ks,lw (ws k)+4≤40 * mass k:=fun k hk=>ih k hk (n+1) fun x hx=>hall x (by rw [po_eq];exact List.mem_cons_of_mem _ (List.mem_flatMap.2 ⟨k,hk,hx⟩))
  clear ih hall
  unfold soundM at hs
  simp only [Bool.and_eq_true] at hs
  obtain ⟨⟨⟨⟨hnum,hname⟩,hnames⟩,hkids⟩,-⟩:=hs
  rw [ws_eq,mass_eq]
  obtain ⟨kd,nm',nu,ns,ks⟩:=e
  simp only at *
  unfold hasNameM at hname
  unfold hasNamesM at hnames
  unfold hasKidsM at hkids
  simp only at *
  by_cases h1:kd=1
  ·subst h1
   have:=Lib.itoa_length_le nu hu.1 hu.2
   simp only [wsF,if_true,lw_pw,lw_nil]
   omega
  by_cases h2:kd=2
  ·subst h2
   have:=nm_20 (show nm nm'=true by simpa using hname)
   simp [wsF,lw_pw,lw_nil]
   omega
  by_cases h3:kd=3
  ·subst h3
   have:=cn_20 (show cn nm'=true by simpa using hname)
   simp [wsF,lw_pw,lw_nil]
   omega
  by_cases h4:kd=4
  ·subst h4
   obtain ⟨a,rfl⟩:=one_of (l:=ks) (by simpa using hkids)
   have:=lw_names (names_20 (show namesM ns=true by simp at hnames;exact hnames.2))
   have:=hk a (by simp)
   simp [wsF,g0,lw_cons,lw_app,pw_snd,lw_nil]
   omega
  by_cases h5:kd=5
  ·subst h5
   obtain ⟨a,b,rfl⟩:=two_of (l:=ks) (by simpa using hkids)
   have:=hk a (by simp)
   have:=hk b (by simp)
   have:=lw_at (a,ws a)
   have:=lw_at (b,ws b)
   simp [wsF,g0,lw_cons,lw_app,pw_snd,lw_nil] at *
   omega
  by_cases h6:kd=6
  ·subst h6
   obtain ⟨a,b,rfl⟩:=two_of (l:=ks) (by simpa using hkids)
   have:=lw_names (names_20 (show namesM ns=true by simp at hnames;exact hnames.2))
   have:=hk a (by simp)
   have:=hk b (by simp)
   simp [wsF,g0,lw_cons,lw_app,pw_snd,lw_nil]
   omega
  by_cases h7:kd=7
  ·subst h7
   have hl:1<ks.length:=by simpa using hkids
   obtain ⟨a,r,rfl⟩:∃ a r,ks=a :: r:=by cases ks with | nil=>simp at hl | cons a r=>exact ⟨a,r,rfl⟩
   have h1:=lw_kids (s:=[59]) (by simp) r fun k hk'=>hk k (by simp [hk'])
   have:=hk a (by simp)
   simp [wsF,g0,lw_cons,lw_app,pw_snd,lw_nil,Function.comp_def]
   omega
  by_cases h8:kd=8
  ·subst h8
   obtain ⟨a,rfl⟩:=one_of (l:=ks) (by simpa using hkids)
   have:=lw_names (names_20 (show namesM ns=true by simpa using hnames))
   have:=cn_20 (show cn nm'=true by simpa using hname)
   have:=hk a (by simp)
   simp [wsF,g0,lw_cons,lw_app,pw_snd,lw_nil]
   omega
  by_cases h9:kd=9
  ·subst h9
   obtain ⟨a,b,rfl⟩:=two_of (l:=ks) (by simpa using hkids)
   have:=op_2 (l:=nm') (by simpa using hname)
   have:=hk a (by simp)
   have:=hk b (by simp)
   have:=lw_at (a,ws a)
   have:=lw_at (b,ws b)
   simp [wsF,g0,lw_cons,lw_app,pw_snd,lw_nil] at *
   omega
  by_cases h10:kd=10
  ·subst h10
   obtain ⟨a,b,c,rfl⟩:=three_of (l:=ks) (by simpa using hkids)
   have:=hk a (by simp)
   have:=hk b (by simp)
   have:=hk c (by simp)
   simp [wsF,g0,lw_cons,lw_app,pw_snd,lw_nil]
   omega
  by_cases h11:kd=11
  ·subst h11
   have:=lw_kids (s:=[59]) (by simp) ks hk
   simp [wsF,lw_cons,lw_app,pw_snd,lw_nil,Function.comp_def]
   omega
  by_cases h12:kd=12
  ·subst h12
   have:=lw_kids (s:=[59]) (by simp) ks hk
   simp [wsF,lw_cons,lw_app,pw_snd,lw_nil,Function.comp_def]
   omega
  by_cases h13:kd=13
  ·subst h13
   obtain ⟨a,rfl⟩:=one_of (l:=ks) (by simpa using hkids)
   have:=lw_names (names_20 (show namesM ns=true by simp at hnames;exact hnames.2))
   have:=hk a (by simp)
   simp [wsF,g0,lw_cons,lw_app,pw_snd,lw_nil]
   omega
  ·exfalso
   simp [h1,h2,h3,h4,h5,h6,h7,h8,h9,h10,h11,h12,h13] at hkids
end Go.Proofs.YtcnnlecjdkfdjaaGreatDoor
