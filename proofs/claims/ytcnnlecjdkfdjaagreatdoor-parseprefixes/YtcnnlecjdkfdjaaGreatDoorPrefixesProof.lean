/-
  ParsePrefixes, for every list of tokens, every cut, and every token behind: the law returns true, and its arguments read as they did. The condition: the listed variables of Go's library hold what its text lays (tied by the card).
-/
import Derived.Test.YtcnnlecjdkfdjaaGreatDoorPrefixesWalk
set_option linter.unusedVariables false
set_option linter.unusedSimpArgs false
set_option maxRecDepth 100000
set_option maxHeartbeats 8000000
namespace Go.Proofs.YtcnnlecjdkfdjaaGreatDoor.parsePrefixes
open Go.ChangeShapes Go.WideShapes Go.ChangeAt Go.RowKit
theorem walk (p:Option Addr) (l:List Tk) (c cut:Nat) (more:Tk) (W:World) (hg:Ly.Glob W∧GP (fun b=>b<W.heap.size) W) (hs:SlOK p l.length c) (hK:KM (fun b=>b<W.heap.size) W p l) (hcut:cut≤65535) (hmore:TkB more) :
 Calls Tryz.prog 8 #[.slice p l.length c,.int .u16 cut,.agg (tkC more).toArray] W fun e W'=>e=.returned (.bool true)∧Below W.heap.size W W':=by
 by_cases h:l.length=0∨300<l.length
 ·exact prefixes_long W hg.1 hg.2 h
 ·exact prefixes_walk W rfl (by omega) (by omega) hs.1 hK hs.2.2 hcut hmore hg.1 hg.2
theorem lifted (os:Os) (started:os.Started) (H:Type) (enc:TypeId × Value→H) :
 ReturnsInHanded {} Tryz.checked os 8 .any (fun w args=>(Rows.parsePrefixesSpec.pre enc Tryz.prog Tryz.f8 Rows.parsePrefixesRow.domain false w args∧laidMetH Tryz.prog Rows.parsePrefixesRow.laid w)∧sizedMet enc Tryz.prog Tryz.f8 (OpenSpec.ofChange Rows.parsePrefixesSpec) false w args)
  (Rows.parsePrefixesSpec.post enc Tryz.prog Tryz.f8 false true false false):=by
 refine returnsInHanded_of_change_and (C:=Tryz.checked) (X:=fun w _=>laidMetH Tryz.prog Rows.parsePrefixesRow.laid w) (fun _ _ _ hh h=>h.of_heap hh) own started (by kernel_rfl) Tryz.func8
  (ChangeSpec.witness_shaped (enc:=enc) (C:=Tryz.checked) (os:=os) (X:=fun w _=>laidMetH Tryz.prog Rows.parsePrefixesRow.laid w) false (World.doorLaid Tryz.prog 400 os) #[.slice none 0 0,.int .u16 0,.agg #[.int .i64 0,.string ⟨#[]⟩,.int .i64 0,.int .i64 0,.int .i64 0]] 8 rfl (World.shaped_of_RefB (by kernel_rfl) (by kernel_rfl)) (by kernel_rfl) (by kernel_rfl) (by kernel_rfl) (door_met os _)) ?_
 intro W base args ds gs before hval0 hW _ hz hL _
 have hval:∀ (j:Nat) t v,Tryz.f8.params[j]?=some t→args[j]?=some v→Value.okWide Tryz.prog W .any base t v:=hval0
 have hW':=hW
 obtain ⟨p,q,hA0,hV,rfl,_,_⟩:=hW
 have hA:DataW.TrodAll enc Tryz.prog W 0 (fun _=>true) true Tryz.f8.params.toList args.toList ds p:=hA0
 have hz':(DataW.weightsEach Tryz.prog (Tryz.f8.params.toList ++ Rows.parsePrefixesSpec.plain.varTypes Tryz.prog) (ds ++ gs)).all (·≤reachBytes)=true:=hz
 rw [Tryz.params8] at hA hval hz'
 obtain ⟨v0,vs0,d0,ds0,p0,q0,hargs,rfl,rfl,h0,r0⟩:=trodAll_cons hA
 obtain ⟨v1,vs1,d1,ds1,p1,q1,rfl,rfl,rfl,h1,r1⟩:=trodAll_cons r0
 obtain ⟨v2,vs2,d2,ds2,p2,q2,rfl,rfl,rfl,h2,r2⟩:=trodAll_cons r1
 obtain ⟨rfl,rfl,rfl⟩:=trodAll_nil r2
 obtain rfl:args=#[v0,v1,v2]:=by cases args;simp_all
 obtain ⟨rfl,rfl⟩:=trodVars_none hV
 have hw0:light 22 d0:=by
  unfold light
  simp only [List.cons_append,List.nil_append,DataW.weightsEach,List.all_append,Bool.and_eq_true] at hz'
  exact hz'.1
 have hw2:light 51 d2:=by
  unfold light
  simp only [List.cons_append,List.nil_append,DataW.weightsEach,List.all_append,Bool.and_eq_true] at hz'
  exact hz'.2.2.1
 obtain ⟨a0,l,c0,rfl,hs0,hK0⟩:=toks_of h0 (okWide_slice Tryz.underlying22 (hval 0 22 v0 rfl rfl)) hw0
 obtain ⟨a1,rfl,rfl,rfl,w1⟩:=open_int Tryz.underlying54 (hval 1 54 v1 rfl rfl) h1
 obtain ⟨cs,rfl,hsz⟩:=okWide_struct Tryz.underlying51 (hval 2 51 v2 rfl rfl)
 have h2':=h2
 obtain ⟨fuel,hf⟩:=h2'
 obtain ⟨t,ht,hb⟩:=tok_of hf hw2
 have hcs:cs=(tkC t).toArray:=by
  have:cs.toList=tkC t:=ht
  rw [← this]
 subst hcs
 clear hA0 hval0 hz
 simp only [List.append_nil] at hW'
 have hlt:∀ y ∈ p0 ++ p2,y.block<W.heap.size:=fun y hy=>by simpa using hW'.lt y (by simpa using hy)
 have hw1:0≤a1∧a1≤65535:=by
  simp only [Lit.wf,Bool.and_eq_true,decide_eq_true_eq] at w1
  have e1:IntKind.min .u16=0:=by decide
  have e2:IntKind.max .u16=65535:=by decide
  rw [e1,e2] at w1
  exact w1
 have ea:a1=(a1.toNat:Int):=by omega
 have hwk:=walk a0 l c0 a1.toNat t W (glob_of hL) hs0 hK0 (by omega) hb
 rw [← ea] at hwk
 refine hwk.mono fun e W' ⟨he,hnx⟩=>?_
 subst he
 have harg0:DataW.Trod enc Tryz.prog W' 0 (fun b=>decide (b<W.heap.size)) true 22 (.slice a0 l.length c0) d0 p0:=
  Below.trod laidOut (by kernel_rfl) (of_decide_eq_true (by kernel_rfl)) h0 hnx fun y hy=>hlt y (List.mem_append_left _ hy)
 have harg2:DataW.Trod enc Tryz.prog W' 0 (fun b=>decide (b<W.heap.size)) true 51 (.agg (tkC t).toArray) d2 p2:=
  Below.trod laidOut (by kernel_rfl) (of_decide_eq_true (by kernel_rfl)) h2 hnx fun y hy=>hlt y (List.mem_append_right _ hy)
 refine ⟨_,rfl,_,_,_,[],_,[],hW',?_,(trodAll_cons_mk harg0 (trodAll_cons_mk (shut_int Tryz.underlying54 w1) (trodAll_cons_mk harg2 trodAll_mk0))),rfl,hnx.frame _,fun h=>by cases h⟩
 exact trodAll_mk1 (shut_bool Tryz.underlying4 _)
theorem over:Rows.ParsePrefixesSaid:=
 OpenClaim.holds_of_wide 8 Tryz.f8 rfl rfl rfl rfl rfl rfl rfl ⟨rfl,rfl,rfl,rfl,rfl⟩ rfl rfl rfl rfl rfl (by kernel_rfl) Tryz.func8 (by kernel_rfl)
  (of_decide_eq_true (by kernel_rfl)) (by unfold Func.isWrapper;first | (rw [if_pos (by decide +kernel)];kernel_rfl) | (rw [if_neg (by decide +kernel)];exact ⟨rfl,rfl⟩))
  (fun os started H enc _=>lifted os started H enc)
theorem proved:Rows.ParsePrefixesCardSaid:=
 Claim7.holds_tied_plain_at .later [] [.data,.data,.data,.sentinel,.sentinel] true Rows.parsePrefixesCard.stood.harness true
  over (fun _ h=>by cases h) (by kernel_rfl) (fun _ h=>by cases h) parsePrefixes_row_tie rfl ⟨rfl,rfl⟩ (by kernel_rfl) rfl
  (fun f fn hf hfn=>by
   obtain rfl:f=8:=Option.some.inj ((show Tryz.prog.funcNamed Rows.parsePrefixesRow.func=some 8 by kernel_rfl).symm.trans hf) |>.symm
   obtain rfl:fn=Tryz.f8:=(Option.some.inj (Tryz.func8.symm.trans hfn)).symm
   exact ⟨by kernel_rfl,fun j t ht=>by
    rw [Tryz.params8] at ht
    have hm:t ∈ [22,54,51]:=by simpa using Array.mem_of_getElem? ht
    have hall:([22,54,51].all fun u=>!Tryz.prog.wantsStandIn u)=true:=by kernel_rfl
    exact (show Tryz.prog.wantsStandIn t=false by simpa using List.all_eq_true.1 hall t hm)⟩)
  (by kernel_rfl)
#print axioms proved
end Go.Proofs.YtcnnlecjdkfdjaaGreatDoor.parsePrefixes
