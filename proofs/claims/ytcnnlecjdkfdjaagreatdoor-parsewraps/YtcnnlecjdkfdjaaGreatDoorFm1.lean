/- Parts of the proof. -/
import Derived.Test.YtcnnlecjdkfdjaaGreatDoorRowSet
set_option linter.unusedVariables false
set_option linter.unusedSimpArgs false
set_option maxRecDepth 100000
set_option maxHeartbeats 8000000
namespace Go.Proofs.YtcnnlecjdkfdjaaGreatDoor
open Go.RowKit
theorem info121:(Tryz.prog.info? 121).map (fun i=>(i.zero,i.size,i.bytes))=some (some (.agg #[.string ⟨#[]⟩,.slice none 0 0]),2,40):=by kernel_rfl
theorem form_end {c:Nat→Nat} {B:Nat} {l:List Tk} {p:Ps} {w W:World} {tp:Option Addr} {tc:Nat} {vr ve vs vf vd vp:Value} {L:List (List Value)} {Ls:List (List Value)} {g2 cap2 ck:Nat} {pk:Option Addr} {s:List UInt8} (hS:PSt c B l p tp tc vr ve vs vf vd vp w) (hs:s.length≤281474976710656) (h1:L.length=p.fm.length) (h2:∀ ds ∈ L,ds.length=2) (h5:∀ (i:Nat) t,p.fm[i]?=some t→∃ ds,L[i]?=some ds∧FmIn (Im0 c w) w t ds) (s2:∀ ds ∈ Ls,ds.length=2) (s5:∀ (i:Nat) t,p.sg[i]?=some t→∃ ds,Ls[i]?=some ds∧SgIn (Im0 c w) w t ds)
 (hB:Hold B (psC tp l.length tc p.tk vr ve (.slice none 0 0) (.slice (some ⟨g2,0,none⟩) (p.fm.length+1) cap2) vd vp) 63 W) (hrow:W.ownsRow 0 121 2 (.slice (some ⟨g2,0,none⟩) (p.fm.length+1) cap2) (p.fm.length+1) (L.flatten ++ [.string (S s),.slice pk p.sg.length ck])) (hg:(c g2=5∧g2<w.heap.size)∨w.heap.size≤g2)
 (hk:(p.sg=[]∧pk=none∧ck=0)∨∃ kb,pk=some ⟨kb,0,none⟩∧w.heap.size≤kb∧kb<W.heap.size∧kb≠g2∧SlOK pk p.sg.length ck∧Un W kb∧∀ (j:Nat) v,Ls.flatten[j]?=some v→W.cell? ⟨kb,j,none⟩=some v)
 (hf:KP (fun b=>b<w.heap.size∧c b≠1∧c b≠5∧c b≠10+p.ru.length) w W):RQ c B l w (.inr { p with fm:=p.fm ++ [⟨s,p.sg⟩],sg:=[] }) (.returned (.tuple #[])) W:=by
 have hc:∀ b,b<w.heap.size→(fun b=>if b<w.heap.size then c b else if b=g2 then 5 else 0) b=c b:=fun b hb=>by simp [hb]
 have st:Step c (fun b=>if b<w.heap.size then c b else if b=g2 then 5 else 0) (fun k=>k≠1∧k≠5∧k≠10+p.ru.length) w W:=⟨hf,fun b hb _=>hc b hb⟩
 have hD:∀ k,k≤9→k≠1→k≠5→(fun k=>k≠1∧k≠5∧k≠10+p.ru.length) k:=fun k h1 h2 h3=>⟨h2,h3,by omega⟩
 have hD0:=hD 0 (by decide) (by decide) (by decide)
 refine ⟨rfl,_,⟨tp,tc,vr,ve,.slice none 0 0,_,vd,vp,hB,(hc B hS.hold.lt).trans hS.colB,hS.ktoks st hD0,hS.len,hS.at',hS.krul st hD0 (hD 2 (by decide) (by decide) (by decide)) (fun i _=>⟨by omega,by omega,by omega⟩),hS.kexs st hD0 (hD 3 (by decide) (by decide) (by decide)),RowOf.nil _ _ _ _ _ _,?_,hS.kdts st hD0 (hD 6 (by decide) (by decide) (by decide)),hS.kdfs st hD0 (hD 7 (by decide) (by decide) (by decide))⟩,st.imm hD0,st.kimm hD0⟩
 refine RowOf.push (w:=w) (c:=c) (R:=fun _ t ds=>FmIn (Im0 c w) w t ds) (L:=L) h1 h2 h5 (ds:=[.string (S s),.slice pk p.sg.length ck]) rfl hrow ?_ (fun i t' ds _ h=>FmIn.keep (st.kimm0 hD0) (st.imm0 hD0) t' ds h) ?_
 ·intro g' hg'
  have:g2=g':=by simpa [Value.ownBlock] using hg'
  subst this
  rcases hg with ⟨h,h'⟩ | h
  ·exact (hc g2 h').trans h
  ·simp [show ¬ g2<w.heap.size by omega]
 ·rcases hk with ⟨h,rfl,rfl⟩ | ⟨kb,rfl,k1,k2,k3,k4,ku,k5⟩
  ·exact ⟨none,0,rfl,hs,by rw [h];exact ⟨Nat.le_refl _,by omega,fun _=>rfl⟩,.inl h⟩
  ·have:=gm_of (c':=fun b=>if b<w.heap.size then c b else if b=g2 then 5 else 0) s2 s5 0 (st.kimm0 hD0) (st.imm0 hD0) (kb:=kb) ⟨⟨k2,by simp [show ¬ kb<w.heap.size by omega,k3]⟩,ku⟩ (by simpa using k5)
   exact ⟨some ⟨kb,0,none⟩,ck,rfl,hs,k4,this⟩
theorem form1_zero {c:Nat→Nat} {B:Nat} {l:List Tk} {p:Ps} {w:World} {bf bp:Nat} {s:List UInt8} {tp:Option Addr} {tc:Nat} {vr ve vf vd vp:Value} {Ls:List (List Value)} {q:Option Addr} {cq:Nat} (hS0:PSt c B l p tp tc vr ve (.slice q 0 cq) vf vd vp w) (hR:RuV B c w p.ru.length (.func (.func 237) #[] #[bx bf,bx bp]) (rForm s)) (s1:Ls.length=p.sg.length) (s2:∀ ds ∈ Ls,ds.length=2) (s3:w.ownsRow 0 175 2 (.slice q 0 cq) p.sg.length Ls.flatten) (s5:∀ (i:Nat) t,p.sg[i]?=some t→∃ ds,Ls[i]?=some ds∧SgIn (Im0 c w) w t ds) (hnil:p.sg=[]) (hx:p.fm.length≤1000000000) (hsx:p.sg.length≤1000000000) :
 Calls Tryz.prog 237 #[.pointer (some ⟨bf,0,none⟩),.pointer (some ⟨bp,0,none⟩)] w (RQ c B l w (.inr { p with fm:=p.fm ++ [⟨s,p.sg⟩],sg:=[] })):=by
 obtain ⟨bf',bp',hv,cp,ce,hp,he,t1⟩:=hR
 obtain ⟨rfl,rfl⟩:bf=bf'∧bp=bp':=by simpa using hv
 clear hv
 simp only [rForm] at ce he t1
 obtain ⟨L,k1,k2,k3,k4,k5⟩:=hS0.fms
 obtain ⟨qf,cqf,rfl⟩:=slice_of k3
 have HEND:=zz fun W pk g2 cap2 ck=>form_end (Ls:=Ls) (s:=s) (W:=W) (pk:=pk) (g2:=g2) (cap2:=cap2) (ck:=ck) hS0 t1 k1 k2 k5 s2 s5
 obtain ⟨X,HX⟩:∃ X:Rs,Hid (X=.inr { p with fm:=p.fm ++ [⟨s,p.sg⟩],sg:=[] }):=⟨_,rfl⟩
 rw [← HX.out]
 rw [← HX.out] at HEND
 clear HX
 have hBl:=hS0.hold.lt
 have cB:=hS0.colB
 have nfB:bf≠B:=fun h=>by rw [h,cB] at ce;omega
 have npB:bp≠B:=fun h=>by rw [h,cB] at cp;omega
 have npf:bp≠bf:=fun h=>by rw [h,ce] at cp;omega
 have nfd:some bf≠(Value.slice qf p.fm.length cqf).ownBlock:=fun h=>by have:=k4 bf h.symm;rw [ce] at this;omega
 have npd:some bp≠(Value.slice qf p.fm.length cqf).ownBlock:=fun h=>by have:=k4 bp h.symm;rw [cp] at this;omega
 have nBd:some B≠(Value.slice qf p.fm.length cqf).ownBlock:=fun h=>by have:=k4 B h.symm;rw [cB] at this;omega
 have HO:Hid (∀ u ∈ Ls.flatten,u.oneCell'=true):=flat_oneS s1 s5 fun i t ds h=>h.one.2
 have HFL:Hid (Ls.flatten.length=p.sg.length * 2):=by show _=_;rw [flatten_len s2,s1]
 have HLF:Hid (L.flatten.length=p.fm.length * 2):=by show _=_;rw [flatten_len k2,k1]
 have HE:=zz he
 have HPB:=zz hp
 have HBB:=zz hS0.hold
 have HK3:=zz k3
 have HK4:=zz k4
 have HSR:=zz s3
 have HFB:Hid (∀ g,(Value.slice qf p.fm.length cqf).ownBlock=some g→g<w.heap.size):=by
  show ∀ g,(Value.slice qf p.fm.length cqf).ownBlock=some g→g<w.heap.size
  intro g h
  rcases k3.2 with ⟨e,_⟩ | ⟨g',cap,cur,e,_,hgb,_⟩
  ·rw [e] at h;cases h
  ·rw [e] at h
   have:g'=g:=by simpa [Value.ownBlock] using h
   subst this
   exact (Array.getElem?_eq_some_iff.1 hgb).1
 have c0:=he.cell 1
 have c1:=hp.cell 0
 have c2:=hS0.hold.cell 4
 simp only [lGA,lGS,lGZ] at c0 c1 c2
 obtain ⟨i0,hi,hz0,hz1,hz2⟩:=info_parts info175
 obtain ⟨j0,ji,jz0,jz1,jz2⟩:=info_parts info121
 have hbfl:=he.lt
 have hbpl:=hp.lt
 clear hS0 he hp k1 k2 k3 k4 k5 s1 s2 s3 s5
 go_enter Tryz.func237,Tryz.ntmps237
 go_wp2_with fail
 refine wp_region_noPanic ?_
 refine region_J 9 (N:=7) (S:=(fun W':World=>W'.cell? ⟨bf,1,none⟩=some (.slice none 0 0)∧W'.cell? ⟨bp,0,none⟩=some (.pointer (some ⟨B,0,none⟩))∧W'.cell? ⟨B,4,none⟩=some (.slice q 0 cq))) (by kernel_rfl) (by kernel_rfl) ?_
 have hS:(fun W':World=>W'.cell? ⟨bf,1,none⟩=some (.slice none 0 0)∧W'.cell? ⟨bp,0,none⟩=some (.pointer (some ⟨B,0,none⟩))∧W'.cell? ⟨B,4,none⟩=some (.slice q 0 cq)) w.drew:=⟨c0,c1,c2⟩
 refine take_E 0 2 (.pointer (some ⟨bf,1,none⟩)) rfl (Or.inl ⟨by rfl,fun W' hW=>by obtain ⟨s0,s1,s2⟩:=hW;go_simp⟩) hS ?_
 refine take_E 1 3 (.slice none 0 0) rfl (Or.inl ⟨by rfl,fun W' hW=>by obtain ⟨s0,s1,s2⟩:=hW;go_simp⟩) hS ?_
 refine take_E 2 4 (.pointer (some ⟨B,0,none⟩)) rfl (Or.inl ⟨by rfl,fun W' hW=>by obtain ⟨s0,s1,s2⟩:=hW;go_simp⟩) hS ?_
 refine take_E 3 5 (.pointer (some ⟨B,0,none⟩)) rfl (Or.inl ⟨by rfl,fun W' hW=>by obtain ⟨s0,s1,s2⟩:=hW;go_simp⟩) hS ?_
 refine take_E 4 6 (.pointer (some ⟨B,4,none⟩)) rfl (Or.inl ⟨by rfl,fun W' hW=>by obtain ⟨s0,s1,s2⟩:=hW;go_simp⟩) hS ?_
 refine take_E 5 7 (.slice q 0 cq) rfl (Or.inl ⟨by rfl,fun W' hW=>by obtain ⟨s0,s1,s2⟩:=hW;go_simp⟩) hS ?_
 simp only [Act.put,lSI,lSZ,lSS]
 refine ready_1 6 (op_E fun K hK=>?_)
 refine wp_append_zero _ _ (by rfl) (by rfl) _ _ (by rfl) ?_
 obtain ⟨W2,hW2⟩:∃ W2,W2=w.drew:=⟨_,rfl⟩
 rw [← hW2]
 have hbel:∀ {b:Nat} {C:Array Value} {t:TypeId},Hold b C t w→Hold b C t W2:=fun h=>by rw [hW2];exact h
 have HE2:=zz (hbel HE.out)
 have HP2:=zz (hbel HPB.out)
 have HB2:=zz (hbel HBB.out)
 have KP2:Hid (KP (fun b=>b<w.heap.size∧b≠bf) w W2):=by rw [hW2];exact (KP.refl _ _).drew
 clear hbel hW2
 have v0:=HE2.out.cell 1
 have v1:=HP2.out.cell 0
 have v2:=HB2.out.cell 4
 have vz:=HE2.out.frozen 1
 simp only [lGA,lGS,lGZ] at v0 v1 v2
 refine hK _ _ ⟨fun _=>⟨v0,v1,v2⟩,?_⟩
 clear hK K hS
 refine ready_1 7 (op_E fun K hK=>?_)
 go_simp
 refine hK _ _ ⟨fun h=>absurd h (by omega),?_⟩
 clear hK K
 refine ready_1 8 (op_E fun K hK=>?_)
 go_simp
 refine hK _ _ ⟨fun h=>absurd h (by omega),?_⟩
 clear hK K
 refine done_J (by kernel_rfl) ?_ _
 refine NoPanic.normal ?_
 have HE3:=zz (HE2.out.set 1 (.slice none 0 0))
 have HP3:=zz (HP2.out.other npf 1 (.slice none 0 0))
 have HB3:=zz (HB2.out.other nfB.symm 1 (.slice none 0 0))
 have KP3:Hid (KP (fun b=>b<w.heap.size∧b≠bf) w (W2.setCell ⟨bf,1,none⟩ (.slice none 0 0))):=KP.trans KP2.out (KP.setCell _ _ _ _ (fun h=>h.2 rfl))
 have hz3:w.heap.size≤(W2.setCell ⟨bf,1,none⟩ (.slice none 0 0)).heap.size:=KP3.out.size
 generalize (W2.setCell ⟨bf,1,none⟩ (.slice none 0 0))=W3 at *
 simp only [lSI,lSZ,lSS] at HE3
 have d1:=HP3.out.cell 0
 have d2:=HB3.out.cell 4
 have d3:=HB3.out.frozen 4
 simp only [lGA,lGS,lGZ] at d1 d2
 clear HE2 HP2 HB2 KP2 v0 v1 v2 vz c0 c1 c2
 go_wp2_with fail
 have HE4:=zz (HE3.out.other nfB 4 (.slice none 0 0))
 have HP4:=zz (HP3.out.other npB 4 (.slice none 0 0))
 have HB4:=zz (HB3.out.set 4 (.slice none 0 0))
 have KP4:Hid (KP (fun b=>b<w.heap.size∧b≠bf∧b≠B) w (W3.setCell ⟨B,4,none⟩ (.slice none 0 0))):=KP.trans (KP.mono KP3.out fun b hb=>⟨hb.1,hb.2.1⟩) (KP.setCell _ _ _ _ (fun h=>h.2.2 rfl))
 generalize (W3.setCell ⟨B,4,none⟩ (.slice none 0 0))=W4 at *
 simp only [lSI,lSZ,lSS] at HB4
 clear HE3 HP3 HB3 KP3 d1 d2 d3
 go_region
 ·have HE5:=zz (hold_drew (HE4.out.alloc (.cells #[.bool false] 4)))
  have HP5:=zz (hold_drew (HP4.out.alloc (.cells #[.bool false] 4)))
  have HB5:=zz (hold_drew (HB4.out.alloc (.cells #[.bool false] 4)))
  have KP5:Hid (KP (fun b=>b<w.heap.size∧b≠bf∧b≠B) w (W4.alloc (.cells #[.bool false] 4)).drew):=(KP.trans KP4.out (KP.alloc _ _ (fun b hb=>Nat.lt_of_lt_of_le hb.1 KP4.out.size))).drew
  generalize (W4.alloc (.cells #[.bool false] 4)).drew=W5 at *
  have HROW:Hid (W5.ownsRow 0 121 2 (.slice qf p.fm.length cqf) p.fm.length L.flatten):=row_keep HK3.out fun g hg hl=>KP5.out.block g ⟨hl,fun e=>nfd (by rw [← e];exact hg.symm),fun e=>nBd (by rw [← e];exact hg.symm)⟩
  have d0:=HE5.out.cell 0
  have d4:=HE5.out.cell 1
  have d1:=HP5.out.cell 0
  have d2:=HB5.out.cell 5
  have hz5:=KP5.out.size
  simp only [lGA,lGS,lGZ] at d0 d1 d2 d4
  clear HE4 HP4 HB4 KP4
  go_wp2_with fail
  refine wp_region_noPanic ?_
  refine region_J 11 (N:=8) (S:=(fun W':World=>W'.cell? ⟨bp,0,none⟩=some (.pointer (some ⟨B,0,none⟩))∧W'.cell? ⟨B,5,none⟩=some (.slice qf p.fm.length cqf)∧W'.cell? ⟨bf,0,none⟩=some (.string (S s))∧W'.cell? ⟨bf,1,none⟩=some (.slice none 0 0))) (by kernel_rfl) (by kernel_rfl) ?_
  have hS:(fun W':World=>W'.cell? ⟨bp,0,none⟩=some (.pointer (some ⟨B,0,none⟩))∧W'.cell? ⟨B,5,none⟩=some (.slice qf p.fm.length cqf)∧W'.cell? ⟨bf,0,none⟩=some (.string (S s))∧W'.cell? ⟨bf,1,none⟩=some (.slice none 0 0)) W5.drew:=⟨d1,d2,d0,d4⟩
  refine take_E 0 26 (.pointer (some ⟨B,0,none⟩)) rfl (Or.inl ⟨by rfl,fun W' hW=>by obtain ⟨s0,s1,s2,s3⟩:=hW;go_simp⟩) hS ?_
  refine take_E 1 27 (.pointer (some ⟨B,0,none⟩)) rfl (Or.inl ⟨by rfl,fun W' hW=>by obtain ⟨s0,s1,s2,s3⟩:=hW;go_simp⟩) hS ?_
  refine take_E 2 28 (.pointer (some ⟨B,0,none⟩)) rfl (Or.inl ⟨by rfl,fun W' hW=>by obtain ⟨s0,s1,s2,s3⟩:=hW;go_simp⟩) hS ?_
  refine take_E 3 29 (.pointer (some ⟨B,5,none⟩)) rfl (Or.inl ⟨by rfl,fun W' hW=>by obtain ⟨s0,s1,s2,s3⟩:=hW;go_simp⟩) hS ?_
  refine take_E 4 30 (.slice qf p.fm.length cqf) rfl (Or.inl ⟨by rfl,fun W' hW=>by obtain ⟨s0,s1,s2,s3⟩:=hW;go_simp⟩) hS ?_
  refine take_E 5 31 (.agg #[.string (S s),.slice none 0 0]) rfl (Or.inl ⟨by rfl,fun W' hW=>by obtain ⟨s0,s1,s2,s3⟩:=hW;go_simp⟩) hS ?_
  simp only [Act.put,lSI,lSZ,lSS]
  refine ready_1 6 (op_E fun K hK=>?_)
  go_simp
  have x1:=(HP5.out.alloc (.cells #[.string (S s),.slice none 0 0] 121)).cell 0
  have x2:=(HB5.out.alloc (.cells #[.string (S s),.slice none 0 0] 121)).cell 5
  have x0:=(HE5.out.alloc (.cells #[.string (S s),.slice none 0 0] 121)).cell 0
  have x4:=(HE5.out.alloc (.cells #[.string (S s),.slice none 0 0] 121)).cell 1
  simp only [lGA,lGS,lGZ] at x0 x1 x2 x4
  refine hK _ _ ⟨fun _=>⟨x1,x2,x0,x4⟩,?_⟩
  clear hK K
  refine ready_1 7 (op_E fun K hK=>?_)
  refine wp_append_lies _ _ _ _ (by rfl) 0 121 j0 _ 2 40 Tryz.underlying61 ji jz0 jz1 jz2 rfl (by omega) (.slice qf p.fm.length cqf) p.fm.length L.flatten (by rfl) ((HROW.out.alloc (.cells #[.string (S s),.slice none 0 0] 121)).drew) ⟨W5.heap.size,0,none⟩ 1 1 [.string (S s),.slice none 0 0] (by rfl) (by rfl) (World.news_of_block (cs:=#[.string (S s),.slice none 0 0]) (t:=121) (fr:=(0,0)) (heap_alloc_new W5 _)) (by simp [Value.oneCell']) (by omega) (by unfold maxLen;omega) (by omega) (by omega) (W5.heap.size+1) (by simp) ?_
  intro g2 cap2 W6 hown hgrow hat hlt
  have kp6:∀ b,b<W5.heap.size→some b≠(Value.slice qf p.fm.length cqf).ownBlock→W6.heap[b]?=W5.heap[b]?:=fun b hb hne=>(hgrow.block b (by simp;omega) hne).trans (Below.heap_alloc W5 _ b hb)
  have hsz6:W5.heap.size+1≤W6.heap.size:=by have:=hgrow.size;simpa using this
  have hold6:∀ {b:Nat} {C:Array Value} {t:TypeId},Hold b C t W5→some b≠(Value.slice qf p.fm.length cqf).ownBlock→Hold b C t W6:=fun h hne=>(kp6 _ h.lt hne).trans h
  have HB6:=zz (hold6 HB5.out nBd)
  have u1:=(hold6 HP5.out npd).cell 0
  have u2:=HB6.out.cell 5
  have hE6:=hold6 HE5.out nfd
  have u0:=hE6.cell 0
  have u4:=hE6.cell 1
  have uz:=HB6.out.frozen 5
  simp only [lGA,lGS,lGZ] at u0 u1 u2 u4
  have HO6:=zz hown
  have HG6:Hid ((Value.slice qf p.fm.length cqf).ownBlock=some g2∨W5.heap.size<g2):=by
   rcases hat with h | h
   ·exact .inl h
   ·right;omega
  have HKK6:Hid (∀ b,b<W5.heap.size→some b≠(Value.slice qf p.fm.length cqf).ownBlock→W6.heap[b]?=W5.heap[b]?):=kp6
  have HKO6:Hid (W6.os=w.os∧W6.tape=w.tape∧W6.output=w.output):=⟨hgrow.os.trans KP5.out.os,hgrow.tape.trans KP5.out.tape,hgrow.output.trans KP5.out.output⟩
  refine hK _ _ ⟨fun _=>⟨u1,u2,u0,u4⟩,?_⟩
  clear hK K hown hgrow hat kp6 hold6 hE6
  refine ready_1 8 (op_E fun K hK=>?_)
  go_simp
  refine hK _ _ ⟨fun h=>absurd h (by omega),?_⟩
  clear hK K
  refine ready_1 9 (op_E fun K hK=>?_)
  go_simp
  refine hK _ _ ⟨fun h=>absurd h (by omega),?_⟩
  clear hK K
  refine ready_1 10 (op_E fun K hK=>?_)
  go_simp
  refine hK _ _ ⟨fun h=>absurd h (by omega),?_⟩
  clear hK K
  refine done_J (by kernel_rfl) ?_ _
  refine NoPanic.normal ?_
  go_wp2_with fail
  go_end0
  refine HEND.out _ none g2 cap2 0 (HB6.out.set 5 _) ?_ ?_ ?_ ?_
  ·rw [hnil];exact row_other HO6.out HB6.out (by decide) 5 _
  ·rcases HG6.out with h | h
   ·exact .inl ⟨HK4.out g2 h,HFB.out g2 h⟩
   ·right;omega
  ·exact .inl ⟨hnil,rfl,rfl⟩
  ·refine ⟨HKO6.out.1,HKO6.out.2.1,HKO6.out.2.2,by simp;omega,fun b hb=>?_⟩
   refine (Below.heap_setCell _ _ _ b (fun e=>hb.2.1 (by rw [show b=B from e];exact cB))).trans ((HKK6.out b (by omega) (fun e=>hb.2.2.1 (HK4.out b e.symm))).trans (KP5.out.block b ⟨hb.1,fun e=>hb.2.2.2 (by rw [e];exact ce),fun e=>hb.2.1 (by rw [e];exact cB)⟩))
 ·have HE5:=zz (hold_drew (HE4.out.alloc (.cells #[.bool true] 4)))
  have HP5:=zz (hold_drew (HP4.out.alloc (.cells #[.bool true] 4)))
  have HB5:=zz (hold_drew (HB4.out.alloc (.cells #[.bool true] 4)))
  have KP5:Hid (KP (fun b=>b<w.heap.size∧b≠bf∧b≠B) w (W4.alloc (.cells #[.bool true] 4)).drew):=(KP.trans KP4.out (KP.alloc _ _ (fun b hb=>Nat.lt_of_lt_of_le hb.1 KP4.out.size))).drew
  generalize (W4.alloc (.cells #[.bool true] 4)).drew=W5 at *
  have HROW:Hid (W5.ownsRow 0 121 2 (.slice qf p.fm.length cqf) p.fm.length L.flatten):=row_keep HK3.out fun g hg hl=>KP5.out.block g ⟨hl,fun e=>nfd (by rw [← e];exact hg.symm),fun e=>nBd (by rw [← e];exact hg.symm)⟩
  have d1:=HP5.out.cell 0
  have d2:=HB5.out.cell 5
  have hz5:=KP5.out.size
  simp only [lGA,lGS,lGZ] at d1 d2
  have HX:=zz (fun ops rest o' a Q hgd s' x' ho hs hx=>@wpList_append_lies Tryz.prog (W5.alloc (.cells #[.string ⟨#[]⟩,.slice none 0 0] 121)) ops rest o' a Q hgd s' x' 61 ho 0 121 j0 _ 2 40 Tryz.underlying61 ji jz0 jz1 jz2 rfl (by omega) (.slice qf p.fm.length cqf) p.fm.length L.flatten hs (HROW.out.alloc _) ⟨W5.heap.size,0,none⟩ 1 1 [.string ⟨#[]⟩,.slice none 0 0] hx rfl (World.news_of_block (cs:=#[.string ⟨#[]⟩,.slice none 0 0]) (t:=121) (fr:=(0,0)) (heap_alloc_new W5 _)) (by simp [Value.oneCell']) (by omega) (by unfold maxLen;omega) (by omega) (by simp) (W5.heap.size+1) (by simp))
  have HALL:Hid (∀ (g2 cap2:Nat) (W6:World),W6.ownsRow 0 121 2 (.slice (some ⟨g2,0,none⟩) (p.fm.length+1) cap2) (p.fm.length+1) (L.flatten ++ [.string ⟨#[]⟩,.slice none 0 0])→(W5.alloc (.cells #[.string ⟨#[]⟩,.slice none 0 0] 121)).grownBy W6 (Value.slice qf p.fm.length cqf).ownBlock →
   Hold B (psC tp l.length tc p.tk vr ve (.slice none 0 0) (.slice qf p.fm.length cqf) vd vp) 63 W6∧(W6.setCell ⟨B,5,none⟩ (.slice (some ⟨g2,0,none⟩) (p.fm.length+1) cap2)).ownsRow 0 121 2 (.slice (some ⟨g2,0,none⟩) (p.fm.length+1) cap2) (p.fm.length+1) (L.flatten ++ [.string ⟨#[]⟩,.slice none 0 0])∧W6.cell? ⟨B,5,none⟩=some (.slice qf p.fm.length cqf)∧W6.frozen? ⟨B,5,none⟩=false∧(W6.setCell ⟨B,5,none⟩ (.slice (some ⟨g2,0,none⟩) (p.fm.length+1) cap2)).cell? ⟨bf,0,none⟩=some (.string (S s))∧(W6.setCell ⟨B,5,none⟩ (.slice (some ⟨g2,0,none⟩) (p.fm.length+1) cap2)).cell? ⟨bf,1,none⟩=some (.slice none 0 0)∧(W6.setCell ⟨B,5,none⟩ (.slice (some ⟨g2,0,none⟩) (p.fm.length+1) cap2)).frozen? ⟨g2,p.fm.length * 2,none⟩=false∧(W6.setCell ⟨B,5,none⟩ (.slice (some ⟨g2,0,none⟩) (p.fm.length+1) cap2)).frozen? ⟨g2,p.fm.length * 2+1,none⟩=false∧(∃ v1,(W6.setCell ⟨B,5,none⟩ (.slice (some ⟨g2,0,none⟩) (p.fm.length+1) cap2)).cell? ⟨g2,p.fm.length * 2,none⟩=some v1)∧∃ v2,(W6.setCell ⟨B,5,none⟩ (.slice (some ⟨g2,0,none⟩) (p.fm.length+1) cap2)).cell? ⟨g2,p.fm.length * 2+1,none⟩=some v2):=by
   intro g2 cap2 W6 hown hg
   have hB6:Hold B (psC tp l.length tc p.tk vr ve (.slice none 0 0) (.slice qf p.fm.length cqf) vd vp) 63 W6:=(hg.block B (Hold.lt (HB5.out.alloc _)) nBd).trans (HB5.out.alloc _)
   have hE6:Hold bf #[.string (S s),.slice none 0 0] 121 W6:=(hg.block bf (Hold.lt (HE5.out.alloc _)) nfd).trans (HE5.out.alloc _)
   have hE7:=hE6.other nfB 5 (.slice (some ⟨g2,0,none⟩) (p.fm.length+1) cap2)
   have R7:=row_other hown hB6 (by decide) 5 (.slice (some ⟨g2,0,none⟩) (p.fm.length+1) cap2)
   obtain ⟨f1,hv1⟩:=row_set_cell R7 (p.fm.length * 2) (by omega)
   obtain ⟨f2,hv2⟩:=row_set_cell R7 (p.fm.length * 2+1) (by omega)
   exact ⟨hB6,R7,hB6.cell 5,hB6.frozen 5,hE7.cell 0,hE7.cell 1,f1,f2,hv1,hv2⟩
  clear HE4 HP4 HB4 KP4
  go_wp2_with (at_builtin;have HY:=HX.out;refine HY _ _ _ _ _ rfl _ _ rfl rfl rfl ?_;clear HY;intro g2 cap2 W6 hown hgrow hat hlt;have hall:=HALL.out g2 cap2 W6 hown hgrow;obtain ⟨hB6,R7,d6,z6,e0,e1,f1,f2,⟨v1,q1⟩,⟨v2,q2⟩⟩:=hall;have HB6:=zz hB6;have HR7:=zz R7;have HGR:=zz hgrow;have HAT:=zz hat;clear hB6 R7 hgrow hat hown)
  go_end0
  have hn2:B≠g2∧((c g2=5∧g2<w.heap.size)∨W5.heap.size<g2):=by
   rcases HAT.out with h | h
   ·exact ⟨fun e=>nBd (by rw [e];exact h.symm),.inl ⟨HK4.out g2 h,HFB.out g2 h⟩⟩
   ·exact ⟨by omega,.inr (by omega)⟩
  have hsz6:W5.heap.size+1≤W6.heap.size:=by have:=HGR.out.size;simpa using this
  have kp7:∀ b,b<W5.heap.size→some b≠(Value.slice qf p.fm.length cqf).ownBlock→b≠B→b≠g2→(((W6.setCell ⟨B,5,none⟩ (.slice (some ⟨g2,0,none⟩) (p.fm.length+1) cap2)).setCell ⟨g2,p.fm.length * 2,none⟩ (.string (S s))).setCell ⟨g2,p.fm.length * 2+1,none⟩ (.slice none 0 0)).heap[b]?=W5.heap[b]?:=fun b hb h1 h2 h3=>(Below.heap_setCell _ _ _ b h3).trans ((Below.heap_setCell _ _ _ b h3).trans ((Below.heap_setCell _ _ _ b h2).trans ((HGR.out.block b (by simp;omega) h1).trans (Below.heap_alloc W5 _ b hb))))
  refine HEND.out _ none g2 cap2 0 ((((HB6.out.set 5 _).other hn2.1 _ _).other hn2.1 _ _)) ?_ ?_ ?_ ?_
  ·rw [hnil];have hr:=row_set (row_set HR7.out (p.fm.length * 2) (by omega) (.string (S s))) (p.fm.length * 2+1) (by omega) (.slice none 0 0)
   rw [set_last2 _ _ _ _ _ HLF.out] at hr
   exact hr
  ·rcases hn2.2 with h | h
   ·exact .inl h
   ·right;omega
  ·exact .inl ⟨hnil,rfl,rfl⟩
  ·refine ⟨HGR.out.os.trans KP5.out.os,HGR.out.tape.trans KP5.out.tape,HGR.out.output.trans KP5.out.output,by simp;omega,fun b hb=>?_⟩
   refine (kp7 b (by omega) (fun e=>hb.2.2.1 (HK4.out b e.symm)) (fun e=>hb.2.1 (by rw [e];exact cB)) (fun e=>?_)).trans (KP5.out.block b ⟨hb.1,fun e=>hb.2.2.2 (by rw [e];exact ce),fun e=>hb.2.1 (by rw [e];exact cB)⟩)
   rcases hn2.2 with h | h
   ·exact hb.2.2.1 (by rw [e];exact h.1)
   ·omega
theorem form1_some {c:Nat→Nat} {B:Nat} {l:List Tk} {p:Ps} {w:World} {bf bp:Nat} {s:List UInt8} {tp:Option Addr} {tc:Nat} {vr ve vf vd vp:Value} {Ls:List (List Value)} {g cq:Nat} (hS0:PSt c B l p tp tc vr ve (.slice (some ⟨g,0,none⟩) p.sg.length cq) vf vd vp w) (hR:RuV B c w p.ru.length (.func (.func 237) #[] #[bx bf,bx bp]) (rForm s)) (s1:Ls.length=p.sg.length) (s2:∀ ds ∈ Ls,ds.length=2) (s3:w.ownsRow 0 175 2 (.slice (some ⟨g,0,none⟩) p.sg.length cq) p.sg.length Ls.flatten) (s5:∀ (i:Nat) t,p.sg[i]?=some t→∃ ds,Ls[i]?=some ds∧SgIn (Im0 c w) w t ds) (hn:0<p.sg.length) (hx:p.fm.length≤1000000000) (hsx:p.sg.length≤1000000000) :
 Calls Tryz.prog 237 #[.pointer (some ⟨bf,0,none⟩),.pointer (some ⟨bp,0,none⟩)] w (RQ c B l w (.inr { p with fm:=p.fm ++ [⟨s,p.sg⟩],sg:=[] })):=by
 obtain ⟨bf',bp',hv,cp,ce,hp,he,t1⟩:=hR
 obtain ⟨rfl,rfl⟩:bf=bf'∧bp=bp':=by simpa using hv
 clear hv
 simp only [rForm] at ce he t1
 obtain ⟨L,k1,k2,k3,k4,k5⟩:=hS0.fms
 obtain ⟨qf,cqf,rfl⟩:=slice_of k3
 have HEND:=zz fun W pk g2 cap2 ck=>form_end (Ls:=Ls) (s:=s) (W:=W) (pk:=pk) (g2:=g2) (cap2:=cap2) (ck:=ck) hS0 t1 k1 k2 k5 s2 s5
 obtain ⟨X,HX⟩:∃ X:Rs,Hid (X=.inr { p with fm:=p.fm ++ [⟨s,p.sg⟩],sg:=[] }):=⟨_,rfl⟩
 rw [← HX.out]
 rw [← HX.out] at HEND
 clear HX
 have hBl:=hS0.hold.lt
 have cB:=hS0.colB
 have nfB:bf≠B:=fun h=>by rw [h,cB] at ce;omega
 have npB:bp≠B:=fun h=>by rw [h,cB] at cp;omega
 have npf:bp≠bf:=fun h=>by rw [h,ce] at cp;omega
 have nfd:some bf≠(Value.slice qf p.fm.length cqf).ownBlock:=fun h=>by have:=k4 bf h.symm;rw [ce] at this;omega
 have npd:some bp≠(Value.slice qf p.fm.length cqf).ownBlock:=fun h=>by have:=k4 bp h.symm;rw [cp] at this;omega
 have nBd:some B≠(Value.slice qf p.fm.length cqf).ownBlock:=fun h=>by have:=k4 B h.symm;rw [cB] at this;omega
 have hgl:g<w.heap.size:=by
  rcases s3.2 with ⟨h,_⟩ | ⟨g',cap,cur,h,_,hgb,_⟩
  ·cases h
  ·cases h;exact (Array.getElem?_eq_some_iff.1 hgb).1
 have HO:Hid (∀ u ∈ Ls.flatten,u.oneCell'=true):=flat_oneS s1 s5 fun i t ds h=>h.one.2
 have HFL:Hid (Ls.flatten.length=p.sg.length * 2):=by show _=_;rw [flatten_len s2,s1]
 have HLF:Hid (L.flatten.length=p.fm.length * 2):=by show _=_;rw [flatten_len k2,k1]
 have HE:=zz he
 have HPB:=zz hp
 have HBB:=zz hS0.hold
 have HK3:=zz k3
 have HK4:=zz k4
 have HSR:=zz s3
 have HFB:Hid (∀ g,(Value.slice qf p.fm.length cqf).ownBlock=some g→g<w.heap.size):=by
  show ∀ g,(Value.slice qf p.fm.length cqf).ownBlock=some g→g<w.heap.size
  intro g h
  rcases k3.2 with ⟨e,_⟩ | ⟨g',cap,cur,e,_,hgb,_⟩
  ·rw [e] at h;cases h
  ·rw [e] at h
   have:g'=g:=by simpa [Value.ownBlock] using h
   subst this
   exact (Array.getElem?_eq_some_iff.1 hgb).1
 have c0:=he.cell 1
 have c1:=hp.cell 0
 have c2:=hS0.hold.cell 4
 simp only [lGA,lGS,lGZ] at c0 c1 c2
 obtain ⟨i0,hi,hz0,hz1,hz2⟩:=info_parts info175
 obtain ⟨j0,ji,jz0,jz1,jz2⟩:=info_parts info121
 have hbfl:=he.lt
 have hbpl:=hp.lt
 clear hS0 he hp k1 k2 k3 k4 k5 s1 s2 s3 s5
 go_enter Tryz.func237,Tryz.ntmps237
 go_wp2_with fail
 refine wp_region_noPanic ?_
 refine region_J 9 (N:=7) (S:=(fun W':World=>W'.cell? ⟨bf,1,none⟩=some (.slice none 0 0)∧W'.cell? ⟨bp,0,none⟩=some (.pointer (some ⟨B,0,none⟩))∧W'.cell? ⟨B,4,none⟩=some (.slice (some ⟨g,0,none⟩) p.sg.length cq))) (by kernel_rfl) (by kernel_rfl) ?_
 have hS:(fun W':World=>W'.cell? ⟨bf,1,none⟩=some (.slice none 0 0)∧W'.cell? ⟨bp,0,none⟩=some (.pointer (some ⟨B,0,none⟩))∧W'.cell? ⟨B,4,none⟩=some (.slice (some ⟨g,0,none⟩) p.sg.length cq)) w.drew:=⟨c0,c1,c2⟩
 refine take_E 0 2 (.pointer (some ⟨bf,1,none⟩)) rfl (Or.inl ⟨by rfl,fun W' hW=>by obtain ⟨s0,s1,s2⟩:=hW;go_simp⟩) hS ?_
 refine take_E 1 3 (.slice none 0 0) rfl (Or.inl ⟨by rfl,fun W' hW=>by obtain ⟨s0,s1,s2⟩:=hW;go_simp⟩) hS ?_
 refine take_E 2 4 (.pointer (some ⟨B,0,none⟩)) rfl (Or.inl ⟨by rfl,fun W' hW=>by obtain ⟨s0,s1,s2⟩:=hW;go_simp⟩) hS ?_
 refine take_E 3 5 (.pointer (some ⟨B,0,none⟩)) rfl (Or.inl ⟨by rfl,fun W' hW=>by obtain ⟨s0,s1,s2⟩:=hW;go_simp⟩) hS ?_
 refine take_E 4 6 (.pointer (some ⟨B,4,none⟩)) rfl (Or.inl ⟨by rfl,fun W' hW=>by obtain ⟨s0,s1,s2⟩:=hW;go_simp⟩) hS ?_
 refine take_E 5 7 (.slice (some ⟨g,0,none⟩) p.sg.length cq) rfl (Or.inl ⟨by rfl,fun W' hW=>by obtain ⟨s0,s1,s2⟩:=hW;go_simp⟩) hS ?_
 simp only [Act.put,lSI,lSZ,lSS]
 refine ready_1 6 (op_E fun K hK=>?_)
 have hnews:∀ j u,Ls.flatten[j]?=some u→w.drew.cell? ((⟨g,0,none⟩:Addr).add j)=some u:=fun j u hj=>by
  rw [add_none,Nat.zero_add]
  exact row_cell HSR.out hj
 refine wp_append_lies _ _ _ _ (by rfl) 0 175 i0 _ 2 40 Tryz.underlying60 hi hz0 hz1 hz2 rfl (by omega) (.slice none 0 0) 0 [] (by rfl) (World.ownsRow_nil _ _ _ _) ⟨g,0,none⟩ p.sg.length cq Ls.flatten (by rfl) HFL.out hnews HO.out (by omega) (by unfold maxLen;omega) (by omega) (by omega) w.heap.size rfl ?_
 intro gg cap W2 hown hgrow hat hlt2
 rw [Nat.zero_add,List.nil_append] at hown
 simp only [Nat.zero_add] at hown ⊢
 obtain ⟨kb,rfl⟩:∃ kb,kb=gg:=⟨_,rfl⟩
 have hkb:w.heap.size≤kb:=by
  rcases hat with h | h
  ·cases h
  ·omega
 have hbel:∀ {b:Nat} {C:Array Value} {t:TypeId},Hold b C t w→Hold b C t W2:=fun h=>(hgrow.block _ h.lt (by simp [Value.ownBlock])).trans h
 have HE2:=zz (hbel HE.out)
 have HP2:=zz (hbel HPB.out)
 have HB2:=zz (hbel HBB.out)
 have KP2:Hid (KP (fun b=>b<w.heap.size∧b≠bf) w W2):=⟨hgrow.os,hgrow.tape,hgrow.output,hgrow.size,fun b hb=>hgrow.block b hb.1 (by simp [Value.ownBlock])⟩
 have HOW:=zz hown
 have hkl:kb<W2.heap.size:=hlt2
 clear hgrow hat hown hbel hnews
 have v0:=HE2.out.cell 1
 have v1:=HP2.out.cell 0
 have v2:=HB2.out.cell 4
 have vz:=HE2.out.frozen 1
 simp only [lGA,lGS,lGZ] at v0 v1 v2
 refine hK _ _ ⟨fun _=>⟨v0,v1,v2⟩,?_⟩
 clear hK K hS
 refine ready_1 7 (op_E fun K hK=>?_)
 go_simp
 refine hK _ _ ⟨fun h=>absurd h (by omega),?_⟩
 clear hK K
 refine ready_1 8 (op_E fun K hK=>?_)
 go_simp
 refine hK _ _ ⟨fun h=>absurd h (by omega),?_⟩
 clear hK K
 refine done_J (by kernel_rfl) ?_ _
 refine NoPanic.normal ?_
 have HE3:=zz (HE2.out.set 1 (.slice (some ⟨kb,0,none⟩) p.sg.length cap))
 have HP3:=zz (HP2.out.other npf 1 (.slice (some ⟨kb,0,none⟩) p.sg.length cap))
 have HB3:=zz (HB2.out.other nfB.symm 1 (.slice (some ⟨kb,0,none⟩) p.sg.length cap))
 have KP3:Hid (KP (fun b=>b<w.heap.size∧b≠bf) w (W2.setCell ⟨bf,1,none⟩ (.slice (some ⟨kb,0,none⟩) p.sg.length cap))):=KP.trans KP2.out (KP.setCell _ _ _ _ (fun h=>h.2 rfl))
 have HOW3:Hid ((W2.setCell ⟨bf,1,none⟩ (.slice (some ⟨kb,0,none⟩) p.sg.length cap)).ownsRow 0 175 2 (.slice (some ⟨kb,0,none⟩) p.sg.length cap) p.sg.length Ls.flatten):=row_keep HOW.out fun g' hg' _=>by
  have:kb=g':=by simpa [Value.ownBlock] using hg'
  exact Below.heap_setCell _ _ _ g' (fun e'=>by have e'':g'=bf:=e';omega)
 have hkl3:kb<(W2.setCell ⟨bf,1,none⟩ (.slice (some ⟨kb,0,none⟩) p.sg.length cap)).heap.size:=by simpa using hkl
 have hz3:w.heap.size≤(W2.setCell ⟨bf,1,none⟩ (.slice (some ⟨kb,0,none⟩) p.sg.length cap)).heap.size:=KP3.out.size
 generalize (W2.setCell ⟨bf,1,none⟩ (.slice (some ⟨kb,0,none⟩) p.sg.length cap))=W3 at *
 simp only [lSI,lSZ,lSS] at HE3
 have d1:=HP3.out.cell 0
 have d2:=HB3.out.cell 4
 have d3:=HB3.out.frozen 4
 simp only [lGA,lGS,lGZ] at d1 d2
 clear HE2 HP2 HB2 KP2 v0 v1 v2 vz c0 c1 c2
 go_wp2_with fail
 have HE4:=zz (HE3.out.other nfB 4 (.slice none 0 0))
 have HP4:=zz (HP3.out.other npB 4 (.slice none 0 0))
 have HB4:=zz (HB3.out.set 4 (.slice none 0 0))
 have KP4:Hid (KP (fun b=>b<w.heap.size∧b≠bf∧b≠B) w (W3.setCell ⟨B,4,none⟩ (.slice none 0 0))):=KP.trans (KP.mono KP3.out fun b hb=>⟨hb.1,hb.2.1⟩) (KP.setCell _ _ _ _ (fun h=>h.2.2 rfl))
 have HOW4:Hid ((W3.setCell ⟨B,4,none⟩ (.slice none 0 0)).ownsRow 0 175 2 (.slice (some ⟨kb,0,none⟩) p.sg.length cap) p.sg.length Ls.flatten):=row_keep HOW3.out fun g' hg' _=>by
  have:kb=g':=by simpa [Value.ownBlock] using hg'
  exact Below.heap_setCell _ _ _ g' (fun e'=>by have e'':g'=B:=e';omega)
 have hkl4:kb<(W3.setCell ⟨B,4,none⟩ (.slice none 0 0)).heap.size:=by simpa using hkl3
 generalize (W3.setCell ⟨B,4,none⟩ (.slice none 0 0))=W4 at *
 simp only [lSI,lSZ,lSS] at HB4
 clear HE3 HP3 HB3 KP3 d1 d2 d3
 go_region
 ·have HE5:=zz (hold_drew (HE4.out.alloc (.cells #[.bool false] 4)))
  have HP5:=zz (hold_drew (HP4.out.alloc (.cells #[.bool false] 4)))
  have HB5:=zz (hold_drew (HB4.out.alloc (.cells #[.bool false] 4)))
  have KP5:Hid (KP (fun b=>b<w.heap.size∧b≠bf∧b≠B) w (W4.alloc (.cells #[.bool false] 4)).drew):=(KP.trans KP4.out (KP.alloc _ _ (fun b hb=>Nat.lt_of_lt_of_le hb.1 KP4.out.size))).drew
  have HOW5:Hid ((W4.alloc (.cells #[.bool false] 4)).drew.ownsRow 0 175 2 (.slice (some ⟨kb,0,none⟩) p.sg.length cap) p.sg.length Ls.flatten):=(HOW4.out.alloc _).drew
  have hkl5:kb<(W4.alloc (.cells #[.bool false] 4)).drew.heap.size:=by show kb<(W4.alloc (.cells #[.bool false] 4)).heap.size;simp;omega
  generalize (W4.alloc (.cells #[.bool false] 4)).drew=W5 at *
  have HROW:Hid (W5.ownsRow 0 121 2 (.slice qf p.fm.length cqf) p.fm.length L.flatten):=row_keep HK3.out fun g hg hl=>KP5.out.block g ⟨hl,fun e=>nfd (by rw [← e];exact hg.symm),fun e=>nBd (by rw [← e];exact hg.symm)⟩
  have d0:=HE5.out.cell 0
  have d4:=HE5.out.cell 1
  have d1:=HP5.out.cell 0
  have d2:=HB5.out.cell 5
  have hz5:=KP5.out.size
  simp only [lGA,lGS,lGZ] at d0 d1 d2 d4
  clear HE4 HP4 HB4 KP4
  go_wp2_with fail
  refine wp_region_noPanic ?_
  refine region_J 11 (N:=8) (S:=(fun W':World=>W'.cell? ⟨bp,0,none⟩=some (.pointer (some ⟨B,0,none⟩))∧W'.cell? ⟨B,5,none⟩=some (.slice qf p.fm.length cqf)∧W'.cell? ⟨bf,0,none⟩=some (.string (S s))∧W'.cell? ⟨bf,1,none⟩=some (.slice (some ⟨kb,0,none⟩) p.sg.length cap))) (by kernel_rfl) (by kernel_rfl) ?_
  have hS:(fun W':World=>W'.cell? ⟨bp,0,none⟩=some (.pointer (some ⟨B,0,none⟩))∧W'.cell? ⟨B,5,none⟩=some (.slice qf p.fm.length cqf)∧W'.cell? ⟨bf,0,none⟩=some (.string (S s))∧W'.cell? ⟨bf,1,none⟩=some (.slice (some ⟨kb,0,none⟩) p.sg.length cap)) W5.drew:=⟨d1,d2,d0,d4⟩
  refine take_E 0 26 (.pointer (some ⟨B,0,none⟩)) rfl (Or.inl ⟨by rfl,fun W' hW=>by obtain ⟨s0,s1,s2,s3⟩:=hW;go_simp⟩) hS ?_
  refine take_E 1 27 (.pointer (some ⟨B,0,none⟩)) rfl (Or.inl ⟨by rfl,fun W' hW=>by obtain ⟨s0,s1,s2,s3⟩:=hW;go_simp⟩) hS ?_
  refine take_E 2 28 (.pointer (some ⟨B,0,none⟩)) rfl (Or.inl ⟨by rfl,fun W' hW=>by obtain ⟨s0,s1,s2,s3⟩:=hW;go_simp⟩) hS ?_
  refine take_E 3 29 (.pointer (some ⟨B,5,none⟩)) rfl (Or.inl ⟨by rfl,fun W' hW=>by obtain ⟨s0,s1,s2,s3⟩:=hW;go_simp⟩) hS ?_
  refine take_E 4 30 (.slice qf p.fm.length cqf) rfl (Or.inl ⟨by rfl,fun W' hW=>by obtain ⟨s0,s1,s2,s3⟩:=hW;go_simp⟩) hS ?_
  refine take_E 5 31 (.agg #[.string (S s),.slice (some ⟨kb,0,none⟩) p.sg.length cap]) rfl (Or.inl ⟨by rfl,fun W' hW=>by obtain ⟨s0,s1,s2,s3⟩:=hW;go_simp⟩) hS ?_
  simp only [Act.put,lSI,lSZ,lSS]
  refine ready_1 6 (op_E fun K hK=>?_)
  go_simp
  have x1:=(HP5.out.alloc (.cells #[.string (S s),.slice (some ⟨kb,0,none⟩) p.sg.length cap] 121)).cell 0
  have x2:=(HB5.out.alloc (.cells #[.string (S s),.slice (some ⟨kb,0,none⟩) p.sg.length cap] 121)).cell 5
  have x0:=(HE5.out.alloc (.cells #[.string (S s),.slice (some ⟨kb,0,none⟩) p.sg.length cap] 121)).cell 0
  have x4:=(HE5.out.alloc (.cells #[.string (S s),.slice (some ⟨kb,0,none⟩) p.sg.length cap] 121)).cell 1
  simp only [lGA,lGS,lGZ] at x0 x1 x2 x4
  refine hK _ _ ⟨fun _=>⟨x1,x2,x0,x4⟩,?_⟩
  clear hK K
  refine ready_1 7 (op_E fun K hK=>?_)
  refine wp_append_lies _ _ _ _ (by rfl) 0 121 j0 _ 2 40 Tryz.underlying61 ji jz0 jz1 jz2 rfl (by omega) (.slice qf p.fm.length cqf) p.fm.length L.flatten (by rfl) ((HROW.out.alloc (.cells #[.string (S s),.slice (some ⟨kb,0,none⟩) p.sg.length cap] 121)).drew) ⟨W5.heap.size,0,none⟩ 1 1 [.string (S s),.slice (some ⟨kb,0,none⟩) p.sg.length cap] (by rfl) (by rfl) (World.news_of_block (cs:=#[.string (S s),.slice (some ⟨kb,0,none⟩) p.sg.length cap]) (t:=121) (fr:=(0,0)) (heap_alloc_new W5 _)) (by simp [Value.oneCell']) (by omega) (by unfold maxLen;omega) (by omega) (by omega) (W5.heap.size+1) (by simp) ?_
  intro g2 cap2 W6 hown hgrow hat hlt
  have kp6:∀ b,b<W5.heap.size→some b≠(Value.slice qf p.fm.length cqf).ownBlock→W6.heap[b]?=W5.heap[b]?:=fun b hb hne=>(hgrow.block b (by simp;omega) hne).trans (Below.heap_alloc W5 _ b hb)
  have hsz6:W5.heap.size+1≤W6.heap.size:=by have:=hgrow.size;simpa using this
  have hold6:∀ {b:Nat} {C:Array Value} {t:TypeId},Hold b C t W5→some b≠(Value.slice qf p.fm.length cqf).ownBlock→Hold b C t W6:=fun h hne=>(kp6 _ h.lt hne).trans h
  have HB6:=zz (hold6 HB5.out nBd)
  have u1:=(hold6 HP5.out npd).cell 0
  have u2:=HB6.out.cell 5
  have hE6:=hold6 HE5.out nfd
  have u0:=hE6.cell 0
  have u4:=hE6.cell 1
  have uz:=HB6.out.frozen 5
  simp only [lGA,lGS,lGZ] at u0 u1 u2 u4
  have HO6:=zz hown
  have HG6:Hid ((Value.slice qf p.fm.length cqf).ownBlock=some g2∨W5.heap.size<g2):=by
   rcases hat with h | h
   ·exact .inl h
   ·right;omega
  have HKK6:Hid (∀ b,b<W5.heap.size→some b≠(Value.slice qf p.fm.length cqf).ownBlock→W6.heap[b]?=W5.heap[b]?):=kp6
  have HKO6:Hid (W6.os=w.os∧W6.tape=w.tape∧W6.output=w.output):=⟨hgrow.os.trans KP5.out.os,hgrow.tape.trans KP5.out.tape,hgrow.output.trans KP5.out.output⟩
  refine hK _ _ ⟨fun _=>⟨u1,u2,u0,u4⟩,?_⟩
  clear hK K hown hgrow hat kp6 hold6 hE6
  refine ready_1 8 (op_E fun K hK=>?_)
  go_simp
  refine hK _ _ ⟨fun h=>absurd h (by omega),?_⟩
  clear hK K
  refine ready_1 9 (op_E fun K hK=>?_)
  go_simp
  refine hK _ _ ⟨fun h=>absurd h (by omega),?_⟩
  clear hK K
  refine ready_1 10 (op_E fun K hK=>?_)
  go_simp
  refine hK _ _ ⟨fun h=>absurd h (by omega),?_⟩
  clear hK K
  refine done_J (by kernel_rfl) ?_ _
  refine NoPanic.normal ?_
  go_wp2_with fail
  go_end0
  refine HEND.out _ (some ⟨kb,0,none⟩) g2 cap2 cap (HB6.out.set 5 _) ?_ ?_ ?_ ?_
  ·exact row_other HO6.out HB6.out (by decide) 5 _
  ·rcases HG6.out with h | h
   ·exact .inl ⟨HK4.out g2 h,HFB.out g2 h⟩
   ·right;omega
  ·right
   refine ⟨kb,rfl,hkb,by simp;omega,?_,?_,row_un HOW5.out ((Below.heap_setCell _ _ _ kb (by show kb≠B;omega)).trans (HKK6.out kb hkl5 (fun e=>by have:=HFB.out kb e.symm;omega))) (by decide),fun j v hj=>?_⟩
   ·rcases HG6.out with h | h
    ·have:=HFB.out g2 h
     omega
    ·omega
   ·rcases HOW5.out.2 with ⟨h,_⟩ | ⟨g',cap',cur,h,_,_,r1,r2,_⟩
    ·cases h
    ·cases h
     exact ⟨r1,by unfold maxLen at r2;omega,fun h=>by cases h⟩
   ·refine Eq.trans (World.cell?_of_block (a:=⟨kb,j,none⟩) ?_) (row_cell HOW5.out hj)
    exact (Below.heap_setCell _ _ _ kb (by show kb≠B;omega)).trans (HKK6.out kb hkl5 (fun e=>by have:=HFB.out kb e.symm;omega))
  ·refine ⟨HKO6.out.1,HKO6.out.2.1,HKO6.out.2.2,by simp;omega,fun b hb=>?_⟩
   refine (Below.heap_setCell _ _ _ b (fun e=>hb.2.1 (by rw [show b=B from e];exact cB))).trans ((HKK6.out b (by omega) (fun e=>hb.2.2.1 (HK4.out b e.symm))).trans (KP5.out.block b ⟨hb.1,fun e=>hb.2.2.2 (by rw [e];exact ce),fun e=>hb.2.1 (by rw [e];exact cB)⟩))
 ·have HE5:=zz (hold_drew (HE4.out.alloc (.cells #[.bool true] 4)))
  have HP5:=zz (hold_drew (HP4.out.alloc (.cells #[.bool true] 4)))
  have HB5:=zz (hold_drew (HB4.out.alloc (.cells #[.bool true] 4)))
  have KP5:Hid (KP (fun b=>b<w.heap.size∧b≠bf∧b≠B) w (W4.alloc (.cells #[.bool true] 4)).drew):=(KP.trans KP4.out (KP.alloc _ _ (fun b hb=>Nat.lt_of_lt_of_le hb.1 KP4.out.size))).drew
  have HOW5:Hid ((W4.alloc (.cells #[.bool true] 4)).drew.ownsRow 0 175 2 (.slice (some ⟨kb,0,none⟩) p.sg.length cap) p.sg.length Ls.flatten):=(HOW4.out.alloc _).drew
  have hkl5:kb<(W4.alloc (.cells #[.bool true] 4)).drew.heap.size:=by show kb<(W4.alloc (.cells #[.bool true] 4)).heap.size;simp;omega
  generalize (W4.alloc (.cells #[.bool true] 4)).drew=W5 at *
  have HROW:Hid (W5.ownsRow 0 121 2 (.slice qf p.fm.length cqf) p.fm.length L.flatten):=row_keep HK3.out fun g hg hl=>KP5.out.block g ⟨hl,fun e=>nfd (by rw [← e];exact hg.symm),fun e=>nBd (by rw [← e];exact hg.symm)⟩
  have d1:=HP5.out.cell 0
  have d2:=HB5.out.cell 5
  have hz5:=KP5.out.size
  simp only [lGA,lGS,lGZ] at d1 d2
  have HX:=zz (fun ops rest o' a Q hgd s' x' ho hs hx=>@wpList_append_lies Tryz.prog (W5.alloc (.cells #[.string ⟨#[]⟩,.slice none 0 0] 121)) ops rest o' a Q hgd s' x' 61 ho 0 121 j0 _ 2 40 Tryz.underlying61 ji jz0 jz1 jz2 rfl (by omega) (.slice qf p.fm.length cqf) p.fm.length L.flatten hs (HROW.out.alloc _) ⟨W5.heap.size,0,none⟩ 1 1 [.string ⟨#[]⟩,.slice none 0 0] hx rfl (World.news_of_block (cs:=#[.string ⟨#[]⟩,.slice none 0 0]) (t:=121) (fr:=(0,0)) (heap_alloc_new W5 _)) (by simp [Value.oneCell']) (by omega) (by unfold maxLen;omega) (by omega) (by simp) (W5.heap.size+1) (by simp))
  have HALL:Hid (∀ (g2 cap2:Nat) (W6:World),W6.ownsRow 0 121 2 (.slice (some ⟨g2,0,none⟩) (p.fm.length+1) cap2) (p.fm.length+1) (L.flatten ++ [.string ⟨#[]⟩,.slice none 0 0])→(W5.alloc (.cells #[.string ⟨#[]⟩,.slice none 0 0] 121)).grownBy W6 (Value.slice qf p.fm.length cqf).ownBlock →
   Hold B (psC tp l.length tc p.tk vr ve (.slice none 0 0) (.slice qf p.fm.length cqf) vd vp) 63 W6∧(W6.setCell ⟨B,5,none⟩ (.slice (some ⟨g2,0,none⟩) (p.fm.length+1) cap2)).ownsRow 0 121 2 (.slice (some ⟨g2,0,none⟩) (p.fm.length+1) cap2) (p.fm.length+1) (L.flatten ++ [.string ⟨#[]⟩,.slice none 0 0])∧W6.cell? ⟨B,5,none⟩=some (.slice qf p.fm.length cqf)∧W6.frozen? ⟨B,5,none⟩=false∧(W6.setCell ⟨B,5,none⟩ (.slice (some ⟨g2,0,none⟩) (p.fm.length+1) cap2)).cell? ⟨bf,0,none⟩=some (.string (S s))∧(W6.setCell ⟨B,5,none⟩ (.slice (some ⟨g2,0,none⟩) (p.fm.length+1) cap2)).cell? ⟨bf,1,none⟩=some (.slice (some ⟨kb,0,none⟩) p.sg.length cap)∧(W6.setCell ⟨B,5,none⟩ (.slice (some ⟨g2,0,none⟩) (p.fm.length+1) cap2)).frozen? ⟨g2,p.fm.length * 2,none⟩=false∧(W6.setCell ⟨B,5,none⟩ (.slice (some ⟨g2,0,none⟩) (p.fm.length+1) cap2)).frozen? ⟨g2,p.fm.length * 2+1,none⟩=false∧(∃ v1,(W6.setCell ⟨B,5,none⟩ (.slice (some ⟨g2,0,none⟩) (p.fm.length+1) cap2)).cell? ⟨g2,p.fm.length * 2,none⟩=some v1)∧∃ v2,(W6.setCell ⟨B,5,none⟩ (.slice (some ⟨g2,0,none⟩) (p.fm.length+1) cap2)).cell? ⟨g2,p.fm.length * 2+1,none⟩=some v2):=by
   intro g2 cap2 W6 hown hg
   have hB6:Hold B (psC tp l.length tc p.tk vr ve (.slice none 0 0) (.slice qf p.fm.length cqf) vd vp) 63 W6:=(hg.block B (Hold.lt (HB5.out.alloc _)) nBd).trans (HB5.out.alloc _)
   have hE6:Hold bf #[.string (S s),.slice (some ⟨kb,0,none⟩) p.sg.length cap] 121 W6:=(hg.block bf (Hold.lt (HE5.out.alloc _)) nfd).trans (HE5.out.alloc _)
   have hE7:=hE6.other nfB 5 (.slice (some ⟨g2,0,none⟩) (p.fm.length+1) cap2)
   have R7:=row_other hown hB6 (by decide) 5 (.slice (some ⟨g2,0,none⟩) (p.fm.length+1) cap2)
   obtain ⟨f1,hv1⟩:=row_set_cell R7 (p.fm.length * 2) (by omega)
   obtain ⟨f2,hv2⟩:=row_set_cell R7 (p.fm.length * 2+1) (by omega)
   exact ⟨hB6,R7,hB6.cell 5,hB6.frozen 5,hE7.cell 0,hE7.cell 1,f1,f2,hv1,hv2⟩
  clear HE4 HP4 HB4 KP4
  go_wp2_with (at_builtin;have HY:=HX.out;refine HY _ _ _ _ _ rfl _ _ rfl rfl rfl ?_;clear HY;intro g2 cap2 W6 hown hgrow hat hlt;have hall:=HALL.out g2 cap2 W6 hown hgrow;obtain ⟨hB6,R7,d6,z6,e0,e1,f1,f2,⟨v1,q1⟩,⟨v2,q2⟩⟩:=hall;have HB6:=zz hB6;have HR7:=zz R7;have HGR:=zz hgrow;have HAT:=zz hat;clear hB6 R7 hgrow hat hown)
  go_end0
  have hn2:B≠g2∧((c g2=5∧g2<w.heap.size)∨W5.heap.size<g2):=by
   rcases HAT.out with h | h
   ·exact ⟨fun e=>nBd (by rw [e];exact h.symm),.inl ⟨HK4.out g2 h,HFB.out g2 h⟩⟩
   ·exact ⟨by omega,.inr (by omega)⟩
  have hsz6:W5.heap.size+1≤W6.heap.size:=by have:=HGR.out.size;simpa using this
  have kp7:∀ b,b<W5.heap.size→some b≠(Value.slice qf p.fm.length cqf).ownBlock→b≠B→b≠g2→(((W6.setCell ⟨B,5,none⟩ (.slice (some ⟨g2,0,none⟩) (p.fm.length+1) cap2)).setCell ⟨g2,p.fm.length * 2,none⟩ (.string (S s))).setCell ⟨g2,p.fm.length * 2+1,none⟩ (.slice (some ⟨kb,0,none⟩) p.sg.length cap)).heap[b]?=W5.heap[b]?:=fun b hb h1 h2 h3=>(Below.heap_setCell _ _ _ b h3).trans ((Below.heap_setCell _ _ _ b h3).trans ((Below.heap_setCell _ _ _ b h2).trans ((HGR.out.block b (by simp;omega) h1).trans (Below.heap_alloc W5 _ b hb))))
  refine HEND.out _ (some ⟨kb,0,none⟩) g2 cap2 cap ((((HB6.out.set 5 _).other hn2.1 _ _).other hn2.1 _ _)) ?_ ?_ ?_ ?_
  ·have hr:=row_set (row_set HR7.out (p.fm.length * 2) (by omega) (.string (S s))) (p.fm.length * 2+1) (by omega) (.slice (some ⟨kb,0,none⟩) p.sg.length cap)
   rw [set_last2 _ _ _ _ _ HLF.out] at hr
   exact hr
  ·rcases hn2.2 with h | h
   ·exact .inl h
   ·right;omega
  ·right
   have hk2:kb≠g2:=by
    rcases hn2.2 with h | h
    ·omega
    ·omega
   refine ⟨kb,rfl,hkb,by simp;omega,hk2,?_,row_un HOW5.out (kp7 kb hkl5 (fun e=>by have:=HFB.out kb e.symm;omega) (by omega) hk2) (by decide),fun j v hj=>?_⟩
   ·rcases HOW5.out.2 with ⟨h,_⟩ | ⟨g',cap',cur,h,_,_,r1,r2,_⟩
    ·cases h
    ·cases h
     exact ⟨r1,by unfold maxLen at r2;omega,fun h=>by cases h⟩
   ·refine Eq.trans (World.cell?_of_block (a:=⟨kb,j,none⟩) ?_) (row_cell HOW5.out hj)
    exact kp7 kb hkl5 (fun e=>by have:=HFB.out kb e.symm;omega) (by omega) hk2
  ·refine ⟨HGR.out.os.trans KP5.out.os,HGR.out.tape.trans KP5.out.tape,HGR.out.output.trans KP5.out.output,by simp;omega,fun b hb=>?_⟩
   refine (kp7 b (by omega) (fun e=>hb.2.2.1 (HK4.out b e.symm)) (fun e=>hb.2.1 (by rw [e];exact cB)) (fun e=>?_)).trans (KP5.out.block b ⟨hb.1,fun e=>hb.2.2.2 (by rw [e];exact ce),fun e=>hb.2.1 (by rw [e];exact cB)⟩)
   rcases hn2.2 with h | h
   ·exact hb.2.2.1 (by rw [e];exact h.1)
   ·omega
theorem form1_any {c:Nat→Nat} {B:Nat} {l:List Tk} {p:Ps} {w:World} {bf bp:Nat} {s:List UInt8} (hP:PM c B l p w) (hR:RuV B c w p.ru.length (.func (.func 237) #[] #[bx bf,bx bp]) (rForm s)) (hx:p.fm.length≤1000000000) (hsx:p.sg.length≤1000000000) :
 Calls Tryz.prog 237 #[.pointer (some ⟨bf,0,none⟩),.pointer (some ⟨bp,0,none⟩)] w (RQ c B l w (.inr { p with fm:=p.fm ++ [⟨s,p.sg⟩],sg:=[] })):=by
 obtain ⟨tp,tc,vr,ve,vs,vf,vd,vp,hS0⟩:=hP
 obtain ⟨Ls,s1,s2,s3,s4,s5⟩:=hS0.sgs
 rcases Nat.eq_zero_or_pos p.sg.length with h | h
 ·have hnil:=List.eq_nil_of_length_eq_zero h
  rcases s3.2 with ⟨rfl,h0⟩ | ⟨g,cq,cur,rfl,_,hgb,r1,_⟩
  ·exact form1_zero hS0 hR s1 s2 s3 s5 hnil hx hsx
  ·rw [h] at hS0 s3
   exact form1_zero hS0 hR s1 s2 (by rw [h];exact s3) s5 hnil hx hsx
 ·obtain ⟨g,cq,rfl,_,hgl⟩:=s3.form h
  exact form1_some hS0 hR s1 s2 s3 s5 h hx hsx
end Go.Proofs.YtcnnlecjdkfdjaaGreatDoor
