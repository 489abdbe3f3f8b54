/- Parts of the proof. -/
import Derived.Test.YtcnnlecjdkfdjaaGreatDoorMkS
set_option linter.unusedVariables false
set_option linter.unusedSimpArgs false
set_option maxRecDepth 100000
set_option maxHeartbeats 8000000
namespace Go.Proofs.YtcnnlecjdkfdjaaGreatDoor
open Go.RowKit
theorem info77:(Tryz.prog.info? 77).map (fun i=>(i.zero,i.size,i.bytes))=some (some (.agg #[.string ⟨#[]⟩,.slice none 0 0,.slice none 0 0]),3,64):=by kernel_rfl
theorem data1_any {c:Nat→Nat} {B:Nat} {l:List Tk} {p:Ps} {w:World} {bp bd:Nat} {s:List UInt8} {ns:List (List UInt8)} (hP:PM c B l p w) (hR:RuV B c w p.ru.length (.func (.func 220) #[] #[bx bp,bx bd]) (rData s ns)) (hx:p.ds.length≤1000000000) (hfm:p.fm.length≤1000000000) :
 Calls Tryz.prog 220 #[.pointer (some ⟨bp,0,none⟩),.pointer (some ⟨bd,0,none⟩)] w (RQ c B l w (.inr { p with ds:=p.ds ++ [⟨s,ns,p.fm⟩],fm:=[] })):=by
 obtain ⟨tp,tc,vr,ve,vs,vf,vd,vp,hS0⟩:=hP
 obtain ⟨bp',bd',pn,cn,hv,cp,ce,hp,he,t1,t3,t4⟩:=hR
 obtain ⟨rfl,rfl⟩:bp=bp'∧bd=bd':=by simpa using hv
 clear hv
 simp only [rData] at ce he t1 t3 t4
 obtain ⟨Lf,f1,f2,f3,f4,f5⟩:=hS0.fms
 obtain ⟨L,k1,k2,k3,k4,k5⟩:=hS0.dts
 obtain ⟨qf,cqf,hvf⟩:=slice_of f3
 obtain ⟨qd,cqd,hvd⟩:=slice_of k3
 have hBl:=hS0.hold.lt
 have cB:=hS0.colB
 have neB:bd≠B:=fun h=>by rw [h,cB] at ce;omega
 have npB:bp≠B:=fun h=>by rw [h,cB] at cp;omega
 have npe:bp≠bd:=fun h=>by rw [h,ce] at cp;omega
 have ned:some bd≠vd.ownBlock:=fun h=>by have:=k4 bd h.symm;rw [ce] at this;omega
 have npd:some bp≠vd.ownBlock:=fun h=>by have:=k4 bp h.symm;rw [cp] at this;omega
 have nBd:some B≠vd.ownBlock:=fun h=>by have:=k4 B h.symm;rw [cB] at this;omega
 have HS:=zz hS0
 have HE:=zz he
 have HPB:=zz hp
 have HBB:=zz hS0.hold
 have HK3:=zz k3
 have HF3:=zz f3
 have HF4:=zz f4
 have HF1:=zz f1
 have HF2:=zz f2
 have HF5:=zz f5
 have HT3:=zz t3
 have HT4:=zz t4
 have HK1:=zz k1
 have HK2:=zz k2
 have HK4:=zz k4
 have HK5:=zz k5
 have HVF:=zz hvf
 have HVD:=zz hvd
 have c1:=hp.cell 0
 have c2:=hS0.hold.cell 5
 have y1:=he.frozen 2
 have y2:=he.cell 2
 have y3:=(hS0.hold.other neB.symm 2 vf).frozen 5
 have y4:=(hS0.hold.other neB.symm 2 vf).cell 5
 simp only [lGA,lGS,lGZ] at c1 c2 y2 y4
 obtain ⟨i0,hi,hz0,hz1,hz2⟩:=info_parts info77
 clear hS0 he hp k1 k2 k3 k4 k5 f1 f2 f3 f4 f5 t3 t4 hvd
 subst hvf
 go_enter Tryz.func220,Tryz.ntmps220
 go_wp2_with fail
 refine wp_region_noPanic ?_
 refine region_J 10 (N:=7) (S:=(fun W':World=>W'.cell? ⟨bp,0,none⟩=some (.pointer (some ⟨B,0,none⟩))∧W'.cell? ⟨B,5,none⟩=some (.slice qf p.fm.length cqf))) (by kernel_rfl) (by kernel_rfl) ?_
 have hS:(fun W':World=>W'.cell? ⟨bp,0,none⟩=some (.pointer (some ⟨B,0,none⟩))∧W'.cell? ⟨B,5,none⟩=some (.slice qf p.fm.length cqf)) w.drew:=⟨c1,c2⟩
 refine take_E 0 2 (.pointer (some ⟨B,0,none⟩)) rfl (Or.inl ⟨by rfl,fun W' hW=>by obtain ⟨s0,s1⟩:=hW;go_simp⟩) hS ?_
 refine take_E 1 3 (.pointer (some ⟨B,0,none⟩)) rfl (Or.inl ⟨by rfl,fun W' hW=>by obtain ⟨s0,s1⟩:=hW;go_simp⟩) hS ?_
 refine take_E 2 4 (.pointer (some ⟨B,0,none⟩)) rfl (Or.inl ⟨by rfl,fun W' hW=>by obtain ⟨s0,s1⟩:=hW;go_simp⟩) hS ?_
 refine take_E 3 5 (.pointer (some ⟨B,5,none⟩)) rfl (Or.inl ⟨by rfl,fun W' hW=>by obtain ⟨s0,s1⟩:=hW;go_simp⟩) hS ?_
 refine take_E 4 6 (.slice qf p.fm.length cqf) rfl (Or.inl ⟨by rfl,fun W' hW=>by obtain ⟨s0,s1⟩:=hW;go_simp⟩) hS ?_
 refine take_E 5 7 (.pointer (some ⟨bd,2,none⟩)) rfl (Or.inl ⟨by rfl,fun W' hW=>by obtain ⟨s0,s1⟩:=hW;go_simp⟩) hS ?_
 simp only [Act.put,lSI,lSZ,lSS]
 refine ready_1 6 (op_E fun K hK=>?_)
 go_simp
 refine hK _ _ ⟨fun _=>⟨(HPB.out.other npe 2 (.slice qf p.fm.length cqf)).cell 0,y4⟩,?_⟩
 clear hK K
 refine ready_1 7 (op_E fun K hK=>?_)
 go_simp
 refine hK _ _ ⟨fun h=>absurd h (by omega),?_⟩
 clear hK K
 refine ready_1 8 (op_E fun K hK=>?_)
 go_simp
 refine hK _ _ ⟨fun h=>absurd h (by omega),?_⟩
 clear hK K
 refine ready_1 9 (op_E fun K hK=>?_)
 go_simp
 refine hK _ _ ⟨fun h=>absurd h (by omega),?_⟩
 clear hK K
 refine done_J (by kernel_rfl) ?_ _
 refine NoPanic.normal ?_
 have HE3:=zz (((HE.out.set 2 (.slice qf p.fm.length cqf)).other neB 5 (.slice none 0 0)))
 have HP3:=zz ((HPB.out.other npe 2 (.slice qf p.fm.length cqf)).other npB 5 (.slice none 0 0))
 have HB3:=zz ((HBB.out.other neB.symm 2 (.slice qf p.fm.length cqf)).set 5 (.slice none 0 0))
 have HK33:Hid (∀ b,b≠bd→b≠B→((w.setCell ⟨bd,2,none⟩ (.slice qf p.fm.length cqf)).setCell ⟨B,5,none⟩ (.slice none 0 0)).drew.heap[b]?=w.heap[b]?):=fun b h1 h2=>(Below.heap_setCell _ _ _ b h2).trans (Below.heap_setCell _ _ _ b h1)
 have HKO3:Hid (((w.setCell ⟨bd,2,none⟩ (.slice qf p.fm.length cqf)).setCell ⟨B,5,none⟩ (.slice none 0 0)).drew.os=w.os∧((w.setCell ⟨bd,2,none⟩ (.slice qf p.fm.length cqf)).setCell ⟨B,5,none⟩ (.slice none 0 0)).drew.tape=w.tape∧((w.setCell ⟨bd,2,none⟩ (.slice qf p.fm.length cqf)).setCell ⟨B,5,none⟩ (.slice none 0 0)).drew.output=w.output):=⟨rfl,rfl,rfl⟩
 have hz3:w.heap.size≤((w.setCell ⟨bd,2,none⟩ (.slice qf p.fm.length cqf)).setCell ⟨B,5,none⟩ (.slice none 0 0)).drew.heap.size:=by simp
 have HE3':Hid (Hold bd _ 77 ((w.setCell ⟨bd,2,none⟩ (.slice qf p.fm.length cqf)).setCell ⟨B,5,none⟩ (.slice none 0 0)).drew):=HE3.out
 have HP3':Hid (Hold bp _ 58 ((w.setCell ⟨bd,2,none⟩ (.slice qf p.fm.length cqf)).setCell ⟨B,5,none⟩ (.slice none 0 0)).drew):=HP3.out
 have HB3':Hid (Hold B _ 63 ((w.setCell ⟨bd,2,none⟩ (.slice qf p.fm.length cqf)).setCell ⟨B,5,none⟩ (.slice none 0 0)).drew):=HB3.out
 generalize ((w.setCell ⟨bd,2,none⟩ (.slice qf p.fm.length cqf)).setCell ⟨B,5,none⟩ (.slice none 0 0)).drew=W3 at *
 simp only [lSI,lSZ,lSS] at HE3' HB3'
 have HROW3:Hid (W3.ownsRow 0 77 3 vd p.ds.length L.flatten):=row_keep HK3.out fun g' hg' hl=>HK33.out g' (fun e=>ned (by rw [← e];exact hg'.symm)) (fun e=>nBd (by rw [← e];exact hg'.symm))
 have d0:=HE3'.out.cell 0
 have d4:=HE3'.out.cell 1
 have d5:=HE3'.out.cell 2
 have d1:=HP3'.out.cell 0
 have d2:=HB3'.out.cell 6
 simp only [lGA,lGS,lGZ] at d0 d1 d2 d4 d5
 clear HE3 HP3 HB3 c1 c2 y1 y2 y3 y4
 go_wp2_with fail
 refine wp_region_noPanic ?_
 refine region_J 13 (N:=9) (S:=(fun W':World=>W'.cell? ⟨bp,0,none⟩=some (.pointer (some ⟨B,0,none⟩))∧W'.cell? ⟨B,6,none⟩=some vd∧W'.cell? ⟨bd,0,none⟩=some (.string (S s))∧W'.cell? ⟨bd,1,none⟩=some (.slice pn ns.length cn)∧W'.cell? ⟨bd,2,none⟩=some (.slice qf p.fm.length cqf))) (by kernel_rfl) (by kernel_rfl) ?_
 have hS:(fun W':World=>W'.cell? ⟨bp,0,none⟩=some (.pointer (some ⟨B,0,none⟩))∧W'.cell? ⟨B,6,none⟩=some vd∧W'.cell? ⟨bd,0,none⟩=some (.string (S s))∧W'.cell? ⟨bd,1,none⟩=some (.slice pn ns.length cn)∧W'.cell? ⟨bd,2,none⟩=some (.slice qf p.fm.length cqf)) W3.drew:=⟨d1,d2,d0,d4,d5⟩
 refine take_E 0 10 (.pointer (some ⟨B,0,none⟩)) rfl (Or.inl ⟨by rfl,fun W' hW=>by obtain ⟨s0,s1,s2,s3,s4⟩:=hW;go_simp⟩) hS ?_
 refine take_E 1 11 (.pointer (some ⟨B,0,none⟩)) rfl (Or.inl ⟨by rfl,fun W' hW=>by obtain ⟨s0,s1,s2,s3,s4⟩:=hW;go_simp⟩) hS ?_
 refine take_E 2 12 (.pointer (some ⟨B,0,none⟩)) rfl (Or.inl ⟨by rfl,fun W' hW=>by obtain ⟨s0,s1,s2,s3,s4⟩:=hW;go_simp⟩) hS ?_
 refine take_E 3 13 (.pointer (some ⟨B,6,none⟩)) rfl (Or.inl ⟨by rfl,fun W' hW=>by obtain ⟨s0,s1,s2,s3,s4⟩:=hW;go_simp⟩) hS ?_
 refine take_E 4 14 (.pointer (some ⟨B,6,none⟩)) rfl (Or.inl ⟨by rfl,fun W' hW=>by obtain ⟨s0,s1,s2,s3,s4⟩:=hW;go_simp⟩) hS ?_
 refine take_E 5 15 (vd) rfl (Or.inl ⟨by rfl,fun W' hW=>by obtain ⟨s0,s1,s2,s3,s4⟩:=hW;go_simp⟩) hS ?_
 refine take_E 6 16 (.agg #[.string (S s),.slice pn ns.length cn,.slice qf p.fm.length cqf]) rfl (Or.inl ⟨by rfl,fun W' hW=>by obtain ⟨s0,s1,s2,s3,s4⟩:=hW;go_simp⟩) hS ?_
 simp only [Act.put,lSI,lSZ,lSS]
 refine ready_1 7 (op_E fun K hK=>?_)
 go_simp
 have x1:=(HP3'.out.alloc (.cells #[.string (S s),.slice pn ns.length cn,.slice qf p.fm.length cqf] 77)).cell 0
 have x2:=(HB3'.out.alloc (.cells #[.string (S s),.slice pn ns.length cn,.slice qf p.fm.length cqf] 77)).cell 6
 have x0:=(HE3'.out.alloc (.cells #[.string (S s),.slice pn ns.length cn,.slice qf p.fm.length cqf] 77)).cell 0
 have x4:=(HE3'.out.alloc (.cells #[.string (S s),.slice pn ns.length cn,.slice qf p.fm.length cqf] 77)).cell 1
 have x5:=(HE3'.out.alloc (.cells #[.string (S s),.slice pn ns.length cn,.slice qf p.fm.length cqf] 77)).cell 2
 simp only [lGA,lGS,lGZ] at x0 x1 x2 x4 x5
 refine hK _ _ ⟨fun _=>⟨x1,x2,x0,x4,x5⟩,?_⟩
 clear hK K
 refine ready_1 8 (op_E fun K hK=>?_)
 refine wp_append_lies _ _ _ _ (by rfl) 0 77 i0 _ 3 64 Tryz.underlying35 hi hz0 hz1 hz2 rfl (by omega) vd p.ds.length L.flatten (by rfl) ((HROW3.out.alloc (.cells #[.string (S s),.slice pn ns.length cn,.slice qf p.fm.length cqf] 77)).drew) ⟨W3.heap.size,0,none⟩ 1 1 [.string (S s),.slice pn ns.length cn,.slice qf p.fm.length cqf] (by rfl) (by rfl) (World.news_of_block (cs:=#[.string (S s),.slice pn ns.length cn,.slice qf p.fm.length cqf]) (t:=77) (fr:=(0,0)) (heap_alloc_new W3 _)) (by simp [Value.oneCell']) (by omega) (by unfold maxLen;omega) (by omega) (by omega) (W3.heap.size+1) (by simp) ?_
 intro g2 cap2 W5 hown5 hgrow5 hat5 hlt5'
 have kp5:∀ b,b<W3.heap.size→some b≠vd.ownBlock→W5.heap[b]?=W3.heap[b]?:=fun b hb hne=>(hgrow5.block b (by simp;omega) hne).trans (Below.heap_alloc W3 _ b hb)
 have hsz5:W3.heap.size+1≤W5.heap.size:=by have:=hgrow5.size;simpa using this
 have hold5:∀ {b:Nat} {C:Array Value} {t:TypeId},Hold b C t W3→some b≠vd.ownBlock→Hold b C t W5:=fun h hne=>(kp5 _ h.lt hne).trans h
 have HB5:=zz (hold5 HB3'.out nBd)
 have u1:=(hold5 HP3'.out npd).cell 0
 have u2:=HB5.out.cell 6
 have hE5:=hold5 HE3'.out ned
 have u0:=hE5.cell 0
 have u4:=hE5.cell 1
 have u5:=hE5.cell 2
 have uz:=HB5.out.frozen 6
 simp only [lGA,lGS,lGZ] at u0 u1 u2 u4 u5
 have HO5:=zz hown5
 have HG5:Hid (vd.ownBlock=some g2∨W3.heap.size<g2):=by
  rcases hat5 with h | h
  ·exact .inl h
  ·right;omega
 have HKK5:Hid (∀ b,b<W3.heap.size→some b≠vd.ownBlock→W5.heap[b]?=W3.heap[b]?):=kp5
 have HKO5:Hid (W5.os=w.os∧W5.tape=w.tape∧W5.output=w.output):=⟨hgrow5.os.trans HKO3.out.1,hgrow5.tape.trans HKO3.out.2.1,hgrow5.output.trans HKO3.out.2.2⟩
 refine hK _ _ ⟨fun _=>⟨u1,u2,u0,u4,u5⟩,?_⟩
 clear hK K hown5 hgrow5 hat5 kp5 hold5 hE5
 refine ready_1 9 (op_E fun K hK=>?_)
 go_simp
 refine hK _ _ ⟨fun h=>absurd h (by omega),?_⟩
 clear hK K
 refine ready_1 10 (op_E fun K hK=>?_)
 go_simp
 refine hK _ _ ⟨fun h=>absurd h (by omega),?_⟩
 clear hK K
 refine ready_1 11 (op_E fun K hK=>?_)
 go_simp
 refine hK _ _ ⟨fun h=>absurd h (by omega),?_⟩
 clear hK K
 refine ready_1 12 (op_E fun K hK=>?_)
 go_simp
 refine hK _ _ ⟨fun h=>absurd h (by omega),?_⟩
 clear hK K
 refine done_J (by kernel_rfl) ?_ _
 refine NoPanic.normal ?_
 go_wp2_with fail
 go_end0
 have HFK:∀ b,b<w.heap.size→b≠bd→b≠B→some b≠vd.ownBlock→(W5.setCell ⟨B,6,none⟩ (.slice (some ⟨g2,0,none⟩) (p.ds.length+1) cap2)).heap[b]?=w.heap[b]?:=fun b hb h1 h2 h3=>
  (Below.heap_setCell _ _ _ b h2).trans ((HKK5.out b (by omega) h3).trans (HK33.out b h1 h2))
 have hc0:∀ b,b<w.heap.size→c b≠5→(fun b=>if some b=(Value.slice qf p.fm.length cqf).ownBlock then 0 else if b<w.heap.size then c b else 6) b=c b:=fun b hb h5=>by
  have:some b≠(Value.slice qf p.fm.length cqf).ownBlock:=fun e=>h5 (HF4.out b e.symm)
  simp [this,hb]
 have st:Step c (fun b=>if some b=(Value.slice qf p.fm.length cqf).ownBlock then 0 else if b<w.heap.size then c b else 6) (fun k=>k≠1∧k≠5∧k≠6∧k≠10+p.ru.length) w (W5.setCell ⟨B,6,none⟩ (.slice (some ⟨g2,0,none⟩) (p.ds.length+1) cap2)):=
  ⟨⟨HKO5.out.1,HKO5.out.2.1,HKO5.out.2.2,by simp;omega,fun b hb=>HFK b hb.1 (fun e'=>hb.2.2.2.2 (by rw [e'];exact ce)) (fun e'=>hb.2.1 (by rw [e'];exact cB)) (fun e'=>hb.2.2.2.1 (HK4.out b e'.symm))⟩,fun b hb hd=>hc0 b hb hd.2.1⟩
 have hD0:(fun k=>k≠1∧k≠5∧k≠6∧k≠10+p.ru.length) 0:=⟨by decide,by decide,by decide,by omega⟩
 have hD:∀ k,k≤7→k≠1→k≠5→k≠6→(fun k=>k≠1∧k≠5∧k≠6∧k≠10+p.ru.length) k:=fun k h1 h2 h3 h4=>⟨h2,h3,h4,by omega⟩
 refine ⟨rfl,_,⟨tp,tc,vr,ve,vs,.slice none 0 0,_,vp,HB5.out.set 6 _,(hc0 B hBl (by omega)).trans cB,HS.out.ktoks st hD0,HS.out.len,HS.out.at',HS.out.krul st hD0 (hD 2 (by decide) (by decide) (by decide) (by decide)) (fun i hi=>⟨by omega,by omega,by omega,by omega⟩),HS.out.kexs st hD0 (hD 3 (by decide) (by decide) (by decide) (by decide)),HS.out.ksgs st hD0 (hD 4 (by decide) (by decide) (by decide) (by decide)),RowOf.nil _ _ _ _ _ _,?_,HS.out.kdfs st hD0 (hD 7 (by decide) (by decide) (by decide) (by decide))⟩,st.imm hD0,st.kimm hD0⟩
 refine RowOf.push (w:=w) (c:=c) (R:=fun _ t ds=>DtIn (Im0 c w) w t ds) (L:=L) HK1.out HK2.out HK5.out (ds:=[.string (S s),.slice pn ns.length cn,.slice qf p.fm.length cqf]) rfl ?_ ?_ (fun i t' ds _ h=>DtIn.keep (st.kimm0 hD0) (st.imm0 hD0) t' ds h) ?_
 ·exact row_other HO5.out HB5.out (by decide) 6 _
 ·intro g' hg'
  have:g2=g':=by simpa [Value.ownBlock] using hg'
  subst this
  rcases HG5.out with h | h
  ·have h6:=HK4.out g2 h
   have hl:g2<w.heap.size:=by
    rcases HK3.out.2 with ⟨e,_⟩ | ⟨g',cap,cur,e,_,hgb,_⟩
    ·rw [e] at h;cases h
    ·rw [e] at h
     have:g'=g2:=by simpa [Value.ownBlock] using h
     subst this
     exact (Array.getElem?_eq_some_iff.1 hgb).1
   exact (hc0 g2 hl (by omega)).trans h6
  ·have h5:some g2≠(Value.slice qf p.fm.length cqf).ownBlock:=fun e=>by
    rcases HF3.out.2 with ⟨e1,_⟩ | ⟨g',cap,cur,e1,_,hgb,_⟩
    ·rw [e1] at e;cases e
    ·rw [e1] at e
     have:g2=g':=by simpa [Value.ownBlock] using e
     have:=(Array.getElem?_eq_some_iff.1 hgb).1
     omega
   simp [h5,show ¬ g2<w.heap.size by omega]
 ·refine ⟨pn,cn,qf,cqf,rfl,t1,HT3.out,?_,(HT4.out.keep (st.kimm0 hD0)).mono (st.imm0 hD0),?_⟩
  ·rcases HF3.out.2 with ⟨e1,h0⟩ | ⟨g',cap,cur,e1,_,hgb,r1,r2,_⟩
   ·injection e1 with ea eb ed
    exact ⟨by show p.fm.length≤cqf;omega,by omega,fun _=>ed⟩
   ·cases e1
    exact ⟨r1,by unfold maxLen at r2;omega,fun h=>by cases h⟩
  ·have hrf:=HF3.out
   rcases HF3.out.2 with ⟨e1,h0⟩ | ⟨g',cap,cur,e1,_,hgb,r1,r2,_⟩
   ·exact .inl (List.eq_nil_of_length_eq_zero h0)
   ·cases e1
    have hgl:=(Array.getElem?_eq_some_iff.1 hgb).1
    have hcg:c g'=5:=HF4.out g' rfl
    have hsame:(W5.setCell ⟨B,6,none⟩ (.slice (some ⟨g2,0,none⟩) (p.ds.length+1) cap2)).heap[g']?=w.heap[g']?:=HFK g' hgl (fun e=>by rw [e,ce] at hcg;omega) (fun e=>by rw [e,cB] at hcg;omega) (fun e=>by rw [HK4.out g' e.symm] at hcg;omega)
    refine .inr ⟨g',0,rfl,⟨⟨by simp;omega,by simp [Value.ownBlock]⟩,⟨cur,_,hsame.trans hgb,by decide⟩⟩,fun i t ht=>?_⟩
    obtain ⟨ds,h6,h7⟩:=HF5.out i t ht
    have hd:=HF2.out ds (List.mem_of_getElem? h6)
    refine ⟨ds,hd,fun j d hj=>?_,FmIn.keep (st.kimm0 hD0) (st.imm0 hD0) t ds h7⟩
    have hjl:=(List.getElem?_eq_some_iff.1 hj).1
    rw [Nat.zero_add]
    refine (World.cell?_of_block (a:=⟨g',i * 2+j,none⟩) hsame).trans (row_cell hrf ?_)
    rw [flatten_at HF2.out h6 (by omega)]
    exact hj
theorem info79:(Tryz.prog.info? 79).map (fun i=>(i.zero,i.size,i.bytes))=some (some (.agg #[.string ⟨#[]⟩,.int .i64 0,.string ⟨#[]⟩,.int .i64 0,.slice none 0 0,.slice none 0 0]),6,96):=by kernel_rfl
theorem cell_drew' (W:World) (a:Addr):W.drew.cell? a=W.cell? a:=rfl
theorem hold_drew {b:Nat} {C:Array Value} {t:TypeId} {W:World} (h:Hold b C t W):Hold b C t W.drew:=h
theorem def1_any {c:Nat→Nat} {B:Nat} {l:List Tk} {p:Ps} {w:World} {bp bd:Nat} {s:List UInt8} (hP:PM c B l p w) (hR:RuV B c w p.ru.length (.func (.func 221) #[] #[bx bp,bx bd]) (rDef s)) (hx:p.fs.length≤1000000000) (h1:1≤p.ex.length) (hex:p.ex.length≤1000000000) :
 Calls Tryz.prog 221 #[.pointer (some ⟨bp,0,none⟩),.pointer (some ⟨bd,0,none⟩)] w (RQ c B l w (.inr { p with fs:=p.fs ++ [⟨s,p.ex.headD t0⟩],ex:=[] })):=by
 obtain ⟨tp,tc,vr,ve,vs,vf,vd,vp,hS0⟩:=hP
 obtain ⟨bp',bd',hv,cp,ce,hp,he,t1⟩:=hR
 obtain ⟨rfl,rfl⟩:bp=bp'∧bd=bd':=by simpa using hv
 clear hv
 simp only [rDef] at ce he t1
 obtain ⟨t,hth,htx⟩:∃ t,p.ex[0]?=some t∧p.ex.headD t0=t:=by
  cases hpe:p.ex with
  | nil=>rw [hpe] at h1;simp at h1
  | cons a r=>exact ⟨a,rfl,rfl⟩
 rw [htx]
 obtain ⟨Lx,f1,f2,f3,f4,f5⟩:=hS0.exs
 obtain ⟨g,cq,rfl,_,hgl⟩:=f3.form (by omega)
 have cg:c g=3:=f4 g rfl
 obtain ⟨ds0,f6,f7⟩:=f5 0 t hth
 have HTR:=zz f7
 rw [TrIn_iff] at f7
 obtain ⟨pn,cn,pk,ck,rfl,_⟩:=f7
 have fc:∀ j v,[.int .i64 t.kd,.string (S t.nm),.int .i64 t.nu,.slice pn t.ns.length cn,.slice pk t.ks.length ck][j]?=some v→w.cell? ⟨g,j,none⟩=some v:=fun j v hj=>by
  refine row_cell f3 ?_
  have hjl:=(List.getElem?_eq_some_iff.1 hj).1
  have:=flatten_at (i:=0) (j:=j) f2 f6 (by simpa using hjl)
  rw [Nat.zero_mul,Nat.zero_add] at this
  rw [this];exact hj
 have g0:=fc 0 _ rfl
 have g1:=fc 1 _ rfl
 have g2:=fc 2 _ rfl
 have g3:=fc 3 _ rfl
 have g4:=fc 4 _ rfl
 obtain ⟨L,k1,k2,k3,k4,k5⟩:=hS0.dfs
 have hBl:=hS0.hold.lt
 have cB:=hS0.colB
 have neB:bd≠B:=fun h=>by rw [h,cB] at ce;omega
 have npB:bp≠B:=fun h=>by rw [h,cB] at cp;omega
 have npe:bp≠bd:=fun h=>by rw [h,ce] at cp;omega
 have neg:bd≠g:=fun h=>by rw [h,cg] at ce;omega
 have ned:some bd≠vp.ownBlock:=fun h=>by have:=k4 bd h.symm;rw [ce] at this;omega
 have npd:some bp≠vp.ownBlock:=fun h=>by have:=k4 bp h.symm;rw [cp] at this;omega
 have nBd:some B≠vp.ownBlock:=fun h=>by have:=k4 B h.symm;rw [cB] at this;omega
 have HS:=zz hS0
 have HE:=zz he
 have HPB:=zz hp
 have HBB:=zz hS0.hold
 have HK3:=zz k3
 have HK1:=zz k1
 have HK2:=zz k2
 have HK4:=zz k4
 have HK5:=zz k5
 have c1:=hp.cell 0
 have c2:=hS0.hold.cell 3
 have y1:=he.frozen 1
 have y2:=he.frozen 2
 have y3:=he.frozen 3
 have y4:=he.frozen 4
 have y5:=he.frozen 5
 have z1:=he.cell 1
 have z2:=he.cell 2
 have z3:=he.cell 3
 have z4:=he.cell 4
 have z5:=he.cell 5
 simp only [lGA,lGS,lGZ] at c1 c2 z1 z2 z3 z4 z5
 obtain ⟨i0,hi,hz0,hz1,hz2⟩:=info_parts info79
 obtain ⟨n,hnn⟩:∃ n,n=p.ex.length:=⟨_,rfl⟩
 rw [← hnn] at h1 hex c2
 have HNN:=zz hnn
 clear hnn
 have h1':(0:Int)<(n:Int):=by omega
 have h1n:0<n:=by omega
 clear hS0 he hp k1 k2 k3 k4 k5 f1 f2 f3 f4 f5 f6 fc hth htx
 go_enter Tryz.func221,Tryz.ntmps221
 go_wp2_with fail
 refine wp_region_noPanic ?_
 refine region_J 12 (N:=9) (S:=(fun W':World=>W'.cell? ⟨bp,0,none⟩=some (.pointer (some ⟨B,0,none⟩))∧W'.cell? ⟨B,3,none⟩=some (.slice (some ⟨g,0,none⟩) n cq)∧W'.cell? ⟨g,0,none⟩=some (.int .i64 t.kd)∧W'.cell? ⟨g,1,none⟩=some (.string (S t.nm))∧W'.cell? ⟨g,2,none⟩=some (.int .i64 t.nu)∧W'.cell? ⟨g,3,none⟩=some (.slice pn t.ns.length cn)∧W'.cell? ⟨g,4,none⟩=some (.slice pk t.ks.length ck))) (by kernel_rfl) (by kernel_rfl) ?_
 have hS:(fun W':World=>W'.cell? ⟨bp,0,none⟩=some (.pointer (some ⟨B,0,none⟩))∧W'.cell? ⟨B,3,none⟩=some (.slice (some ⟨g,0,none⟩) n cq)∧W'.cell? ⟨g,0,none⟩=some (.int .i64 t.kd)∧W'.cell? ⟨g,1,none⟩=some (.string (S t.nm))∧W'.cell? ⟨g,2,none⟩=some (.int .i64 t.nu)∧W'.cell? ⟨g,3,none⟩=some (.slice pn t.ns.length cn)∧W'.cell? ⟨g,4,none⟩=some (.slice pk t.ks.length ck)) w.drew:=⟨c1,c2,g0,g1,g2,g3,g4⟩
 refine take_E 0 2 (.pointer (some ⟨B,0,none⟩)) rfl (Or.inl ⟨by rfl,fun W' hW=>by obtain ⟨s0,s1,s2,s3,s4,s5,s6⟩:=hW;go_simp⟩) hS ?_
 refine take_E 1 3 (.pointer (some ⟨B,0,none⟩)) rfl (Or.inl ⟨by rfl,fun W' hW=>by obtain ⟨s0,s1,s2,s3,s4,s5,s6⟩:=hW;go_simp⟩) hS ?_
 refine take_E 2 4 (.pointer (some ⟨B,0,none⟩)) rfl (Or.inl ⟨by rfl,fun W' hW=>by obtain ⟨s0,s1,s2,s3,s4,s5,s6⟩:=hW;go_simp⟩) hS ?_
 refine take_E 3 5 (.pointer (some ⟨B,3,none⟩)) rfl (Or.inl ⟨by rfl,fun W' hW=>by obtain ⟨s0,s1,s2,s3,s4,s5,s6⟩:=hW;go_simp⟩) hS ?_
 refine take_E 4 6 (.slice (some ⟨g,0,none⟩) n cq) rfl (Or.inl ⟨by rfl,fun W' hW=>by obtain ⟨s0,s1,s2,s3,s4,s5,s6⟩:=hW;go_simp⟩) hS ?_
 refine take_E 5 7 (.pointer (some ⟨g,0,none⟩)) rfl (Or.inl ⟨by rfl,fun W' hW=>by obtain ⟨s0,s1,s2,s3,s4,s5,s6⟩:=hW;go_simp⟩) hS ?_
 refine take_E 6 8 (.agg #[.int .i64 t.kd,.string (S t.nm),.int .i64 t.nu,.slice pn t.ns.length cn,.slice pk t.ks.length ck]) rfl (Or.inl ⟨by rfl,fun W' hW=>by obtain ⟨s0,s1,s2,s3,s4,s5,s6⟩:=hW;go_simp⟩) hS ?_
 refine take_E 7 9 (.pointer (some ⟨bd,1,none⟩)) rfl (Or.inl ⟨by rfl,fun W' hW=>by obtain ⟨s0,s1,s2,s3,s4,s5,s6⟩:=hW;go_simp⟩) hS ?_
 simp only [Act.put,lSI,lSZ,lSS]
 refine ready_1 8 (op_E fun K hK=>?_)
 go_simp
 have HB2:=zz (((((HBB.out.other neB.symm 1 (.int .i64 t.kd)).other neB.symm 2 (.string (S t.nm))).other neB.symm 3 (.int .i64 t.nu)).other neB.symm 4 (.slice pn t.ns.length cn)).other neB.symm 5 (.slice pk t.ks.length ck))
 have HP2:=zz (((((HPB.out.other npe 1 (.int .i64 t.kd)).other npe 2 (.string (S t.nm))).other npe 3 (.int .i64 t.nu)).other npe 4 (.slice pn t.ns.length cn)).other npe 5 (.slice pk t.ks.length ck))
 have HE2:=zz (((((HE.out.set 1 (.int .i64 t.kd)).set 2 (.string (S t.nm))).set 3 (.int .i64 t.nu)).set 4 (.slice pn t.ns.length cn)).set 5 (.slice pk t.ks.length ck))
 have KG:Hid (∀ b,b≠bd→(((((w.setCell ⟨bd,1,none⟩ (.int .i64 t.kd)).setCell ⟨bd,2,none⟩ (.string (S t.nm))).setCell ⟨bd,3,none⟩ (.int .i64 t.nu)).setCell ⟨bd,4,none⟩ (.slice pn t.ns.length cn)).setCell ⟨bd,5,none⟩ (.slice pk t.ks.length ck)).heap[b]?=w.heap[b]?):=fun b hb=>(Below.heap_setCell _ _ _ b hb).trans ((Below.heap_setCell _ _ _ b hb).trans ((Below.heap_setCell _ _ _ b hb).trans ((Below.heap_setCell _ _ _ b hb).trans (Below.heap_setCell _ _ _ b hb))))
 have v1:=HP2.out.cell 0
 have v2:=HB2.out.cell 3
 have v3:=HB2.out.frozen 3
 simp only [lGA,lGS,lGZ] at v1 v2
 rw [← HNN.out] at v2
 have KC:∀ j,(((((w.setCell ⟨bd,1,none⟩ (.int .i64 t.kd)).setCell ⟨bd,2,none⟩ (.string (S t.nm))).setCell ⟨bd,3,none⟩ (.int .i64 t.nu)).setCell ⟨bd,4,none⟩ (.slice pn t.ns.length cn)).setCell ⟨bd,5,none⟩ (.slice pk t.ks.length ck)).cell? ⟨g,j,none⟩=w.cell? ⟨g,j,none⟩:=fun j=>World.cell?_of_block (a:=⟨g,j,none⟩) (KG.out g neg.symm)
 refine hK _ _ ⟨fun _=>⟨(cell_drew' _ _).trans v1,(cell_drew' _ _).trans v2,(cell_drew' _ _).trans ((KC 0).trans g0),(cell_drew' _ _).trans ((KC 1).trans g1),(cell_drew' _ _).trans ((KC 2).trans g2),(cell_drew' _ _).trans ((KC 3).trans g3),(cell_drew' _ _).trans ((KC 4).trans g4)⟩,?_⟩
 clear hK K KC
 refine ready_1 9 (op_E fun K hK=>?_)
 go_simp
 refine hK _ _ ⟨fun h=>absurd h (by omega),?_⟩
 clear hK K
 refine ready_1 10 (op_E fun K hK=>?_)
 go_simp
 refine hK _ _ ⟨fun h=>absurd h (by omega),?_⟩
 clear hK K
 refine ready_1 11 (op_E fun K hK=>?_)
 go_simp
 refine hK _ _ ⟨fun h=>absurd h (by omega),?_⟩
 clear hK K
 refine done_J (by kernel_rfl) ?_ _
 refine NoPanic.normal ?_
 have HE3:Hid (Hold bd _ 79 ((((((w.setCell ⟨bd,1,none⟩ (.int .i64 t.kd)).setCell ⟨bd,2,none⟩ (.string (S t.nm))).setCell ⟨bd,3,none⟩ (.int .i64 t.nu)).setCell ⟨bd,4,none⟩ (.slice pn t.ns.length cn)).setCell ⟨bd,5,none⟩ (.slice pk t.ks.length ck)).setCell ⟨B,3,none⟩ (.slice none 0 0)).drew):=hold_drew (HE2.out.other neB 3 (.slice none 0 0))
 have HP3:Hid (Hold bp _ 58 ((((((w.setCell ⟨bd,1,none⟩ (.int .i64 t.kd)).setCell ⟨bd,2,none⟩ (.string (S t.nm))).setCell ⟨bd,3,none⟩ (.int .i64 t.nu)).setCell ⟨bd,4,none⟩ (.slice pn t.ns.length cn)).setCell ⟨bd,5,none⟩ (.slice pk t.ks.length ck)).setCell ⟨B,3,none⟩ (.slice none 0 0)).drew):=hold_drew (HP2.out.other npB 3 (.slice none 0 0))
 have HB3:Hid (Hold B _ 63 ((((((w.setCell ⟨bd,1,none⟩ (.int .i64 t.kd)).setCell ⟨bd,2,none⟩ (.string (S t.nm))).setCell ⟨bd,3,none⟩ (.int .i64 t.nu)).setCell ⟨bd,4,none⟩ (.slice pn t.ns.length cn)).setCell ⟨bd,5,none⟩ (.slice pk t.ks.length ck)).setCell ⟨B,3,none⟩ (.slice none 0 0)).drew):=hold_drew (HB2.out.set 3 (.slice none 0 0))
 have KPW:KP (fun b=>b≠bd∧b≠B) w ((((((w.setCell ⟨bd,1,none⟩ (.int .i64 t.kd)).setCell ⟨bd,2,none⟩ (.string (S t.nm))).setCell ⟨bd,3,none⟩ (.int .i64 t.nu)).setCell ⟨bd,4,none⟩ (.slice pn t.ns.length cn)).setCell ⟨bd,5,none⟩ (.slice pk t.ks.length ck)).setCell ⟨B,3,none⟩ (.slice none 0 0)).drew:=((((((KP.setCell w bd 1 _ (fun h=>h.1 rfl)).trans (KP.setCell _ bd 2 _ (fun h=>h.1 rfl))).trans (KP.setCell _ bd 3 _ (fun h=>h.1 rfl))).trans (KP.setCell _ bd 4 _ (fun h=>h.1 rfl))).trans (KP.setCell _ bd 5 _ (fun h=>h.1 rfl))).trans (KP.setCell _ B 3 _ (fun h=>h.2 rfl))).drew
 have HK33:Hid (∀ b,b≠bd→b≠B→((((((w.setCell ⟨bd,1,none⟩ (.int .i64 t.kd)).setCell ⟨bd,2,none⟩ (.string (S t.nm))).setCell ⟨bd,3,none⟩ (.int .i64 t.nu)).setCell ⟨bd,4,none⟩ (.slice pn t.ns.length cn)).setCell ⟨bd,5,none⟩ (.slice pk t.ks.length ck)).setCell ⟨B,3,none⟩ (.slice none 0 0)).drew.heap[b]?=w.heap[b]?):=fun b h1 h2=>KPW.block b ⟨h1,h2⟩
 have HKO3:Hid (((((((w.setCell ⟨bd,1,none⟩ (.int .i64 t.kd)).setCell ⟨bd,2,none⟩ (.string (S t.nm))).setCell ⟨bd,3,none⟩ (.int .i64 t.nu)).setCell ⟨bd,4,none⟩ (.slice pn t.ns.length cn)).setCell ⟨bd,5,none⟩ (.slice pk t.ks.length ck)).setCell ⟨B,3,none⟩ (.slice none 0 0)).drew.os=w.os∧((((((w.setCell ⟨bd,1,none⟩ (.int .i64 t.kd)).setCell ⟨bd,2,none⟩ (.string (S t.nm))).setCell ⟨bd,3,none⟩ (.int .i64 t.nu)).setCell ⟨bd,4,none⟩ (.slice pn t.ns.length cn)).setCell ⟨bd,5,none⟩ (.slice pk t.ks.length ck)).setCell ⟨B,3,none⟩ (.slice none 0 0)).drew.tape=w.tape∧((((((w.setCell ⟨bd,1,none⟩ (.int .i64 t.kd)).setCell ⟨bd,2,none⟩ (.string (S t.nm))).setCell ⟨bd,3,none⟩ (.int .i64 t.nu)).setCell ⟨bd,4,none⟩ (.slice pn t.ns.length cn)).setCell ⟨bd,5,none⟩ (.slice pk t.ks.length ck)).setCell ⟨B,3,none⟩ (.slice none 0 0)).drew.output=w.output):=⟨KPW.os,KPW.tape,KPW.output⟩
 have hz3:w.heap.size≤((((((w.setCell ⟨bd,1,none⟩ (.int .i64 t.kd)).setCell ⟨bd,2,none⟩ (.string (S t.nm))).setCell ⟨bd,3,none⟩ (.int .i64 t.nu)).setCell ⟨bd,4,none⟩ (.slice pn t.ns.length cn)).setCell ⟨bd,5,none⟩ (.slice pk t.ks.length ck)).setCell ⟨B,3,none⟩ (.slice none 0 0)).drew.heap.size:=KPW.size
 clear KPW
 clear HE2 HP2 HB2 KG v1 v2 v3
 generalize ((((((w.setCell ⟨bd,1,none⟩ (.int .i64 t.kd)).setCell ⟨bd,2,none⟩ (.string (S t.nm))).setCell ⟨bd,3,none⟩ (.int .i64 t.nu)).setCell ⟨bd,4,none⟩ (.slice pn t.ns.length cn)).setCell ⟨bd,5,none⟩ (.slice pk t.ks.length ck)).setCell ⟨B,3,none⟩ (.slice none 0 0)).drew=W3 at *
 simp only [lSI,lSZ,lSS] at HE3 HB3
 have HROW3:Hid (W3.ownsRow 0 79 6 vp p.fs.length L.flatten):=row_keep HK3.out fun g' hg' hl=>HK33.out g' (fun e=>ned (by rw [← e];exact hg'.symm)) (fun e=>nBd (by rw [← e];exact hg'.symm))
 have d0:=HE3.out.cell 0
 have d3:=HE3.out.cell 1
 have d4:=HE3.out.cell 2
 have d5:=HE3.out.cell 3
 have d6:=HE3.out.cell 4
 have d7:=HE3.out.cell 5
 have d1:=HP3.out.cell 0
 have d2:=HB3.out.cell 7
 simp only [lGA,lGS,lGZ] at d0 d1 d2 d3 d4 d5 d6 d7
 clear c1 c2 y1 y2 y3 y4 y5 z1 z2 z3 z4 z5 g0 g1 g2 g3 g4 hS
 go_wp2_with fail
 refine wp_region_noPanic ?_
 refine region_J 13 (N:=9) (S:=(fun W':World=>W'.cell? ⟨bp,0,none⟩=some (.pointer (some ⟨B,0,none⟩))∧W'.cell? ⟨B,7,none⟩=some vp∧W'.cell? ⟨bd,0,none⟩=some (.string (S s))∧W'.cell? ⟨bd,1,none⟩=some (.int .i64 t.kd)∧W'.cell? ⟨bd,2,none⟩=some (.string (S t.nm))∧W'.cell? ⟨bd,3,none⟩=some (.int .i64 t.nu)∧W'.cell? ⟨bd,4,none⟩=some (.slice pn t.ns.length cn)∧W'.cell? ⟨bd,5,none⟩=some (.slice pk t.ks.length ck))) (by kernel_rfl) (by kernel_rfl) ?_
 have hS:(fun W':World=>W'.cell? ⟨bp,0,none⟩=some (.pointer (some ⟨B,0,none⟩))∧W'.cell? ⟨B,7,none⟩=some vp∧W'.cell? ⟨bd,0,none⟩=some (.string (S s))∧W'.cell? ⟨bd,1,none⟩=some (.int .i64 t.kd)∧W'.cell? ⟨bd,2,none⟩=some (.string (S t.nm))∧W'.cell? ⟨bd,3,none⟩=some (.int .i64 t.nu)∧W'.cell? ⟨bd,4,none⟩=some (.slice pn t.ns.length cn)∧W'.cell? ⟨bd,5,none⟩=some (.slice pk t.ks.length ck)) W3.drew:=⟨d1,d2,d0,d3,d4,d5,d6,d7⟩
 refine take_E 0 12 (.pointer (some ⟨B,0,none⟩)) rfl (Or.inl ⟨by rfl,fun W' hW=>by obtain ⟨s0,s1,s2,s3,s4,s5,s6,s7⟩:=hW;go_simp⟩) hS ?_
 refine take_E 1 13 (.pointer (some ⟨B,0,none⟩)) rfl (Or.inl ⟨by rfl,fun W' hW=>by obtain ⟨s0,s1,s2,s3,s4,s5,s6,s7⟩:=hW;go_simp⟩) hS ?_
 refine take_E 2 14 (.pointer (some ⟨B,0,none⟩)) rfl (Or.inl ⟨by rfl,fun W' hW=>by obtain ⟨s0,s1,s2,s3,s4,s5,s6,s7⟩:=hW;go_simp⟩) hS ?_
 refine take_E 3 15 (.pointer (some ⟨B,6,none⟩)) rfl (Or.inl ⟨by rfl,fun W' hW=>by obtain ⟨s0,s1,s2,s3,s4,s5,s6,s7⟩:=hW;go_simp⟩) hS ?_
 refine take_E 4 16 (.pointer (some ⟨B,7,none⟩)) rfl (Or.inl ⟨by rfl,fun W' hW=>by obtain ⟨s0,s1,s2,s3,s4,s5,s6,s7⟩:=hW;go_simp⟩) hS ?_
 refine take_E 5 17 (vp) rfl (Or.inl ⟨by rfl,fun W' hW=>by obtain ⟨s0,s1,s2,s3,s4,s5,s6,s7⟩:=hW;go_simp⟩) hS ?_
 refine take_E 6 18 (.agg #[.string (S s),.int .i64 t.kd,.string (S t.nm),.int .i64 t.nu,.slice pn t.ns.length cn,.slice pk t.ks.length ck]) rfl (Or.inl ⟨by rfl,fun W' hW=>by obtain ⟨s0,s1,s2,s3,s4,s5,s6,s7⟩:=hW;go_simp⟩) hS ?_
 simp only [Act.put,lSI,lSZ,lSS]
 refine ready_1 7 (op_E fun K hK=>?_)
 go_simp
 have x1:=(HP3.out.alloc (.cells #[.string (S s),.int .i64 t.kd,.string (S t.nm),.int .i64 t.nu,.slice pn t.ns.length cn,.slice pk t.ks.length ck] 79)).cell 0
 have x2:=(HB3.out.alloc (.cells #[.string (S s),.int .i64 t.kd,.string (S t.nm),.int .i64 t.nu,.slice pn t.ns.length cn,.slice pk t.ks.length ck] 79)).cell 7
 have x0:=(HE3.out.alloc (.cells #[.string (S s),.int .i64 t.kd,.string (S t.nm),.int .i64 t.nu,.slice pn t.ns.length cn,.slice pk t.ks.length ck] 79)).cell 0
 have x3:=(HE3.out.alloc (.cells #[.string (S s),.int .i64 t.kd,.string (S t.nm),.int .i64 t.nu,.slice pn t.ns.length cn,.slice pk t.ks.length ck] 79)).cell 1
 have x4:=(HE3.out.alloc (.cells #[.string (S s),.int .i64 t.kd,.string (S t.nm),.int .i64 t.nu,.slice pn t.ns.length cn,.slice pk t.ks.length ck] 79)).cell 2
 have x5:=(HE3.out.alloc (.cells #[.string (S s),.int .i64 t.kd,.string (S t.nm),.int .i64 t.nu,.slice pn t.ns.length cn,.slice pk t.ks.length ck] 79)).cell 3
 have x6:=(HE3.out.alloc (.cells #[.string (S s),.int .i64 t.kd,.string (S t.nm),.int .i64 t.nu,.slice pn t.ns.length cn,.slice pk t.ks.length ck] 79)).cell 4
 have x7:=(HE3.out.alloc (.cells #[.string (S s),.int .i64 t.kd,.string (S t.nm),.int .i64 t.nu,.slice pn t.ns.length cn,.slice pk t.ks.length ck] 79)).cell 5
 simp only [lGA,lGS,lGZ] at x0 x1 x2 x3 x4 x5 x6 x7
 refine hK _ _ ⟨fun _=>⟨x1,x2,x0,x3,x4,x5,x6,x7⟩,?_⟩
 clear hK K
 refine ready_1 8 (op_E fun K hK=>?_)
 refine wp_append_lies _ _ _ _ (by rfl) 0 79 i0 _ 6 96 Tryz.underlying36 hi hz0 hz1 hz2 rfl (by omega) vp p.fs.length L.flatten (by rfl) ((HROW3.out.alloc (.cells #[.string (S s),.int .i64 t.kd,.string (S t.nm),.int .i64 t.nu,.slice pn t.ns.length cn,.slice pk t.ks.length ck] 79)).drew) ⟨W3.heap.size,0,none⟩ 1 1 [.string (S s),.int .i64 t.kd,.string (S t.nm),.int .i64 t.nu,.slice pn t.ns.length cn,.slice pk t.ks.length ck] (by rfl) (by rfl) (World.news_of_block (cs:=#[.string (S s),.int .i64 t.kd,.string (S t.nm),.int .i64 t.nu,.slice pn t.ns.length cn,.slice pk t.ks.length ck]) (t:=79) (fr:=(0,0)) (heap_alloc_new W3 _)) (by simp [Value.oneCell']) (by omega) (by unfold maxLen;omega) (by omega) (by omega) (W3.heap.size+1) (by simp) ?_
 intro g2 cap2 W5 hown5 hgrow5 hat5 hlt5'
 have kp5:∀ b,b<W3.heap.size→some b≠vp.ownBlock→W5.heap[b]?=W3.heap[b]?:=fun b hb hne=>(hgrow5.block b (by simp;omega) hne).trans (Below.heap_alloc W3 _ b hb)
 have hsz5:W3.heap.size+1≤W5.heap.size:=by have:=hgrow5.size;simpa using this
 have hold5:∀ {b:Nat} {C:Array Value} {t:TypeId},Hold b C t W3→some b≠vp.ownBlock→Hold b C t W5:=fun h hne=>(kp5 _ h.lt hne).trans h
 have HB5:=zz (hold5 HB3.out nBd)
 have u1:=(hold5 HP3.out npd).cell 0
 have u2:=HB5.out.cell 7
 have hE5:=hold5 HE3.out ned
 have u0:=hE5.cell 0
 have u3:=hE5.cell 1
 have u4:=hE5.cell 2
 have u5:=hE5.cell 3
 have u6:=hE5.cell 4
 have u7:=hE5.cell 5
 have uz:=HB5.out.frozen 7
 simp only [lGA,lGS,lGZ] at u0 u1 u2 u3 u4 u5 u6 u7
 have HO5:=zz hown5
 have HG5:Hid (vp.ownBlock=some g2∨W3.heap.size<g2):=by
  rcases hat5 with h | h
  ·exact .inl h
  ·right;omega
 have HKK5:Hid (∀ b,b<W3.heap.size→some b≠vp.ownBlock→W5.heap[b]?=W3.heap[b]?):=kp5
 have HKO5:Hid (W5.os=w.os∧W5.tape=w.tape∧W5.output=w.output):=⟨hgrow5.os.trans HKO3.out.1,hgrow5.tape.trans HKO3.out.2.1,hgrow5.output.trans HKO3.out.2.2⟩
 refine hK _ _ ⟨fun _=>⟨u1,u2,u0,u3,u4,u5,u6,u7⟩,?_⟩
 clear hK K hown5 hgrow5 hat5 kp5 hold5 hE5
 refine ready_1 9 (op_E fun K hK=>?_)
 go_simp
 refine hK _ _ ⟨fun h=>absurd h (by omega),?_⟩
 clear hK K
 refine ready_1 10 (op_E fun K hK=>?_)
 go_simp
 refine hK _ _ ⟨fun h=>absurd h (by omega),?_⟩
 clear hK K
 refine ready_1 11 (op_E fun K hK=>?_)
 go_simp
 refine hK _ _ ⟨fun h=>absurd h (by omega),?_⟩
 clear hK K
 refine ready_1 12 (op_E fun K hK=>?_)
 go_simp
 refine hK _ _ ⟨fun h=>absurd h (by omega),?_⟩
 clear hK K
 refine done_J (by kernel_rfl) ?_ _
 refine NoPanic.normal ?_
 go_wp2_with fail
 go_end0
 have HFK:∀ b,b<w.heap.size→b≠bd→b≠B→some b≠vp.ownBlock→(W5.setCell ⟨B,7,none⟩ (.slice (some ⟨g2,0,none⟩) (p.fs.length+1) cap2)).heap[b]?=w.heap[b]?:=fun b hb h1 h2 h3=>
  (Below.heap_setCell _ _ _ b h2).trans ((HKK5.out b (by omega) h3).trans (HK33.out b h1 h2))
 have hc:∀ b,b<w.heap.size→(fun b=>if b<w.heap.size then c b else 7) b=c b:=fun b hb=>by simp [hb]
 have st:Step c (fun b=>if b<w.heap.size then c b else 7) (fun k=>k≠1∧k≠3∧k≠7∧k≠10+p.ru.length) w (W5.setCell ⟨B,7,none⟩ (.slice (some ⟨g2,0,none⟩) (p.fs.length+1) cap2)):=
  ⟨⟨HKO5.out.1,HKO5.out.2.1,HKO5.out.2.2,by simp;omega,fun b hb=>HFK b hb.1 (fun e'=>hb.2.2.2.2 (by rw [e'];exact ce)) (fun e'=>hb.2.1 (by rw [e'];exact cB)) (fun e'=>hb.2.2.2.1 (HK4.out b e'.symm))⟩,fun b hb _=>hc b hb⟩
 have hD:∀ k,k≤9→k≠1→k≠3→k≠7→(fun k=>k≠1∧k≠3∧k≠7∧k≠10+p.ru.length) k:=fun k h1 h2 h3 h4=>⟨h2,h3,h4,by omega⟩
 have hD0:=hD 0 (by decide) (by decide) (by decide) (by decide)
 refine ⟨rfl,_,⟨tp,tc,vr,.slice none 0 0,vs,vf,vd,_,HB5.out.set 7 _,(hc B hBl).trans cB,HS.out.ktoks st hD0,HS.out.len,HS.out.at',HS.out.krul st hD0 (hD 2 (by decide) (by decide) (by decide) (by decide)) (fun i hi=>⟨by omega,by omega,by omega,by omega⟩),RowOf.nil _ _ _ _ _ _,HS.out.ksgs st hD0 (hD 4 (by decide) (by decide) (by decide) (by decide)),HS.out.kfms st hD0 (hD 5 (by decide) (by decide) (by decide) (by decide)),HS.out.kdts st hD0 (hD 6 (by decide) (by decide) (by decide) (by decide)),?_⟩,st.imm hD0,st.kimm hD0⟩
 refine RowOf.push (w:=w) (c:=c) (R:=fun _ t ds=>DfIn (ImB B c w) w t ds) (L:=L) HK1.out HK2.out HK5.out (ds:=[.string (S s),.int .i64 t.kd,.string (S t.nm),.int .i64 t.nu,.slice pn t.ns.length cn,.slice pk t.ks.length ck]) rfl ?_ ?_ (fun i t' ds _ h=>DfIn.keep (st.kimmB hD0) (st.immB hD0) t' ds h) ?_
 ·exact row_other HO5.out HB5.out (by decide) 7 _
 ·intro g' hg'
  have:g2=g':=by simpa [Value.ownBlock] using hg'
  subst this
  rcases HG5.out with h | h
  ·have h6:=HK4.out g2 h
   have hl:g2<w.heap.size:=by
    rcases HK3.out.2 with ⟨e,_⟩ | ⟨g',cap,cur,e,_,hgb,_⟩
    ·rw [e] at h;cases h
    ·rw [e] at h
     have:g'=g2:=by simpa [Value.ownBlock] using h
     subst this
     exact (Array.getElem?_eq_some_iff.1 hgb).1
   exact (hc g2 hl).trans h6
  ·simp [show ¬ g2<w.heap.size by omega]
 ·exact ⟨_,rfl,t1,TrIn.keep (st.kimmB hD0) (st.immB hD0) t _ HTR.out⟩
theorem row_hold {W:World} {base e size n cap g:Nat} {xs:List Value} (h:W.ownsRow base e size (.slice (some ⟨g,0,none⟩) n cap) n xs):∃ cur,Hold g cur e W∧n≤cap∧cap≤maxLen∧cur.size=cap * size∧cur.toList.take (n * size)=xs∧base≤g:=by
 rcases h.2 with ⟨h,_⟩ | ⟨g',cap',cur,hv,hb,hg,r1,r2,r3,r4⟩
 ·cases h
 ·cases hv
  exact ⟨cur,hg,r1,r2,r3,r4,hb⟩
theorem row_set {W:World} {base e size n cap g:Nat} {xs:List Value} (h:W.ownsRow base e size (.slice (some ⟨g,0,none⟩) n cap) n xs) (i:Nat) (hi:i<n * size) (v:Value):(W.setCell ⟨g,i,none⟩ v).ownsRow base e size (.slice (some ⟨g,0,none⟩) n cap) n (xs.set i v):=by
 have h1:=h.1
 obtain ⟨cur,hh,r1,r2,r3,r4,hb⟩:=row_hold h
 refine ⟨by rw [List.length_set];exact h1,.inr ⟨g,cap,cur.setIfInBounds i v,rfl,hb,hh.set i v,r1,r2,by simpa using r3,?_⟩⟩
 rw [← r4,Array.toList_setIfInBounds,List.take_set]
theorem row_set_cell {W:World} {base e size n cap g:Nat} {xs:List Value} (h:W.ownsRow base e size (.slice (some ⟨g,0,none⟩) n cap) n xs) (i:Nat) (hi:i<n * size):W.frozen? ⟨g,i,none⟩=false∧∃ v,W.cell? ⟨g,i,none⟩=some v:=by
 have h1:=h.1
 obtain ⟨cur,hh,r1,r2,r3,r4,hb⟩:=row_hold h
 refine ⟨hh.frozen i,?_⟩
 have:i<xs.length:=by omega
 exact ⟨xs[i],row_cell h (by simp)⟩
theorem set_last2 (xs:List Value) (a b c d:Value) {k:Nat} (hk:xs.length=k):((xs ++ [a,b]).set k c).set (k+1) d=xs ++ [c,d]:=by
 subst hk
 rw [List.set_append_right _ _ (by omega),List.set_append_right _ _ (by omega)]
 simp
theorem set_last5 (xs:List Value) (a b c d e a' b' c' d' e':Value) {k:Nat} (hk:xs.length=k):(((((xs ++ [a,b,c,d,e]).set k a').set (k+1) b').set (k+2) c').set (k+3) d').set (k+4) e'=xs ++ [a',b',c',d',e']:=by
 subst hk
 rw [List.set_append_right _ _ (by omega),List.set_append_right _ _ (by omega),List.set_append_right _ _ (by omega),List.set_append_right _ _ (by omega),List.set_append_right _ _ (by omega)]
 simp
end Go.Proofs.YtcnnlecjdkfdjaaGreatDoor
