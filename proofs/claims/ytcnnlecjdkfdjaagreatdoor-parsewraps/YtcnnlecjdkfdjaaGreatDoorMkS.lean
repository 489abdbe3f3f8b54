/- Parts of the proof. -/
import Derived.Test.YtcnnlecjdkfdjaaGreatDoorMore1
set_option linter.unusedVariables false
set_option linter.unusedSimpArgs false
set_option maxRecDepth 100000
set_option maxHeartbeats 8000000
namespace Go.Proofs.YtcnnlecjdkfdjaaGreatDoor
open Go.RowKit
theorem info175:(Tryz.prog.info? 175).map (fun i=>(i.zero,i.size,i.bytes))=some (some (.agg #[.string ⟨#[]⟩,.slice none 0 0]),2,40):=by kernel_rfl
theorem append_zero (ty:TypeId) (q:Option Addr) (cc:Nat) (w:World):(Builtin.append_ #[60,60] ty #[.slice none 0 0,.slice q 0 cc]).run Tryz.prog w=.ok (.slice none 0 0) w:=by
 have hu:=Tryz.underlying60
 obtain ⟨i,hi,hz0,hz1,hz2⟩:=info_parts info175
 have hf:(Builtin.firstCells i.size 0 (.slice q 0 cc)).run Tryz.prog w=.ok #[] w:=by
  cases q with
  | none=>exact run_firstCells_none w _ 0 0 cc
  | some a=>exact run_firstCells_some w _ 0 a 0 cc [] (by simp) (by simp)
 simp [Builtin.append_,run_underlying hu,sizeOf,typeInfo,hi,Builtin.lenOf,hf]
theorem wp_append_zero {o:Oper} {a:Act} {w:World} {K:Act→World→Prop} {Q:Exit→Act→World→Prop} (s x:Operand) (ho:o.op=.call { callee:=.builtin .append,args:=#[s,x],argTypes:=#[60,60] }) (hs:a.eval s=.slice none 0 0) (q:Option Addr) (cc:Nat) (hx:a.eval x=.slice q 0 cc) (h:K (a.put o.dst (.slice none 0 0)) w):o.wp Tryz.prog a w K Q:=by
 unfold Oper.wp execOp
 simp only [ho,resolve,invoke,builtin,Sem.run_bind,Sem.run_pure,Result.andThen_ok,List.map_toArray,List.map_cons,List.map_nil,hs,hx,append_zero]
 exact h
theorem SgIn.one {P:Nat→Prop} {w:World} {t:Sg} {ds:List Value} (h:SgIn P w t ds):ds.length=2∧∀ u ∈ ds,u.oneCell'=true:=by
 rw [SgIn_iff] at h
 obtain ⟨pk,ck,rfl,_⟩:=h
 exact ⟨rfl,by simp [Value.oneCell']⟩
theorem flat_oneS {α:Type} {R:Nat→α→List Value→Prop} {L:List (List Value)} {l:List α} (hl:L.length=l.length) (h:∀ i t,l[i]?=some t→∃ ds,L[i]?=some ds∧R i t ds) (h1:∀ i t ds,R i t ds→∀ u ∈ ds,u.oneCell'=true):∀ u ∈ L.flatten,u.oneCell'=true:=by
 intro u hu
 obtain ⟨ds,hd,hu⟩:=List.mem_flatten.1 hu
 obtain ⟨i,hi,rfl⟩:=List.getElem_of_mem hd
 obtain ⟨ds,h2,h3⟩:=h i l[i] (by simp)
 rw [List.getElem?_eq_getElem hi] at h2
 cases h2
 exact h1 _ _ _ h3 u hu
theorem row_un {w W:World} {base e size n cap g:Nat} {xs:List Value} (h:w.ownsRow base e size (.slice (some ⟨g,0,none⟩) n cap) n xs) (hk:W.heap[g]?=w.heap[g]?) (he:e≠29∧e≠38):Un W g:=by
 rcases h.2 with ⟨h,_⟩ | ⟨g',cap',cur,h,_,hg,_⟩
 ·cases h
 ·cases h
  exact ⟨cur,e,hk.trans hg,he⟩
theorem gm_of {c:Nat→Nat} {w W:World} {L:List (List Value)} {l:List Sg} {c':Nat→Nat} {kb:Nat} (h2:∀ ds ∈ L,ds.length=2) (h5:∀ (i:Nat) t,l[i]?=some t→∃ ds,L[i]?=some ds∧SgIn (Im0 c w) w t ds) (n0:Nat) (hk:KP (Im0 c w) w W) (hi:∀ b,Im0 c w b→Im0 c' W b) (hb:Im0 c' W kb) (hcell:∀ (j:Nat) v,(L.drop n0).flatten[j]?=some v→W.cell? ⟨kb,j,none⟩=some v):GM (Im0 c' W) W (some ⟨kb,0,none⟩) (l.drop n0):=by
 refine .inr ⟨kb,0,rfl,hb,fun i t ht=>?_⟩
 rw [List.getElem?_drop] at ht
 obtain ⟨ds,h1,h3⟩:=h5 (n0+i) t ht
 refine ⟨ds,h3.one.1,fun j d hj=>?_,SgIn.keep hk hi t ds h3⟩
 have hjl:=(List.getElem?_eq_some_iff.1 hj).1
 have:=h3.one.1
 rw [Nat.zero_add]
 refine hcell _ _ ?_
 rw [flatten_at (size:=2) (fun ds hd=>h2 ds (List.mem_of_mem_drop hd)) (by rw [List.getElem?_drop];exact h1) (by omega)]
 exact hj
theorem sig_end {c:Nat→Nat} {B:Nat} {l:List Tk} {p:Ps} {w W:World} {tp:Option Addr} {tc:Nat} {vr ve vs vf vd vp:Value} {L:List (List Value)} {n0 g2 cap2 ck:Nat} {pk:Option Addr} {s:List UInt8} (hS:PSt c B l p tp tc vr ve vs vf vd vp w) (hs:s.length≤281474976710656) (h1:L.length=p.sg.length) (h2:∀ ds ∈ L,ds.length=2) (h5:∀ (i:Nat) t,p.sg[i]?=some t→∃ ds,L[i]?=some ds∧SgIn (Im0 c w) w t ds) (hn:n0≤p.sg.length)
 (hB:Hold B (psC tp l.length tc p.tk vr ve (.slice (some ⟨g2,0,none⟩) (n0+1) cap2) vf vd vp) 63 W) (hrow:W.ownsRow 0 175 2 (.slice (some ⟨g2,0,none⟩) (n0+1) cap2) (n0+1) (L.flatten.take (n0 * 2) ++ [.string (S s),.slice pk (p.sg.length - n0) ck])) (hg:(c g2=4∧g2<w.heap.size)∨w.heap.size≤g2)
 (hk:(p.sg.length=n0∧pk=none∧ck=0)∨∃ kb,pk=some ⟨kb,0,none⟩∧w.heap.size≤kb∧kb<W.heap.size∧kb≠g2∧SlOK pk (p.sg.length - n0) ck∧Un W kb∧∀ (j:Nat) v,(L.drop n0).flatten[j]?=some v→W.cell? ⟨kb,j,none⟩=some v)
 (hf:KP (fun b=>b<w.heap.size∧c b≠1∧c b≠4) w W):RQ c B l w (makeSigR s n0 p) (.returned (.tuple #[])) W:=by
 have hc:∀ b,b<w.heap.size→(fun b=>if b<w.heap.size then c b else if b=g2 then 4 else 0) b=c b:=fun b hb=>by simp [hb]
 have st:Step c (fun b=>if b<w.heap.size then c b else if b=g2 then 4 else 0) (fun k=>k≠1∧k≠4) w W:=⟨hf,fun b hb _=>hc b hb⟩
 refine ⟨rfl,_,⟨tp,tc,vr,ve,_,vf,vd,vp,hB,(hc B hS.hold.lt).trans hS.colB,hS.ktoks st (by decide),hS.len,hS.at',hS.krul st (by decide) (by decide) (fun i _=>⟨by omega,by omega⟩),hS.kexs st (by decide) (by decide),?_,hS.kfms st (by decide) (by decide),hS.kdts st (by decide) (by decide),hS.kdfs st (by decide) (by decide)⟩,st.imm (by decide),st.kimm (by decide)⟩
 have hlt0:(p.sg.take n0).length=n0:=by rw [List.length_take];omega
 refine RowOf.push (w:=w) (c:=c) (R:=fun _ t ds=>SgIn (Im0 c w) w t ds) (L:=L.take n0) (by rw [List.length_take,hlt0,h1];omega) (fun ds hd=>h2 ds (List.mem_of_mem_take hd)) (fun i t' ht=>?_) (ds:=[.string (S s),.slice pk (p.sg.length - n0) ck]) rfl ?_ ?_ (fun i t' ds _ h=>SgIn.keep (st.kimm0 (by decide)) (st.imm0 (by decide)) t' ds h) ?_
 ·rw [List.getElem?_take] at ht ⊢
  split at ht
  ·rename_i hlt
   rw [if_pos hlt]
   exact h5 i t' ht
  ·cases ht
 ·rw [hlt0,← flatten_take n0 h2]
  exact hrow
 ·intro g' hg'
  have:g2=g':=by simpa [Value.ownBlock] using hg'
  subst this
  rcases hg with ⟨h,h'⟩ | h
  ·exact (hc g2 h').trans h
  ·simp [show ¬ g2<w.heap.size by omega]
 ·rw [SgIn_iff]
  have hkl:(p.sg.drop n0).length=p.sg.length - n0:=List.length_drop
  rcases hk with ⟨h,rfl,rfl⟩ | ⟨kb,rfl,k1,k2,k3,k4,ku,k5⟩
  ·refine ⟨none,0,by rw [hkl],hs,⟨by rw [hkl];omega,by omega,fun _=>rfl⟩,.inl ?_⟩
   exact List.drop_eq_nil_of_le (by omega)
  ·exact ⟨some ⟨kb,0,none⟩,ck,by rw [hkl],hs,by rw [hkl];exact k4,gm_of h2 h5 n0 (st.kimm0 (by decide)) (st.imm0 (by decide)) ⟨⟨k2,by simp [show ¬ kb<w.heap.size by omega,k3]⟩,ku⟩ k5⟩
theorem makingSig1_some {c:Nat→Nat} {B:Nat} {l:List Tk} {p:Ps} {w:World} {b1 b2 b3:Nat} {s:List UInt8} {n0:Nat} {tp:Option Addr} {tc:Nat} {vr ve vf vd vp:Value} {L:List (List Value)} {g cq:Nat} (cg:c g=4) (hS0:PSt c B l p tp tc vr ve (.slice (some ⟨g,0,none⟩) p.sg.length cq) vf vd vp w) (hR:RuV B c w p.ru.length (.func (.func 260) #[] #[bx b1,bx b2,bx b3]) (rSig s n0)) (k1:L.length=p.sg.length) (k2:∀ ds ∈ L,ds.length=2) (k3:w.ownsRow 0 175 2 (.slice (some ⟨g,0,none⟩) p.sg.length cq) p.sg.length L.flatten) (k5:∀ (i:Nat) t,p.sg[i]?=some t→∃ ds,L[i]?=some ds∧SgIn (Im0 c w) w t ds) (hn:n0<p.sg.length) (hx:p.sg.length≤1000000000) :
 Calls Tryz.prog 260 #[.pointer (some ⟨b1,0,none⟩),.pointer (some ⟨b2,0,none⟩),.pointer (some ⟨b3,0,none⟩)] w (RQ c B l w (makeSigR s n0 p)):=by
 obtain ⟨b1',b2',b3',hv,c1,c2,c3,h1,h2,h3,hsl⟩:=hR
 obtain ⟨rfl,rfl,rfl⟩:b1=b1'∧b2=b2'∧b3=b3':=by simpa using hv
 clear hv
 simp only [rSig] at h1 h3 hsl
 have hBl:=hS0.hold.lt
 have cB:=hS0.colB
 have n2B:b2≠B:=fun h=>by rw [h,cB] at c2;omega
 have n3B:b3≠B:=fun h=>by rw [h,cB] at c3;omega
 have HRC:Hid (∀ (j:Nat) v,L.flatten[j]?=some v→(w.alloc (.cells #[.string (S s),.slice none 0 0] 175)).cell? ⟨g,j,none⟩=some v):=fun j v hj=>row_cell (k3.alloc _) hj
 have HO:Hid (∀ u ∈ L.flatten,u.oneCell'=true):=flat_oneS k1 k5 fun i t ds h=>h.one.2
 have HFL:Hid (L.flatten.length=L.length * 2):=flatten_len k2
 have HFD:Hid (L.flatten.drop (n0 * 2)=(L.drop n0).flatten):=flatten_drop n0 k2
 have HEND:=zz fun W pk g2 cap2 ck=>sig_end (s:=s) (n0:=n0) (W:=W) (pk:=pk) (g2:=g2) (cap2:=cap2) (ck:=ck) hS0 hsl k1 k2 k5 (by omega)
 have a1:=h1.cell 0
 simp only [lGA,lGZ] at a1
 have H2:=zz (h2.alloc (.cells #[.string (S s),.slice none 0 0] 175))
 have H3:=zz (h3.alloc (.cells #[.string (S s),.slice none 0 0] 175))
 have HBB:=zz (hS0.hold.alloc (.cells #[.string (S s),.slice none 0 0] 175))
 have HSV:=zz (Hold.new w #[.string (S s),.slice none 0 0] 175)
 have HK3:=zz (k3.alloc (.cells #[.string (S s),.slice none 0 0] 175))
 have HB0:=zz ((Below.refl _ w).alloc (Nat.le_refl _) (.cells #[.string (S s),.slice none 0 0] 175))
 have hs1:w.heap.size<(w.alloc (.cells #[.string (S s),.slice none 0 0] 175)).heap.size:=by simp
 have hb2l:=h2.lt
 have hb3l:=h3.lt
 have d0:=HSV.out.cell 1
 have d1:=H2.out.cell 0
 have d2:=HBB.out.cell 4
 have d3:=H3.out.cell 0
 have HLL:=zz k1
 simp only [lGA,lGS,lGZ] at d0 d1 d2 d3
 obtain ⟨i0,hi,hz0,hz1,hz2⟩:=info_parts info175
 have hcq:p.sg.length≤cq:=by
  rcases k3.2 with ⟨h,_⟩ | ⟨g',cap,cur,h,_,_,r1,_⟩
  ·cases h
  ·cases h;exact r1
 have hgl:g<w.heap.size:=by
  rcases k3.2 with ⟨h,_⟩ | ⟨g',cap,cur,h,_,hgb,_⟩
  ·cases h
  ·cases h;exact (Array.getElem?_eq_some_iff.1 hgb).1
 have nBg:B≠g:=fun h=>by rw [h,cg] at cB;omega
 have n2g:b2≠g:=fun h=>by rw [h,cg] at c2;omega
 have n3g:b3≠g:=fun h=>by rw [h,cg] at c3;omega
 have hlt1:(n0:Int)≤(p.sg.length:Int):=by omega
 have hlt2':n0≤p.sg.length:=by omega
 have hlt3:n0≤cq:=by omega
 have hlt4:(n0:Int)≤(cq:Int):=by omega
 have hlt5:cq≠n0:=by omega
 obtain ⟨X,HX⟩:∃ X,Hid (X=makeSigR s n0 p):=⟨_,rfl⟩
 rw [← HX.out]
 rw [← HX.out] at HEND
 clear hS0 h1 h2 h3 k1 k2 k3 k5 HX
 go_enter Tryz.func260,Tryz.ntmps260
 go_wp2_with fail
 generalize hW1:w.alloc (.cells #[.string (S s),.slice none 0 0] 175)=W1 at *
 clear hW1
 refine wp_region_noPanic ?_
 refine region_J 11 (N:=9) (S:=(fun W':World=>W'.cell? ⟨w.heap.size,1,none⟩=some (.slice none 0 0)∧W'.cell? ⟨b2,0,none⟩=some (.pointer (some ⟨B,0,none⟩))∧W'.cell? ⟨B,4,none⟩=some ((.slice (some ⟨g,0,none⟩) p.sg.length cq))∧W'.cell? ⟨b3,0,none⟩=some (.int .i64 n0))) (by kernel_rfl) (by kernel_rfl) ?_
 have hS:(fun W':World=>W'.cell? ⟨w.heap.size,1,none⟩=some (.slice none 0 0)∧W'.cell? ⟨b2,0,none⟩=some (.pointer (some ⟨B,0,none⟩))∧W'.cell? ⟨B,4,none⟩=some ((.slice (some ⟨g,0,none⟩) p.sg.length cq))∧W'.cell? ⟨b3,0,none⟩=some (.int .i64 n0)) W1.drew:=⟨d0,d1,d2,d3⟩
 refine take_E 0 6 (.pointer (some ⟨w.heap.size,1,none⟩)) rfl (Or.inl ⟨by rfl,fun W' hW=>by obtain ⟨s0,s1,s2,s3⟩:=hW;go_simp⟩) hS ?_
 refine take_E 1 7 (.slice none 0 0) rfl (Or.inl ⟨by rfl,fun W' hW=>by obtain ⟨s0,s1,s2,s3⟩:=hW;go_simp⟩) hS ?_
 refine take_E 2 8 (.pointer (some ⟨B,0,none⟩)) rfl (Or.inl ⟨by rfl,fun W' hW=>by obtain ⟨s0,s1,s2,s3⟩:=hW;go_simp⟩) hS ?_
 refine take_E 3 9 (.pointer (some ⟨B,0,none⟩)) rfl (Or.inl ⟨by rfl,fun W' hW=>by obtain ⟨s0,s1,s2,s3⟩:=hW;go_simp⟩) hS ?_
 refine take_E 4 10 (.pointer (some ⟨B,4,none⟩)) rfl (Or.inl ⟨by rfl,fun W' hW=>by obtain ⟨s0,s1,s2,s3⟩:=hW;go_simp⟩) hS ?_
 refine take_E 5 11 ((.slice (some ⟨g,0,none⟩) p.sg.length cq)) rfl (Or.inl ⟨by rfl,fun W' hW=>by obtain ⟨s0,s1,s2,s3⟩:=hW;go_simp⟩) hS ?_
 refine take_E 6 12 (.int .i64 n0) rfl (Or.inl ⟨by rfl,fun W' hW=>by obtain ⟨s0,s1,s2,s3⟩:=hW;go_simp⟩) hS ?_
 refine take_E 7 13 (.slice (some ⟨g,n0 * 2,none⟩) (p.sg.length - n0) (cq - n0)) rfl (Or.inl ⟨by rfl,fun W' hW=>by obtain ⟨s0,s1,s2,s3⟩:=hW;go_simp⟩) hS ?_
 simp only [Act.put,lSI,lSZ,lSS]
 refine ready_1 8 (op_E fun K hK=>?_)
 have hnews:∀ j u,((L.drop n0).flatten)[j]?=some u→W1.drew.cell? ((⟨g,n0 * 2,none⟩:Addr).add j)=some u:=fun j u hj=>by
  rw [add_none]
  refine HRC.out (n0 * 2+j) u ?_
  rw [← HFD.out,List.getElem?_drop] at hj
  exact hj
 have hdl:((L.drop n0).flatten).length=(p.sg.length - n0) * 2:=by rw [← HFD.out,List.length_drop,HFL.out,HLL.out];omega
 have hdo:∀ u ∈ (L.drop n0).flatten,u.oneCell'=true:=fun u hu=>HO.out u (by rw [← HFD.out] at hu;exact List.mem_of_mem_drop hu)
 refine wp_append_lies _ _ _ _ (by rfl) 0 175 i0 _ 2 40 Tryz.underlying60 hi hz0 hz1 hz2 rfl (by omega) (.slice none 0 0) 0 [] (by rfl) (World.ownsRow_nil _ _ _ _) ⟨g,n0 * 2,none⟩ (p.sg.length - n0) (cq - n0) ((L.drop n0).flatten) (by rfl) hdl hnews hdo (by omega) (by unfold maxLen;omega) (by omega) (by omega) W1.heap.size rfl ?_
 intro gg cap W2 hown hgrow hat hlt2
 rw [Nat.zero_add,List.nil_append] at hown
 simp only [Nat.zero_add] at hown ⊢
 obtain rfl:gg=W1.heap.size:=by
  rcases hat with h | h
  ·cases h
  ·exact h
 have hbel:∀ {b:Nat} {C:Array Value} {t:TypeId},Hold b C t W1→Hold b C t W2:=fun h=>(hgrow.block _ h.lt (by simp [Value.ownBlock])).trans h
 have HSV2:=zz (hbel HSV.out)
 have H22:=zz (hbel H2.out)
 have H32:=zz (hbel H3.out)
 have HBB2:=zz (hbel HBB.out)
 have HKB2:Hid (∀ b,b<w.heap.size→W2.heap[b]?=w.heap[b]?):=fun b hb=>(hgrow.block b (by show b<W1.heap.size;omega) (by simp [Value.ownBlock])).trans (HB0.out.block b hb)
 have HKO2:Hid (W2.os=w.os∧W2.tape=w.tape∧W2.output=w.output):=⟨hgrow.os.trans HB0.out.os,hgrow.tape.trans HB0.out.tape,hgrow.output.trans HB0.out.output⟩
 have HROW2:Hid (W2.ownsRow 0 175 2 (.slice (some ⟨g,0,none⟩) p.sg.length cq) p.sg.length L.flatten):=row_keep HK3.out fun g' hg' hl=>hgrow.block g' hl (by simp [Value.ownBlock])
 have HOW:=zz hown
 have hzz2:w.heap.size<W2.heap.size:=by omega
 clear hgrow hat hown hbel hnews
 have v0:=HSV2.out.cell 1
 have v1:=H22.out.cell 0
 have v2:=HBB2.out.cell 4
 have v3:=H32.out.cell 0
 have vz:=HSV2.out.frozen 1
 simp only [lGA,lGS,lGZ] at v0 v1 v2 v3
 refine hK _ _ ⟨fun _=>⟨v0,v1,v2,v3⟩,?_⟩
 clear hK K hS
 refine ready_1 9 (op_E fun K hK=>?_)
 go_simp
 refine hK _ _ ⟨fun h=>absurd h (by omega),?_⟩
 clear hK K
 refine ready_1 10 (op_E fun K hK=>?_)
 go_simp
 refine hK _ _ ⟨fun h=>absurd h (by omega),?_⟩
 clear hK K
 refine done_J (by kernel_rfl) ?_ _
 refine NoPanic.normal ?_
 have HSV3:=zz (HSV2.out.set 1 (.slice (some ⟨W1.heap.size,0,none⟩) (p.sg.length - n0) cap))
 have H23:=zz (H22.out.other (show b2≠w.heap.size by omega) 1 (.slice (some ⟨W1.heap.size,0,none⟩) (p.sg.length - n0) cap))
 have H33:=zz (H32.out.other (show b3≠w.heap.size by omega) 1 (.slice (some ⟨W1.heap.size,0,none⟩) (p.sg.length - n0) cap))
 have HBB3:=zz (HBB2.out.other (show B≠w.heap.size by omega) 1 (.slice (some ⟨W1.heap.size,0,none⟩) (p.sg.length - n0) cap))
 have HKB3:Hid (∀ b,b<w.heap.size→(W2.setCell ⟨w.heap.size,1,none⟩ (.slice (some ⟨W1.heap.size,0,none⟩) (p.sg.length - n0) cap)).heap[b]?=w.heap[b]?):=fun b hb=>(Below.heap_setCell _ _ _ b (by show b≠w.heap.size;omega)).trans (HKB2.out b hb)
 have HKO3:Hid ((W2.setCell ⟨w.heap.size,1,none⟩ (.slice (some ⟨W1.heap.size,0,none⟩) (p.sg.length - n0) cap)).os=w.os∧(W2.setCell ⟨w.heap.size,1,none⟩ (.slice (some ⟨W1.heap.size,0,none⟩) (p.sg.length - n0) cap)).tape=w.tape∧(W2.setCell ⟨w.heap.size,1,none⟩ (.slice (some ⟨W1.heap.size,0,none⟩) (p.sg.length - n0) cap)).output=w.output):=HKO2.out
 have HROW3:Hid ((W2.setCell ⟨w.heap.size,1,none⟩ (.slice (some ⟨W1.heap.size,0,none⟩) (p.sg.length - n0) cap)).ownsRow 0 175 2 ((.slice (some ⟨g,0,none⟩) p.sg.length cq)) p.sg.length L.flatten):=row_keep HROW2.out fun g' hg' hl=>Below.heap_setCell _ _ _ g' (fun e=>by
  have e':g'=w.heap.size:=e
  have:g=g':=by simpa [Value.ownBlock] using hg'
  omega)
 have HOW3:Hid ((W2.setCell ⟨w.heap.size,1,none⟩ (.slice (some ⟨W1.heap.size,0,none⟩) (p.sg.length - n0) cap)).ownsRow 0 175 2 (.slice (some ⟨W1.heap.size,0,none⟩) (p.sg.length - n0) cap) (p.sg.length - n0) ((L.drop n0).flatten)):=row_keep HOW.out fun g' hg' _=>by
  have:W1.heap.size=g':=by simpa [Value.ownBlock] using hg'
  exact Below.heap_setCell _ _ _ g' (fun e'=>by have e'':g'=w.heap.size:=e';omega)
 have hw13:W1.heap.size<(W2.setCell ⟨w.heap.size,1,none⟩ (.slice (some ⟨W1.heap.size,0,none⟩) (p.sg.length - n0) cap)).heap.size:=by simpa using hlt2
 have hz3:w.heap.size<(W2.setCell ⟨w.heap.size,1,none⟩ (.slice (some ⟨W1.heap.size,0,none⟩) (p.sg.length - n0) cap)).heap.size:=by simpa using hzz2
 generalize (W2.setCell ⟨w.heap.size,1,none⟩ (.slice (some ⟨W1.heap.size,0,none⟩) (p.sg.length - n0) cap))=W3 at *
 have HCUT:=zz (row_cut HROW3.out hlt2')
 have d0:=HSV3.out.cell 0
 have d4:=HSV3.out.cell 1
 have d1:=H23.out.cell 0
 have d2:=HBB3.out.cell 4
 have d3:=H33.out.cell 0
 simp only [lSI,lSZ,lSS,lGA,lGS,lGZ] at d0 d1 d2 d3 d4
 clear HSV2 H22 H32 HBB2 HKB2 HKO2 HROW2 v0 v1 v2 v3 vz
 go_wp2_with fail
 refine wp_region_noPanic ?_
 refine region_J 13 (N:=10) (S:=(fun W':World=>W'.cell? ⟨b2,0,none⟩=some (.pointer (some ⟨B,0,none⟩))∧W'.cell? ⟨B,4,none⟩=some ((.slice (some ⟨g,0,none⟩) p.sg.length cq))∧W'.cell? ⟨b3,0,none⟩=some (.int .i64 n0)∧W'.cell? ⟨w.heap.size,0,none⟩=some (.string (S s))∧W'.cell? ⟨w.heap.size,1,none⟩=some (.slice (some ⟨W1.heap.size,0,none⟩) (p.sg.length - n0) cap))) (by kernel_rfl) (by kernel_rfl) ?_
 have hS:(fun W':World=>W'.cell? ⟨b2,0,none⟩=some (.pointer (some ⟨B,0,none⟩))∧W'.cell? ⟨B,4,none⟩=some ((.slice (some ⟨g,0,none⟩) p.sg.length cq))∧W'.cell? ⟨b3,0,none⟩=some (.int .i64 n0)∧W'.cell? ⟨w.heap.size,0,none⟩=some (.string (S s))∧W'.cell? ⟨w.heap.size,1,none⟩=some (.slice (some ⟨W1.heap.size,0,none⟩) (p.sg.length - n0) cap)) W3.drew:=⟨d1,d2,d3,d0,d4⟩
 refine take_E 0 16 (.pointer (some ⟨B,0,none⟩)) rfl (Or.inl ⟨by rfl,fun W' hW=>by obtain ⟨s0,s1,s2,s3,s4⟩:=hW;go_simp⟩) hS ?_
 refine take_E 1 17 (.pointer (some ⟨B,0,none⟩)) rfl (Or.inl ⟨by rfl,fun W' hW=>by obtain ⟨s0,s1,s2,s3,s4⟩:=hW;go_simp⟩) hS ?_
 refine take_E 2 18 (.pointer (some ⟨B,0,none⟩)) rfl (Or.inl ⟨by rfl,fun W' hW=>by obtain ⟨s0,s1,s2,s3,s4⟩:=hW;go_simp⟩) hS ?_
 refine take_E 3 19 (.pointer (some ⟨B,4,none⟩)) rfl (Or.inl ⟨by rfl,fun W' hW=>by obtain ⟨s0,s1,s2,s3,s4⟩:=hW;go_simp⟩) hS ?_
 refine take_E 4 20 ((.slice (some ⟨g,0,none⟩) p.sg.length cq)) rfl (Or.inl ⟨by rfl,fun W' hW=>by obtain ⟨s0,s1,s2,s3,s4⟩:=hW;go_simp⟩) hS ?_
 refine take_E 5 21 (.int .i64 n0) rfl (Or.inl ⟨by rfl,fun W' hW=>by obtain ⟨s0,s1,s2,s3,s4⟩:=hW;go_simp⟩) hS ?_
 refine take_E 6 22 (.slice (some ⟨g,0,none⟩) n0 cq) rfl (Or.inl ⟨by rfl,fun W' hW=>by obtain ⟨s0,s1,s2,s3,s4⟩:=hW;go_simp⟩) hS ?_
 refine take_E 7 23 (.agg #[.string (S s),.slice (some ⟨W1.heap.size,0,none⟩) (p.sg.length - n0) cap]) rfl (Or.inl ⟨by rfl,fun W' hW=>by obtain ⟨s0,s1,s2,s3,s4⟩:=hW;go_simp⟩) hS ?_
 simp only [Act.put,lSI,lSZ,lSS]
 refine ready_1 8 (op_E fun K hK=>?_)
 go_simp
 have x1:=(H23.out.alloc (.cells #[.string (S s),.slice (some ⟨W1.heap.size,0,none⟩) (p.sg.length - n0) cap] 175)).cell 0
 have x2:=(HBB3.out.alloc (.cells #[.string (S s),.slice (some ⟨W1.heap.size,0,none⟩) (p.sg.length - n0) cap] 175)).cell 4
 have x3:=(H33.out.alloc (.cells #[.string (S s),.slice (some ⟨W1.heap.size,0,none⟩) (p.sg.length - n0) cap] 175)).cell 0
 have x0:=(HSV3.out.alloc (.cells #[.string (S s),.slice (some ⟨W1.heap.size,0,none⟩) (p.sg.length - n0) cap] 175)).cell 0
 have x4:=(HSV3.out.alloc (.cells #[.string (S s),.slice (some ⟨W1.heap.size,0,none⟩) (p.sg.length - n0) cap] 175)).cell 1
 simp only [lSI,lSZ,lSS,lGA,lGS,lGZ] at x0 x1 x2 x3 x4
 refine hK _ _ ⟨fun _=>⟨x1,x2,x3,x0,x4⟩,?_⟩
 clear hK K
 refine ready_1 9 (op_E fun K hK=>?_)
 refine wp_append_lies _ _ _ _ (by rfl) 0 175 i0 _ 2 40 Tryz.underlying60 hi hz0 hz1 hz2 rfl (by omega) (.slice (some ⟨g,0,none⟩) n0 cq) n0 (L.flatten.take (n0 * 2)) (by rfl) ((HCUT.out.alloc (.cells #[.string (S s),.slice (some ⟨W1.heap.size,0,none⟩) (p.sg.length - n0) cap] 175)).drew) ⟨W3.heap.size,0,none⟩ 1 1 [.string (S s),.slice (some ⟨W1.heap.size,0,none⟩) (p.sg.length - n0) cap] (by rfl) (by rfl) (World.news_of_block (cs:=#[.string (S s),.slice (some ⟨W1.heap.size,0,none⟩) (p.sg.length - n0) cap]) (t:=175) (fr:=(0,0)) (heap_alloc_new W3 _)) (by simp [Value.oneCell']) (by omega) (by unfold maxLen;omega) (by omega) (by omega) (W3.heap.size+1) (by simp) ?_
 intro g2 cap2 W5 hown5 hgrow5 hat5 hlt5'
 have kp5:∀ b,b<W3.heap.size→some b≠((.slice (some ⟨g,0,none⟩) n0 cq):Value).ownBlock→W5.heap[b]?=W3.heap[b]?:=fun b hb hne=>(hgrow5.block b (by simp;omega) hne).trans (Below.heap_alloc W3 _ b hb)
 have hsz5:W3.heap.size+1≤W5.heap.size:=by have:=hgrow5.size;simpa using this
 have hold5:∀ {b:Nat} {C:Array Value} {t:TypeId},Hold b C t W3→some b≠((.slice (some ⟨g,0,none⟩) n0 cq):Value).ownBlock→Hold b C t W5:=fun h hne=>(kp5 _ h.lt hne).trans h
 have HB5:=zz (hold5 HBB3.out (by simp [Value.ownBlock];omega))
 have u1:=(hold5 H23.out (by simp [Value.ownBlock];omega)).cell 0
 have u2:=HB5.out.cell 4
 have u3:=(hold5 H33.out (by simp [Value.ownBlock];omega)).cell 0
 have hE5:=hold5 HSV3.out (by simp [Value.ownBlock];omega)
 have u0:=hE5.cell 0
 have u4:=hE5.cell 1
 have uz:=HB5.out.frozen 4
 simp only [lSI,lSZ,lSS,lGA,lGS,lGZ] at u0 u1 u2 u3 u4
 have HO5:=zz hown5
 have HG5:Hid (((.slice (some ⟨g,0,none⟩) n0 cq):Value).ownBlock=some g2∨W3.heap.size<g2):=by
  rcases hat5 with h | h
  ·exact .inl h
  ·right;omega
 have HKK5:Hid (∀ b,b<W3.heap.size→some b≠((.slice (some ⟨g,0,none⟩) n0 cq):Value).ownBlock→W5.heap[b]?=W3.heap[b]?):=kp5
 have HKO5:Hid (W5.os=w.os∧W5.tape=w.tape∧W5.output=w.output):=⟨hgrow5.os.trans HKO3.out.1,hgrow5.tape.trans HKO3.out.2.1,hgrow5.output.trans HKO3.out.2.2⟩
 refine hK _ _ ⟨fun _=>⟨u1,u2,u3,u0,u4⟩,?_⟩
 clear hK K hown5 hgrow5 hat5 kp5 hold5 hE5
 refine ready_1 10 (op_E fun K hK=>?_)
 go_simp
 refine hK _ _ ⟨fun h=>absurd h (by omega),?_⟩
 clear hK K
 refine ready_1 11 (op_E fun K hK=>?_)
 go_simp
 refine hK _ _ ⟨fun h=>absurd h (by omega),?_⟩
 clear hK K
 refine ready_1 12 (op_E fun K hK=>?_)
 go_simp
 refine hK _ _ ⟨fun h=>absurd h (by omega),?_⟩
 clear hK K
 refine done_J (by kernel_rfl) ?_ _
 refine NoPanic.normal ?_
 go_wp2_with fail
 go_end0
 refine HEND.out _ (some ⟨W1.heap.size,0,none⟩) g2 cap2 cap (HB5.out.set 4 _) ?_ ?_ ?_ ?_
 ·exact row_other HO5.out HB5.out (by decide) 4 _
 ·rcases HG5.out with h | h
  ·have:g=g2:=by simpa [Value.ownBlock] using h
   subst this
   exact .inl ⟨cg,hgl⟩
  ·right;omega
 ·right
  refine ⟨W1.heap.size,rfl,by omega,by simp;omega,?_,?_,row_un HOW3.out ((Below.heap_setCell _ _ _ W1.heap.size (by show W1.heap.size≠B;omega)).trans (HKK5.out W1.heap.size hw13 (by simp [Value.ownBlock];omega))) (by decide),fun j v hj=>?_⟩
  ·rcases HG5.out with h | h
   ·have:g=g2:=by simpa [Value.ownBlock] using h
    omega
   ·omega
  ·rcases HOW3.out.2 with ⟨h,_⟩ | ⟨g',cap',cur,h,_,_,r1,r2,_⟩
   ·cases h
   ·cases h
    exact ⟨r1,by unfold maxLen at r2;omega,fun h=>by cases h⟩
  ·refine Eq.trans (World.cell?_of_block (a:=⟨W1.heap.size,j,none⟩) ?_) (row_cell HOW3.out hj)
   exact (Below.heap_setCell _ _ _ W1.heap.size (by show W1.heap.size≠B;omega)).trans (HKK5.out W1.heap.size hw13 (by simp [Value.ownBlock];omega))
 ·refine ⟨HKO5.out.1,HKO5.out.2.1,HKO5.out.2.2,by simp;omega,fun b hb=>?_⟩
  refine (Below.heap_setCell _ _ _ b (fun e=>hb.2.1 (by rw [show b=B from e];exact cB))).trans ((HKK5.out b (by omega) (fun e=>hb.2.2 (by
   have:b=g:=by simpa [Value.ownBlock] using e
   rw [this];exact cg))).trans (HKB3.out b hb.1))
theorem makingSig1_full {c:Nat→Nat} {B:Nat} {l:List Tk} {p:Ps} {w:World} {b1 b2 b3:Nat} {s:List UInt8} {tp:Option Addr} {tc:Nat} {vr ve vf vd vp:Value} {L:List (List Value)} {g:Nat} (cg:c g=4) (hS0:PSt c B l p tp tc vr ve (.slice (some ⟨g,0,none⟩) p.sg.length p.sg.length) vf vd vp w) (hR:RuV B c w p.ru.length (.func (.func 260) #[] #[bx b1,bx b2,bx b3]) (rSig s p.sg.length)) (k1:L.length=p.sg.length) (k2:∀ ds ∈ L,ds.length=2) (k3:w.ownsRow 0 175 2 (.slice (some ⟨g,0,none⟩) p.sg.length p.sg.length) p.sg.length L.flatten) (k5:∀ (i:Nat) t,p.sg[i]?=some t→∃ ds,L[i]?=some ds∧SgIn (Im0 c w) w t ds)  (hx:p.sg.length≤1000000000) :
 Calls Tryz.prog 260 #[.pointer (some ⟨b1,0,none⟩),.pointer (some ⟨b2,0,none⟩),.pointer (some ⟨b3,0,none⟩)] w (RQ c B l w (makeSigR s p.sg.length p)):=by
 obtain ⟨b1',b2',b3',hv,c1,c2,c3,h1,h2,h3,hsl⟩:=hR
 obtain ⟨rfl,rfl,rfl⟩:b1=b1'∧b2=b2'∧b3=b3':=by simpa using hv
 clear hv
 simp only [rSig] at h1 h3 hsl
 have hBl:=hS0.hold.lt
 have cB:=hS0.colB
 have n2B:b2≠B:=fun h=>by rw [h,cB] at c2;omega
 have n3B:b3≠B:=fun h=>by rw [h,cB] at c3;omega
 have HRC:Hid (∀ (j:Nat) v,L.flatten[j]?=some v→True):=fun _ _ _=>trivial
 have HO:Hid (∀ u ∈ L.flatten,u.oneCell'=true):=flat_oneS k1 k5 fun i t ds h=>h.one.2
 have HFL:Hid (L.flatten.length=L.length * 2):=flatten_len k2
 have HFD:Hid (L.flatten.drop (p.sg.length * 2)=(L.drop p.sg.length).flatten):=flatten_drop p.sg.length k2
 have HEND:=zz fun W pk g2 cap2 ck=>sig_end (s:=s) (n0:=p.sg.length) (W:=W) (pk:=pk) (g2:=g2) (cap2:=cap2) (ck:=ck) hS0 hsl k1 k2 k5 (by omega)
 have a1:=h1.cell 0
 simp only [lGA,lGZ] at a1
 have H2:=zz (h2.alloc (.cells #[.string (S s),.slice none 0 0] 175))
 have H3:=zz (h3.alloc (.cells #[.string (S s),.slice none 0 0] 175))
 have HBB:=zz (hS0.hold.alloc (.cells #[.string (S s),.slice none 0 0] 175))
 have HSV:=zz (Hold.new w #[.string (S s),.slice none 0 0] 175)
 have HK3:=zz (k3.alloc (.cells #[.string (S s),.slice none 0 0] 175))
 have HB0:=zz ((Below.refl _ w).alloc (Nat.le_refl _) (.cells #[.string (S s),.slice none 0 0] 175))
 have hs1:w.heap.size<(w.alloc (.cells #[.string (S s),.slice none 0 0] 175)).heap.size:=by simp
 have hb2l:=h2.lt
 have hb3l:=h3.lt
 have d0:=HSV.out.cell 1
 have d1:=H2.out.cell 0
 have d2:=HBB.out.cell 4
 have d3:=H3.out.cell 0
 have HLL:=zz k1
 simp only [lGA,lGS,lGZ] at d0 d1 d2 d3
 obtain ⟨i0,hi,hz0,hz1,hz2⟩:=info_parts info175
 have hgl:g<w.heap.size:=by
  rcases k3.2 with ⟨h,_⟩ | ⟨g',cap,cur,h,_,hgb,_⟩
  ·cases h
  ·cases h;exact (Array.getElem?_eq_some_iff.1 hgb).1
 have nBg:B≠g:=fun h=>by rw [h,cg] at cB;omega
 have n2g:b2≠g:=fun h=>by rw [h,cg] at c2;omega
 have n3g:b3≠g:=fun h=>by rw [h,cg] at c3;omega
 obtain ⟨X,HX⟩:∃ X,Hid (X=makeSigR s p.sg.length p):=⟨_,rfl⟩
 rw [← HX.out]
 rw [← HX.out] at HEND
 clear hS0 h1 h2 h3 k1 k2 k3 k5 HX
 go_enter Tryz.func260,Tryz.ntmps260
 go_wp2_with fail
 generalize hW1:w.alloc (.cells #[.string (S s),.slice none 0 0] 175)=W1 at *
 clear hW1
 refine wp_region_noPanic ?_
 refine region_J 11 (N:=9) (S:=(fun W':World=>W'.cell? ⟨w.heap.size,1,none⟩=some (.slice none 0 0)∧W'.cell? ⟨b2,0,none⟩=some (.pointer (some ⟨B,0,none⟩))∧W'.cell? ⟨B,4,none⟩=some ((.slice (some ⟨g,0,none⟩) p.sg.length p.sg.length))∧W'.cell? ⟨b3,0,none⟩=some (.int .i64 p.sg.length))) (by kernel_rfl) (by kernel_rfl) ?_
 have hS:(fun W':World=>W'.cell? ⟨w.heap.size,1,none⟩=some (.slice none 0 0)∧W'.cell? ⟨b2,0,none⟩=some (.pointer (some ⟨B,0,none⟩))∧W'.cell? ⟨B,4,none⟩=some ((.slice (some ⟨g,0,none⟩) p.sg.length p.sg.length))∧W'.cell? ⟨b3,0,none⟩=some (.int .i64 p.sg.length)) W1.drew:=⟨d0,d1,d2,d3⟩
 refine take_E 0 6 (.pointer (some ⟨w.heap.size,1,none⟩)) rfl (Or.inl ⟨by rfl,fun W' hW=>by obtain ⟨s0,s1,s2,s3⟩:=hW;go_simp⟩) hS ?_
 refine take_E 1 7 (.slice none 0 0) rfl (Or.inl ⟨by rfl,fun W' hW=>by obtain ⟨s0,s1,s2,s3⟩:=hW;go_simp⟩) hS ?_
 refine take_E 2 8 (.pointer (some ⟨B,0,none⟩)) rfl (Or.inl ⟨by rfl,fun W' hW=>by obtain ⟨s0,s1,s2,s3⟩:=hW;go_simp⟩) hS ?_
 refine take_E 3 9 (.pointer (some ⟨B,0,none⟩)) rfl (Or.inl ⟨by rfl,fun W' hW=>by obtain ⟨s0,s1,s2,s3⟩:=hW;go_simp⟩) hS ?_
 refine take_E 4 10 (.pointer (some ⟨B,4,none⟩)) rfl (Or.inl ⟨by rfl,fun W' hW=>by obtain ⟨s0,s1,s2,s3⟩:=hW;go_simp⟩) hS ?_
 refine take_E 5 11 ((.slice (some ⟨g,0,none⟩) p.sg.length p.sg.length)) rfl (Or.inl ⟨by rfl,fun W' hW=>by obtain ⟨s0,s1,s2,s3⟩:=hW;go_simp⟩) hS ?_
 refine take_E 6 12 (.int .i64 p.sg.length) rfl (Or.inl ⟨by rfl,fun W' hW=>by obtain ⟨s0,s1,s2,s3⟩:=hW;go_simp⟩) hS ?_
 refine take_E 7 13 (.slice (some ⟨g,0,none⟩) 0 0) rfl (Or.inl ⟨by rfl,fun W' hW=>by obtain ⟨s0,s1,s2,s3⟩:=hW;go_simp⟩) hS ?_
 simp only [Act.put,lSI,lSZ,lSS]
 refine ready_1 8 (op_E fun K hK=>?_)
 refine wp_append_zero _ _ (by rfl) (by rfl) _ _ (by rfl) ?_
 obtain ⟨W2,hW2⟩:∃ W2,W2=W1.drew:=⟨_,rfl⟩
 rw [← hW2]
 have hbel:∀ {b:Nat} {C:Array Value} {t:TypeId},Hold b C t W1→Hold b C t W2:=fun h=>by rw [hW2];exact h
 have HSV2:=zz (hbel HSV.out)
 have H22:=zz (hbel H2.out)
 have H32:=zz (hbel H3.out)
 have HBB2:=zz (hbel HBB.out)
 have HKB2:Hid (∀ b,b<w.heap.size→W2.heap[b]?=w.heap[b]?):=fun b hb=>by rw [hW2];exact HB0.out.block b hb
 have HKO2:Hid (W2.os=w.os∧W2.tape=w.tape∧W2.output=w.output):=by rw [hW2];exact ⟨HB0.out.os,HB0.out.tape,HB0.out.output⟩
 have HROW2:Hid (W2.ownsRow 0 175 2 (.slice (some ⟨g,0,none⟩) p.sg.length p.sg.length) p.sg.length L.flatten):=by rw [hW2];exact HK3.out.drew
 have hzz2:w.heap.size<W2.heap.size:=by rw [hW2];exact hs1
 clear hbel hW2
 have v0:=HSV2.out.cell 1
 have v1:=H22.out.cell 0
 have v2:=HBB2.out.cell 4
 have v3:=H32.out.cell 0
 have vz:=HSV2.out.frozen 1
 simp only [lGA,lGS,lGZ] at v0 v1 v2 v3
 refine hK _ _ ⟨fun _=>⟨v0,v1,v2,v3⟩,?_⟩
 clear hK K hS
 refine ready_1 9 (op_E fun K hK=>?_)
 go_simp
 refine hK _ _ ⟨fun h=>absurd h (by omega),?_⟩
 clear hK K
 refine ready_1 10 (op_E fun K hK=>?_)
 go_simp
 refine hK _ _ ⟨fun h=>absurd h (by omega),?_⟩
 clear hK K
 refine done_J (by kernel_rfl) ?_ _
 refine NoPanic.normal ?_
 have HSV3:=zz (HSV2.out.set 1 (.slice none 0 0))
 have H23:=zz (H22.out.other (show b2≠w.heap.size by omega) 1 (.slice none 0 0))
 have H33:=zz (H32.out.other (show b3≠w.heap.size by omega) 1 (.slice none 0 0))
 have HBB3:=zz (HBB2.out.other (show B≠w.heap.size by omega) 1 (.slice none 0 0))
 have HKB3:Hid (∀ b,b<w.heap.size→(W2.setCell ⟨w.heap.size,1,none⟩ (.slice none 0 0)).heap[b]?=w.heap[b]?):=fun b hb=>(Below.heap_setCell _ _ _ b (by show b≠w.heap.size;omega)).trans (HKB2.out b hb)
 have HKO3:Hid ((W2.setCell ⟨w.heap.size,1,none⟩ (.slice none 0 0)).os=w.os∧(W2.setCell ⟨w.heap.size,1,none⟩ (.slice none 0 0)).tape=w.tape∧(W2.setCell ⟨w.heap.size,1,none⟩ (.slice none 0 0)).output=w.output):=HKO2.out
 have HROW3:Hid ((W2.setCell ⟨w.heap.size,1,none⟩ (.slice none 0 0)).ownsRow 0 175 2 ((.slice (some ⟨g,0,none⟩) p.sg.length p.sg.length)) p.sg.length L.flatten):=row_keep HROW2.out fun g' hg' hl=>Below.heap_setCell _ _ _ g' (fun e=>by
  have e':g'=w.heap.size:=e
  have:g=g':=by simpa [Value.ownBlock] using hg'
  omega)
 have hz3:w.heap.size<(W2.setCell ⟨w.heap.size,1,none⟩ (.slice none 0 0)).heap.size:=by simpa using hzz2
 generalize (W2.setCell ⟨w.heap.size,1,none⟩ (.slice none 0 0))=W3 at *
 have HCUT:=zz (row_cut HROW3.out (Nat.le_refl _))
 have d0:=HSV3.out.cell 0
 have d4:=HSV3.out.cell 1
 have d1:=H23.out.cell 0
 have d2:=HBB3.out.cell 4
 have d3:=H33.out.cell 0
 simp only [lSI,lSZ,lSS,lGA,lGS,lGZ] at d0 d1 d2 d3 d4
 clear HSV2 H22 H32 HBB2 HKB2 HKO2 HROW2 v0 v1 v2 v3 vz
 go_wp2_with fail
 refine wp_region_noPanic ?_
 refine region_J 13 (N:=10) (S:=(fun W':World=>W'.cell? ⟨b2,0,none⟩=some (.pointer (some ⟨B,0,none⟩))∧W'.cell? ⟨B,4,none⟩=some ((.slice (some ⟨g,0,none⟩) p.sg.length p.sg.length))∧W'.cell? ⟨b3,0,none⟩=some (.int .i64 p.sg.length)∧W'.cell? ⟨w.heap.size,0,none⟩=some (.string (S s))∧W'.cell? ⟨w.heap.size,1,none⟩=some (.slice none 0 0))) (by kernel_rfl) (by kernel_rfl) ?_
 have hS:(fun W':World=>W'.cell? ⟨b2,0,none⟩=some (.pointer (some ⟨B,0,none⟩))∧W'.cell? ⟨B,4,none⟩=some ((.slice (some ⟨g,0,none⟩) p.sg.length p.sg.length))∧W'.cell? ⟨b3,0,none⟩=some (.int .i64 p.sg.length)∧W'.cell? ⟨w.heap.size,0,none⟩=some (.string (S s))∧W'.cell? ⟨w.heap.size,1,none⟩=some (.slice none 0 0)) W3.drew:=⟨d1,d2,d3,d0,d4⟩
 refine take_E 0 16 (.pointer (some ⟨B,0,none⟩)) rfl (Or.inl ⟨by rfl,fun W' hW=>by obtain ⟨s0,s1,s2,s3,s4⟩:=hW;go_simp⟩) hS ?_
 refine take_E 1 17 (.pointer (some ⟨B,0,none⟩)) rfl (Or.inl ⟨by rfl,fun W' hW=>by obtain ⟨s0,s1,s2,s3,s4⟩:=hW;go_simp⟩) hS ?_
 refine take_E 2 18 (.pointer (some ⟨B,0,none⟩)) rfl (Or.inl ⟨by rfl,fun W' hW=>by obtain ⟨s0,s1,s2,s3,s4⟩:=hW;go_simp⟩) hS ?_
 refine take_E 3 19 (.pointer (some ⟨B,4,none⟩)) rfl (Or.inl ⟨by rfl,fun W' hW=>by obtain ⟨s0,s1,s2,s3,s4⟩:=hW;go_simp⟩) hS ?_
 refine take_E 4 20 ((.slice (some ⟨g,0,none⟩) p.sg.length p.sg.length)) rfl (Or.inl ⟨by rfl,fun W' hW=>by obtain ⟨s0,s1,s2,s3,s4⟩:=hW;go_simp⟩) hS ?_
 refine take_E 5 21 (.int .i64 p.sg.length) rfl (Or.inl ⟨by rfl,fun W' hW=>by obtain ⟨s0,s1,s2,s3,s4⟩:=hW;go_simp⟩) hS ?_
 refine take_E 6 22 (.slice (some ⟨g,0,none⟩) p.sg.length p.sg.length) rfl (Or.inl ⟨by rfl,fun W' hW=>by obtain ⟨s0,s1,s2,s3,s4⟩:=hW;go_simp⟩) hS ?_
 refine take_E 7 23 (.agg #[.string (S s),.slice none 0 0]) rfl (Or.inl ⟨by rfl,fun W' hW=>by obtain ⟨s0,s1,s2,s3,s4⟩:=hW;go_simp⟩) hS ?_
 simp only [Act.put,lSI,lSZ,lSS]
 refine ready_1 8 (op_E fun K hK=>?_)
 go_simp
 have x1:=(H23.out.alloc (.cells #[.string (S s),.slice none 0 0] 175)).cell 0
 have x2:=(HBB3.out.alloc (.cells #[.string (S s),.slice none 0 0] 175)).cell 4
 have x3:=(H33.out.alloc (.cells #[.string (S s),.slice none 0 0] 175)).cell 0
 have x0:=(HSV3.out.alloc (.cells #[.string (S s),.slice none 0 0] 175)).cell 0
 have x4:=(HSV3.out.alloc (.cells #[.string (S s),.slice none 0 0] 175)).cell 1
 simp only [lSI,lSZ,lSS,lGA,lGS,lGZ] at x0 x1 x2 x3 x4
 refine hK _ _ ⟨fun _=>⟨x1,x2,x3,x0,x4⟩,?_⟩
 clear hK K
 refine ready_1 9 (op_E fun K hK=>?_)
 refine wp_append_lies _ _ _ _ (by rfl) 0 175 i0 _ 2 40 Tryz.underlying60 hi hz0 hz1 hz2 rfl (by omega) (.slice (some ⟨g,0,none⟩) p.sg.length p.sg.length) p.sg.length (L.flatten.take (p.sg.length * 2)) (by rfl) ((HCUT.out.alloc (.cells #[.string (S s),.slice none 0 0] 175)).drew) ⟨W3.heap.size,0,none⟩ 1 1 [.string (S s),.slice none 0 0] (by rfl) (by rfl) (World.news_of_block (cs:=#[.string (S s),.slice none 0 0]) (t:=175) (fr:=(0,0)) (heap_alloc_new W3 _)) (by simp [Value.oneCell']) (by omega) (by unfold maxLen;omega) (by omega) (by omega) (W3.heap.size+1) (by simp) ?_
 intro g2 cap2 W5 hown5 hgrow5 hat5 hlt5'
 have kp5:∀ b,b<W3.heap.size→some b≠((.slice (some ⟨g,0,none⟩) p.sg.length p.sg.length):Value).ownBlock→W5.heap[b]?=W3.heap[b]?:=fun b hb hne=>(hgrow5.block b (by simp;omega) hne).trans (Below.heap_alloc W3 _ b hb)
 have hsz5:W3.heap.size+1≤W5.heap.size:=by have:=hgrow5.size;simpa using this
 have hold5:∀ {b:Nat} {C:Array Value} {t:TypeId},Hold b C t W3→some b≠((.slice (some ⟨g,0,none⟩) p.sg.length p.sg.length):Value).ownBlock→Hold b C t W5:=fun h hne=>(kp5 _ h.lt hne).trans h
 have HB5:=zz (hold5 HBB3.out (by simp [Value.ownBlock];omega))
 have u1:=(hold5 H23.out (by simp [Value.ownBlock];omega)).cell 0
 have u2:=HB5.out.cell 4
 have u3:=(hold5 H33.out (by simp [Value.ownBlock];omega)).cell 0
 have hE5:=hold5 HSV3.out (by simp [Value.ownBlock];omega)
 have u0:=hE5.cell 0
 have u4:=hE5.cell 1
 have uz:=HB5.out.frozen 4
 simp only [lSI,lSZ,lSS,lGA,lGS,lGZ] at u0 u1 u2 u3 u4
 have HO5:=zz hown5
 have HG5:Hid (((.slice (some ⟨g,0,none⟩) p.sg.length p.sg.length):Value).ownBlock=some g2∨W3.heap.size<g2):=by
  rcases hat5 with h | h
  ·exact .inl h
  ·right;omega
 have HKK5:Hid (∀ b,b<W3.heap.size→some b≠((.slice (some ⟨g,0,none⟩) p.sg.length p.sg.length):Value).ownBlock→W5.heap[b]?=W3.heap[b]?):=kp5
 have HKO5:Hid (W5.os=w.os∧W5.tape=w.tape∧W5.output=w.output):=⟨hgrow5.os.trans HKO3.out.1,hgrow5.tape.trans HKO3.out.2.1,hgrow5.output.trans HKO3.out.2.2⟩
 refine hK _ _ ⟨fun _=>⟨u1,u2,u3,u0,u4⟩,?_⟩
 clear hK K hown5 hgrow5 hat5 kp5 hold5 hE5
 refine ready_1 10 (op_E fun K hK=>?_)
 go_simp
 refine hK _ _ ⟨fun h=>absurd h (by omega),?_⟩
 clear hK K
 refine ready_1 11 (op_E fun K hK=>?_)
 go_simp
 refine hK _ _ ⟨fun h=>absurd h (by omega),?_⟩
 clear hK K
 refine ready_1 12 (op_E fun K hK=>?_)
 go_simp
 refine hK _ _ ⟨fun h=>absurd h (by omega),?_⟩
 clear hK K
 refine done_J (by kernel_rfl) ?_ _
 refine NoPanic.normal ?_
 go_wp2_with fail
 go_end0
 refine HEND.out _ none g2 cap2 0 (HB5.out.set 4 _) ?_ ?_ ?_ ?_
 ·rw [Nat.sub_self];exact row_other HO5.out HB5.out (by decide) 4 _
 ·rcases HG5.out with h | h
  ·have:g=g2:=by simpa [Value.ownBlock] using h
   subst this
   exact .inl ⟨cg,hgl⟩
  ·right;omega
 ·first | exact .inl ⟨rfl,rfl,rfl⟩ | exact .inl ⟨trivial,rfl,rfl⟩
 ·refine ⟨HKO5.out.1,HKO5.out.2.1,HKO5.out.2.2,by simp;omega,fun b hb=>?_⟩
  refine (Below.heap_setCell _ _ _ b (fun e=>hb.2.1 (by rw [show b=B from e];exact cB))).trans ((HKK5.out b (by omega) (fun e=>hb.2.2 (by
   have:b=g:=by simpa [Value.ownBlock] using e
   rw [this];exact cg))).trans (HKB3.out b hb.1))
theorem makingSig1_room {c:Nat→Nat} {B:Nat} {l:List Tk} {p:Ps} {w:World} {b1 b2 b3:Nat} {s:List UInt8} {tp:Option Addr} {tc:Nat} {vr ve vf vd vp:Value} {L:List (List Value)} {g cq:Nat} (cg:c g=4) (hS0:PSt c B l p tp tc vr ve (.slice (some ⟨g,0,none⟩) p.sg.length cq) vf vd vp w) (hR:RuV B c w p.ru.length (.func (.func 260) #[] #[bx b1,bx b2,bx b3]) (rSig s p.sg.length)) (k1:L.length=p.sg.length) (k2:∀ ds ∈ L,ds.length=2) (k3:w.ownsRow 0 175 2 (.slice (some ⟨g,0,none⟩) p.sg.length cq) p.sg.length L.flatten) (k5:∀ (i:Nat) t,p.sg[i]?=some t→∃ ds,L[i]?=some ds∧SgIn (Im0 c w) w t ds) (hcq:p.sg.length<cq) (hx:p.sg.length≤1000000000) :
 Calls Tryz.prog 260 #[.pointer (some ⟨b1,0,none⟩),.pointer (some ⟨b2,0,none⟩),.pointer (some ⟨b3,0,none⟩)] w (RQ c B l w (makeSigR s p.sg.length p)):=by
 obtain ⟨b1',b2',b3',hv,c1,c2,c3,h1,h2,h3,hsl⟩:=hR
 obtain ⟨rfl,rfl,rfl⟩:b1=b1'∧b2=b2'∧b3=b3':=by simpa using hv
 clear hv
 simp only [rSig] at h1 h3 hsl
 have hBl:=hS0.hold.lt
 have cB:=hS0.colB
 have n2B:b2≠B:=fun h=>by rw [h,cB] at c2;omega
 have n3B:b3≠B:=fun h=>by rw [h,cB] at c3;omega
 have HRC:Hid (∀ (j:Nat) v,L.flatten[j]?=some v→True):=fun _ _ _=>trivial
 have HO:Hid (∀ u ∈ L.flatten,u.oneCell'=true):=flat_oneS k1 k5 fun i t ds h=>h.one.2
 have HFL:Hid (L.flatten.length=L.length * 2):=flatten_len k2
 have HFD:Hid (L.flatten.drop (p.sg.length * 2)=(L.drop p.sg.length).flatten):=flatten_drop p.sg.length k2
 have HEND:=zz fun W pk g2 cap2 ck=>sig_end (s:=s) (n0:=p.sg.length) (W:=W) (pk:=pk) (g2:=g2) (cap2:=cap2) (ck:=ck) hS0 hsl k1 k2 k5 (by omega)
 have a1:=h1.cell 0
 simp only [lGA,lGZ] at a1
 have H2:=zz (h2.alloc (.cells #[.string (S s),.slice none 0 0] 175))
 have H3:=zz (h3.alloc (.cells #[.string (S s),.slice none 0 0] 175))
 have HBB:=zz (hS0.hold.alloc (.cells #[.string (S s),.slice none 0 0] 175))
 have HSV:=zz (Hold.new w #[.string (S s),.slice none 0 0] 175)
 have HK3:=zz (k3.alloc (.cells #[.string (S s),.slice none 0 0] 175))
 have HB0:=zz ((Below.refl _ w).alloc (Nat.le_refl _) (.cells #[.string (S s),.slice none 0 0] 175))
 have hs1:w.heap.size<(w.alloc (.cells #[.string (S s),.slice none 0 0] 175)).heap.size:=by simp
 have hb2l:=h2.lt
 have hb3l:=h3.lt
 have d0:=HSV.out.cell 1
 have d1:=H2.out.cell 0
 have d2:=HBB.out.cell 4
 have d3:=H3.out.cell 0
 have HLL:=zz k1
 simp only [lGA,lGS,lGZ] at d0 d1 d2 d3
 obtain ⟨i0,hi,hz0,hz1,hz2⟩:=info_parts info175
 have hgl:g<w.heap.size:=by
  rcases k3.2 with ⟨h,_⟩ | ⟨g',cap,cur,h,_,hgb,_⟩
  ·cases h
  ·cases h;exact (Array.getElem?_eq_some_iff.1 hgb).1
 have nBg:B≠g:=fun h=>by rw [h,cg] at cB;omega
 have n2g:b2≠g:=fun h=>by rw [h,cg] at c2;omega
 have n3g:b3≠g:=fun h=>by rw [h,cg] at c3;omega
 have hlt1:(p.sg.length:Int)≤(cq:Int):=by omega
 have hlt3:p.sg.length≤cq:=by omega
 have hlt5:cq≠p.sg.length:=by omega
 obtain ⟨X,HX⟩:∃ X,Hid (X=makeSigR s p.sg.length p):=⟨_,rfl⟩
 rw [← HX.out]
 rw [← HX.out] at HEND
 clear hS0 h1 h2 h3 k1 k2 k3 k5 HX
 go_enter Tryz.func260,Tryz.ntmps260
 go_wp2_with fail
 generalize hW1:w.alloc (.cells #[.string (S s),.slice none 0 0] 175)=W1 at *
 clear hW1
 refine wp_region_noPanic ?_
 refine region_J 11 (N:=9) (S:=(fun W':World=>W'.cell? ⟨w.heap.size,1,none⟩=some (.slice none 0 0)∧W'.cell? ⟨b2,0,none⟩=some (.pointer (some ⟨B,0,none⟩))∧W'.cell? ⟨B,4,none⟩=some ((.slice (some ⟨g,0,none⟩) p.sg.length cq))∧W'.cell? ⟨b3,0,none⟩=some (.int .i64 p.sg.length))) (by kernel_rfl) (by kernel_rfl) ?_
 have hS:(fun W':World=>W'.cell? ⟨w.heap.size,1,none⟩=some (.slice none 0 0)∧W'.cell? ⟨b2,0,none⟩=some (.pointer (some ⟨B,0,none⟩))∧W'.cell? ⟨B,4,none⟩=some ((.slice (some ⟨g,0,none⟩) p.sg.length cq))∧W'.cell? ⟨b3,0,none⟩=some (.int .i64 p.sg.length)) W1.drew:=⟨d0,d1,d2,d3⟩
 refine take_E 0 6 (.pointer (some ⟨w.heap.size,1,none⟩)) rfl (Or.inl ⟨by rfl,fun W' hW=>by obtain ⟨s0,s1,s2,s3⟩:=hW;go_simp⟩) hS ?_
 refine take_E 1 7 (.slice none 0 0) rfl (Or.inl ⟨by rfl,fun W' hW=>by obtain ⟨s0,s1,s2,s3⟩:=hW;go_simp⟩) hS ?_
 refine take_E 2 8 (.pointer (some ⟨B,0,none⟩)) rfl (Or.inl ⟨by rfl,fun W' hW=>by obtain ⟨s0,s1,s2,s3⟩:=hW;go_simp⟩) hS ?_
 refine take_E 3 9 (.pointer (some ⟨B,0,none⟩)) rfl (Or.inl ⟨by rfl,fun W' hW=>by obtain ⟨s0,s1,s2,s3⟩:=hW;go_simp⟩) hS ?_
 refine take_E 4 10 (.pointer (some ⟨B,4,none⟩)) rfl (Or.inl ⟨by rfl,fun W' hW=>by obtain ⟨s0,s1,s2,s3⟩:=hW;go_simp⟩) hS ?_
 refine take_E 5 11 ((.slice (some ⟨g,0,none⟩) p.sg.length cq)) rfl (Or.inl ⟨by rfl,fun W' hW=>by obtain ⟨s0,s1,s2,s3⟩:=hW;go_simp⟩) hS ?_
 refine take_E 6 12 (.int .i64 p.sg.length) rfl (Or.inl ⟨by rfl,fun W' hW=>by obtain ⟨s0,s1,s2,s3⟩:=hW;go_simp⟩) hS ?_
 refine take_E 7 13 (.slice (some ⟨g,p.sg.length * 2,none⟩) 0 (cq - p.sg.length)) rfl (Or.inl ⟨by rfl,fun W' hW=>by obtain ⟨s0,s1,s2,s3⟩:=hW;go_simp⟩) hS ?_
 simp only [Act.put,lSI,lSZ,lSS]
 refine ready_1 8 (op_E fun K hK=>?_)
 refine wp_append_zero _ _ (by rfl) (by rfl) _ _ (by rfl) ?_
 obtain ⟨W2,hW2⟩:∃ W2,W2=W1.drew:=⟨_,rfl⟩
 rw [← hW2]
 have hbel:∀ {b:Nat} {C:Array Value} {t:TypeId},Hold b C t W1→Hold b C t W2:=fun h=>by rw [hW2];exact h
 have HSV2:=zz (hbel HSV.out)
 have H22:=zz (hbel H2.out)
 have H32:=zz (hbel H3.out)
 have HBB2:=zz (hbel HBB.out)
 have HKB2:Hid (∀ b,b<w.heap.size→W2.heap[b]?=w.heap[b]?):=fun b hb=>by rw [hW2];exact HB0.out.block b hb
 have HKO2:Hid (W2.os=w.os∧W2.tape=w.tape∧W2.output=w.output):=by rw [hW2];exact ⟨HB0.out.os,HB0.out.tape,HB0.out.output⟩
 have HROW2:Hid (W2.ownsRow 0 175 2 (.slice (some ⟨g,0,none⟩) p.sg.length cq) p.sg.length L.flatten):=by rw [hW2];exact HK3.out.drew
 have hzz2:w.heap.size<W2.heap.size:=by rw [hW2];exact hs1
 clear hbel hW2
 have v0:=HSV2.out.cell 1
 have v1:=H22.out.cell 0
 have v2:=HBB2.out.cell 4
 have v3:=H32.out.cell 0
 have vz:=HSV2.out.frozen 1
 simp only [lGA,lGS,lGZ] at v0 v1 v2 v3
 refine hK _ _ ⟨fun _=>⟨v0,v1,v2,v3⟩,?_⟩
 clear hK K hS
 refine ready_1 9 (op_E fun K hK=>?_)
 go_simp
 refine hK _ _ ⟨fun h=>absurd h (by omega),?_⟩
 clear hK K
 refine ready_1 10 (op_E fun K hK=>?_)
 go_simp
 refine hK _ _ ⟨fun h=>absurd h (by omega),?_⟩
 clear hK K
 refine done_J (by kernel_rfl) ?_ _
 refine NoPanic.normal ?_
 have HSV3:=zz (HSV2.out.set 1 (.slice none 0 0))
 have H23:=zz (H22.out.other (show b2≠w.heap.size by omega) 1 (.slice none 0 0))
 have H33:=zz (H32.out.other (show b3≠w.heap.size by omega) 1 (.slice none 0 0))
 have HBB3:=zz (HBB2.out.other (show B≠w.heap.size by omega) 1 (.slice none 0 0))
 have HKB3:Hid (∀ b,b<w.heap.size→(W2.setCell ⟨w.heap.size,1,none⟩ (.slice none 0 0)).heap[b]?=w.heap[b]?):=fun b hb=>(Below.heap_setCell _ _ _ b (by show b≠w.heap.size;omega)).trans (HKB2.out b hb)
 have HKO3:Hid ((W2.setCell ⟨w.heap.size,1,none⟩ (.slice none 0 0)).os=w.os∧(W2.setCell ⟨w.heap.size,1,none⟩ (.slice none 0 0)).tape=w.tape∧(W2.setCell ⟨w.heap.size,1,none⟩ (.slice none 0 0)).output=w.output):=HKO2.out
 have HROW3:Hid ((W2.setCell ⟨w.heap.size,1,none⟩ (.slice none 0 0)).ownsRow 0 175 2 ((.slice (some ⟨g,0,none⟩) p.sg.length cq)) p.sg.length L.flatten):=row_keep HROW2.out fun g' hg' hl=>Below.heap_setCell _ _ _ g' (fun e=>by
  have e':g'=w.heap.size:=e
  have:g=g':=by simpa [Value.ownBlock] using hg'
  omega)
 have hz3:w.heap.size<(W2.setCell ⟨w.heap.size,1,none⟩ (.slice none 0 0)).heap.size:=by simpa using hzz2
 generalize (W2.setCell ⟨w.heap.size,1,none⟩ (.slice none 0 0))=W3 at *
 have HCUT:=zz (row_cut HROW3.out (Nat.le_refl _))
 have d0:=HSV3.out.cell 0
 have d4:=HSV3.out.cell 1
 have d1:=H23.out.cell 0
 have d2:=HBB3.out.cell 4
 have d3:=H33.out.cell 0
 simp only [lSI,lSZ,lSS,lGA,lGS,lGZ] at d0 d1 d2 d3 d4
 clear HSV2 H22 H32 HBB2 HKB2 HKO2 HROW2 v0 v1 v2 v3 vz
 go_wp2_with fail
 refine wp_region_noPanic ?_
 refine region_J 13 (N:=10) (S:=(fun W':World=>W'.cell? ⟨b2,0,none⟩=some (.pointer (some ⟨B,0,none⟩))∧W'.cell? ⟨B,4,none⟩=some ((.slice (some ⟨g,0,none⟩) p.sg.length cq))∧W'.cell? ⟨b3,0,none⟩=some (.int .i64 p.sg.length)∧W'.cell? ⟨w.heap.size,0,none⟩=some (.string (S s))∧W'.cell? ⟨w.heap.size,1,none⟩=some (.slice none 0 0))) (by kernel_rfl) (by kernel_rfl) ?_
 have hS:(fun W':World=>W'.cell? ⟨b2,0,none⟩=some (.pointer (some ⟨B,0,none⟩))∧W'.cell? ⟨B,4,none⟩=some ((.slice (some ⟨g,0,none⟩) p.sg.length cq))∧W'.cell? ⟨b3,0,none⟩=some (.int .i64 p.sg.length)∧W'.cell? ⟨w.heap.size,0,none⟩=some (.string (S s))∧W'.cell? ⟨w.heap.size,1,none⟩=some (.slice none 0 0)) W3.drew:=⟨d1,d2,d3,d0,d4⟩
 refine take_E 0 16 (.pointer (some ⟨B,0,none⟩)) rfl (Or.inl ⟨by rfl,fun W' hW=>by obtain ⟨s0,s1,s2,s3,s4⟩:=hW;go_simp⟩) hS ?_
 refine take_E 1 17 (.pointer (some ⟨B,0,none⟩)) rfl (Or.inl ⟨by rfl,fun W' hW=>by obtain ⟨s0,s1,s2,s3,s4⟩:=hW;go_simp⟩) hS ?_
 refine take_E 2 18 (.pointer (some ⟨B,0,none⟩)) rfl (Or.inl ⟨by rfl,fun W' hW=>by obtain ⟨s0,s1,s2,s3,s4⟩:=hW;go_simp⟩) hS ?_
 refine take_E 3 19 (.pointer (some ⟨B,4,none⟩)) rfl (Or.inl ⟨by rfl,fun W' hW=>by obtain ⟨s0,s1,s2,s3,s4⟩:=hW;go_simp⟩) hS ?_
 refine take_E 4 20 ((.slice (some ⟨g,0,none⟩) p.sg.length cq)) rfl (Or.inl ⟨by rfl,fun W' hW=>by obtain ⟨s0,s1,s2,s3,s4⟩:=hW;go_simp⟩) hS ?_
 refine take_E 5 21 (.int .i64 p.sg.length) rfl (Or.inl ⟨by rfl,fun W' hW=>by obtain ⟨s0,s1,s2,s3,s4⟩:=hW;go_simp⟩) hS ?_
 refine take_E 6 22 (.slice (some ⟨g,0,none⟩) p.sg.length cq) rfl (Or.inl ⟨by rfl,fun W' hW=>by obtain ⟨s0,s1,s2,s3,s4⟩:=hW;go_simp⟩) hS ?_
 refine take_E 7 23 (.agg #[.string (S s),.slice none 0 0]) rfl (Or.inl ⟨by rfl,fun W' hW=>by obtain ⟨s0,s1,s2,s3,s4⟩:=hW;go_simp⟩) hS ?_
 simp only [Act.put,lSI,lSZ,lSS]
 refine ready_1 8 (op_E fun K hK=>?_)
 go_simp
 have x1:=(H23.out.alloc (.cells #[.string (S s),.slice none 0 0] 175)).cell 0
 have x2:=(HBB3.out.alloc (.cells #[.string (S s),.slice none 0 0] 175)).cell 4
 have x3:=(H33.out.alloc (.cells #[.string (S s),.slice none 0 0] 175)).cell 0
 have x0:=(HSV3.out.alloc (.cells #[.string (S s),.slice none 0 0] 175)).cell 0
 have x4:=(HSV3.out.alloc (.cells #[.string (S s),.slice none 0 0] 175)).cell 1
 simp only [lSI,lSZ,lSS,lGA,lGS,lGZ] at x0 x1 x2 x3 x4
 refine hK _ _ ⟨fun _=>⟨x1,x2,x3,x0,x4⟩,?_⟩
 clear hK K
 refine ready_1 9 (op_E fun K hK=>?_)
 refine wp_append_lies _ _ _ _ (by rfl) 0 175 i0 _ 2 40 Tryz.underlying60 hi hz0 hz1 hz2 rfl (by omega) (.slice (some ⟨g,0,none⟩) p.sg.length cq) p.sg.length (L.flatten.take (p.sg.length * 2)) (by rfl) ((HCUT.out.alloc (.cells #[.string (S s),.slice none 0 0] 175)).drew) ⟨W3.heap.size,0,none⟩ 1 1 [.string (S s),.slice none 0 0] (by rfl) (by rfl) (World.news_of_block (cs:=#[.string (S s),.slice none 0 0]) (t:=175) (fr:=(0,0)) (heap_alloc_new W3 _)) (by simp [Value.oneCell']) (by omega) (by unfold maxLen;omega) (by omega) (by omega) (W3.heap.size+1) (by simp) ?_
 intro g2 cap2 W5 hown5 hgrow5 hat5 hlt5'
 have kp5:∀ b,b<W3.heap.size→some b≠((.slice (some ⟨g,0,none⟩) p.sg.length cq):Value).ownBlock→W5.heap[b]?=W3.heap[b]?:=fun b hb hne=>(hgrow5.block b (by simp;omega) hne).trans (Below.heap_alloc W3 _ b hb)
 have hsz5:W3.heap.size+1≤W5.heap.size:=by have:=hgrow5.size;simpa using this
 have hold5:∀ {b:Nat} {C:Array Value} {t:TypeId},Hold b C t W3→some b≠((.slice (some ⟨g,0,none⟩) p.sg.length cq):Value).ownBlock→Hold b C t W5:=fun h hne=>(kp5 _ h.lt hne).trans h
 have HB5:=zz (hold5 HBB3.out (by simp [Value.ownBlock];omega))
 have u1:=(hold5 H23.out (by simp [Value.ownBlock];omega)).cell 0
 have u2:=HB5.out.cell 4
 have u3:=(hold5 H33.out (by simp [Value.ownBlock];omega)).cell 0
 have hE5:=hold5 HSV3.out (by simp [Value.ownBlock];omega)
 have u0:=hE5.cell 0
 have u4:=hE5.cell 1
 have uz:=HB5.out.frozen 4
 simp only [lSI,lSZ,lSS,lGA,lGS,lGZ] at u0 u1 u2 u3 u4
 have HO5:=zz hown5
 have HG5:Hid (((.slice (some ⟨g,0,none⟩) p.sg.length cq):Value).ownBlock=some g2∨W3.heap.size<g2):=by
  rcases hat5 with h | h
  ·exact .inl h
  ·right;omega
 have HKK5:Hid (∀ b,b<W3.heap.size→some b≠((.slice (some ⟨g,0,none⟩) p.sg.length cq):Value).ownBlock→W5.heap[b]?=W3.heap[b]?):=kp5
 have HKO5:Hid (W5.os=w.os∧W5.tape=w.tape∧W5.output=w.output):=⟨hgrow5.os.trans HKO3.out.1,hgrow5.tape.trans HKO3.out.2.1,hgrow5.output.trans HKO3.out.2.2⟩
 refine hK _ _ ⟨fun _=>⟨u1,u2,u3,u0,u4⟩,?_⟩
 clear hK K hown5 hgrow5 hat5 kp5 hold5 hE5
 refine ready_1 10 (op_E fun K hK=>?_)
 go_simp
 refine hK _ _ ⟨fun h=>absurd h (by omega),?_⟩
 clear hK K
 refine ready_1 11 (op_E fun K hK=>?_)
 go_simp
 refine hK _ _ ⟨fun h=>absurd h (by omega),?_⟩
 clear hK K
 refine ready_1 12 (op_E fun K hK=>?_)
 go_simp
 refine hK _ _ ⟨fun h=>absurd h (by omega),?_⟩
 clear hK K
 refine done_J (by kernel_rfl) ?_ _
 refine NoPanic.normal ?_
 go_wp2_with fail
 go_end0
 refine HEND.out _ none g2 cap2 0 (HB5.out.set 4 _) ?_ ?_ ?_ ?_
 ·rw [Nat.sub_self];exact row_other HO5.out HB5.out (by decide) 4 _
 ·rcases HG5.out with h | h
  ·have:g=g2:=by simpa [Value.ownBlock] using h
   subst this
   exact .inl ⟨cg,hgl⟩
  ·right;omega
 ·first | exact .inl ⟨rfl,rfl,rfl⟩ | exact .inl ⟨trivial,rfl,rfl⟩
 ·refine ⟨HKO5.out.1,HKO5.out.2.1,HKO5.out.2.2,by simp;omega,fun b hb=>?_⟩
  refine (Below.heap_setCell _ _ _ b (fun e=>hb.2.1 (by rw [show b=B from e];exact cB))).trans ((HKK5.out b (by omega) (fun e=>hb.2.2 (by
   have:b=g:=by simpa [Value.ownBlock] using e
   rw [this];exact cg))).trans (HKB3.out b hb.1))
theorem makingSig1_none {c:Nat→Nat} {B:Nat} {l:List Tk} {p:Ps} {w:World} {b1 b2 b3:Nat} {s:List UInt8} {tp:Option Addr} {tc:Nat} {vr ve vf vd vp:Value} {L:List (List Value)}  (hS0:PSt c B l p tp tc vr ve (.slice none 0 0) vf vd vp w) (hR:RuV B c w p.ru.length (.func (.func 260) #[] #[bx b1,bx b2,bx b3]) (rSig s 0)) (k1:L.length=p.sg.length) (k2:∀ ds ∈ L,ds.length=2) (k3:w.ownsRow 0 175 2 (.slice none 0 0) p.sg.length L.flatten) (k5:∀ (i:Nat) t,p.sg[i]?=some t→∃ ds,L[i]?=some ds∧SgIn (Im0 c w) w t ds) (hnil:p.sg.length=0) (hx:p.sg.length≤1000000000) :
 Calls Tryz.prog 260 #[.pointer (some ⟨b1,0,none⟩),.pointer (some ⟨b2,0,none⟩),.pointer (some ⟨b3,0,none⟩)] w (RQ c B l w (makeSigR s 0 p)):=by
 obtain ⟨b1',b2',b3',hv,c1,c2,c3,h1,h2,h3,hsl⟩:=hR
 obtain ⟨rfl,rfl,rfl⟩:b1=b1'∧b2=b2'∧b3=b3':=by simpa using hv
 clear hv
 simp only [rSig] at h1 h3 hsl
 have hBl:=hS0.hold.lt
 have cB:=hS0.colB
 have n2B:b2≠B:=fun h=>by rw [h,cB] at c2;omega
 have n3B:b3≠B:=fun h=>by rw [h,cB] at c3;omega
 have HRC:Hid (∀ (j:Nat) v,L.flatten[j]?=some v→True):=fun _ _ _=>trivial
 have HO:Hid (∀ u ∈ L.flatten,u.oneCell'=true):=flat_oneS k1 k5 fun i t ds h=>h.one.2
 have HFL:Hid (L.flatten.length=L.length * 2):=flatten_len k2
 have HFD:Hid (L.flatten.drop (0 * 2)=(L.drop 0).flatten):=flatten_drop 0 k2
 have HEND:=zz fun W pk g2 cap2 ck=>sig_end (s:=s) (n0:=0) (W:=W) (pk:=pk) (g2:=g2) (cap2:=cap2) (ck:=ck) hS0 hsl k1 k2 k5 (by omega)
 have a1:=h1.cell 0
 simp only [lGA,lGZ] at a1
 have H2:=zz (h2.alloc (.cells #[.string (S s),.slice none 0 0] 175))
 have H3:=zz (h3.alloc (.cells #[.string (S s),.slice none 0 0] 175))
 have HBB:=zz (hS0.hold.alloc (.cells #[.string (S s),.slice none 0 0] 175))
 have HSV:=zz (Hold.new w #[.string (S s),.slice none 0 0] 175)
 have HK3:=zz (k3.alloc (.cells #[.string (S s),.slice none 0 0] 175))
 have HB0:=zz ((Below.refl _ w).alloc (Nat.le_refl _) (.cells #[.string (S s),.slice none 0 0] 175))
 have hs1:w.heap.size<(w.alloc (.cells #[.string (S s),.slice none 0 0] 175)).heap.size:=by simp
 have hb2l:=h2.lt
 have hb3l:=h3.lt
 have d0:=HSV.out.cell 1
 have d1:=H2.out.cell 0
 have d2:=HBB.out.cell 4
 have d3:=H3.out.cell 0
 have HLL:=zz k1
 simp only [lGA,lGS,lGZ] at d0 d1 d2 d3
 obtain ⟨i0,hi,hz0,hz1,hz2⟩:=info_parts info175
 rw [hnil] at HK3
 obtain ⟨X,HX⟩:∃ X,Hid (X=makeSigR s 0 p):=⟨_,rfl⟩
 rw [← HX.out]
 rw [← HX.out] at HEND
 clear hS0 h1 h2 h3 k1 k2 k3 k5 HX
 go_enter Tryz.func260,Tryz.ntmps260
 go_wp2_with fail
 generalize hW1:w.alloc (.cells #[.string (S s),.slice none 0 0] 175)=W1 at *
 clear hW1
 refine wp_region_noPanic ?_
 refine region_J 11 (N:=9) (S:=(fun W':World=>W'.cell? ⟨w.heap.size,1,none⟩=some (.slice none 0 0)∧W'.cell? ⟨b2,0,none⟩=some (.pointer (some ⟨B,0,none⟩))∧W'.cell? ⟨B,4,none⟩=some ((.slice none 0 0))∧W'.cell? ⟨b3,0,none⟩=some (.int .i64 0))) (by kernel_rfl) (by kernel_rfl) ?_
 have hS:(fun W':World=>W'.cell? ⟨w.heap.size,1,none⟩=some (.slice none 0 0)∧W'.cell? ⟨b2,0,none⟩=some (.pointer (some ⟨B,0,none⟩))∧W'.cell? ⟨B,4,none⟩=some ((.slice none 0 0))∧W'.cell? ⟨b3,0,none⟩=some (.int .i64 0)) W1.drew:=⟨d0,d1,d2,d3⟩
 refine take_E 0 6 (.pointer (some ⟨w.heap.size,1,none⟩)) rfl (Or.inl ⟨by rfl,fun W' hW=>by obtain ⟨s0,s1,s2,s3⟩:=hW;go_simp⟩) hS ?_
 refine take_E 1 7 (.slice none 0 0) rfl (Or.inl ⟨by rfl,fun W' hW=>by obtain ⟨s0,s1,s2,s3⟩:=hW;go_simp⟩) hS ?_
 refine take_E 2 8 (.pointer (some ⟨B,0,none⟩)) rfl (Or.inl ⟨by rfl,fun W' hW=>by obtain ⟨s0,s1,s2,s3⟩:=hW;go_simp⟩) hS ?_
 refine take_E 3 9 (.pointer (some ⟨B,0,none⟩)) rfl (Or.inl ⟨by rfl,fun W' hW=>by obtain ⟨s0,s1,s2,s3⟩:=hW;go_simp⟩) hS ?_
 refine take_E 4 10 (.pointer (some ⟨B,4,none⟩)) rfl (Or.inl ⟨by rfl,fun W' hW=>by obtain ⟨s0,s1,s2,s3⟩:=hW;go_simp⟩) hS ?_
 refine take_E 5 11 ((.slice none 0 0)) rfl (Or.inl ⟨by rfl,fun W' hW=>by obtain ⟨s0,s1,s2,s3⟩:=hW;go_simp⟩) hS ?_
 refine take_E 6 12 (.int .i64 0) rfl (Or.inl ⟨by rfl,fun W' hW=>by obtain ⟨s0,s1,s2,s3⟩:=hW;go_simp⟩) hS ?_
 refine take_E 7 13 (.slice none 0 0) rfl (Or.inl ⟨by rfl,fun W' hW=>by obtain ⟨s0,s1,s2,s3⟩:=hW;go_simp⟩) hS ?_
 simp only [Act.put,lSI,lSZ,lSS]
 refine ready_1 8 (op_E fun K hK=>?_)
 refine wp_append_zero _ _ (by rfl) (by rfl) _ _ (by rfl) ?_
 obtain ⟨W2,hW2⟩:∃ W2,W2=W1.drew:=⟨_,rfl⟩
 rw [← hW2]
 have hbel:∀ {b:Nat} {C:Array Value} {t:TypeId},Hold b C t W1→Hold b C t W2:=fun h=>by rw [hW2];exact h
 have HSV2:=zz (hbel HSV.out)
 have H22:=zz (hbel H2.out)
 have H32:=zz (hbel H3.out)
 have HBB2:=zz (hbel HBB.out)
 have HKB2:Hid (∀ b,b<w.heap.size→W2.heap[b]?=w.heap[b]?):=fun b hb=>by rw [hW2];exact HB0.out.block b hb
 have HKO2:Hid (W2.os=w.os∧W2.tape=w.tape∧W2.output=w.output):=by rw [hW2];exact ⟨HB0.out.os,HB0.out.tape,HB0.out.output⟩
 have HROW2:Hid (W2.ownsRow 0 175 2 (.slice none 0 0) 0 L.flatten):=by rw [hW2];exact HK3.out.drew
 have hzz2:w.heap.size<W2.heap.size:=by rw [hW2];exact hs1
 clear hbel hW2
 have v0:=HSV2.out.cell 1
 have v1:=H22.out.cell 0
 have v2:=HBB2.out.cell 4
 have v3:=H32.out.cell 0
 have vz:=HSV2.out.frozen 1
 simp only [lGA,lGS,lGZ] at v0 v1 v2 v3
 refine hK _ _ ⟨fun _=>⟨v0,v1,v2,v3⟩,?_⟩
 clear hK K hS
 refine ready_1 9 (op_E fun K hK=>?_)
 go_simp
 refine hK _ _ ⟨fun h=>absurd h (by omega),?_⟩
 clear hK K
 refine ready_1 10 (op_E fun K hK=>?_)
 go_simp
 refine hK _ _ ⟨fun h=>absurd h (by omega),?_⟩
 clear hK K
 refine done_J (by kernel_rfl) ?_ _
 refine NoPanic.normal ?_
 have HSV3:=zz (HSV2.out.set 1 (.slice none 0 0))
 have H23:=zz (H22.out.other (show b2≠w.heap.size by omega) 1 (.slice none 0 0))
 have H33:=zz (H32.out.other (show b3≠w.heap.size by omega) 1 (.slice none 0 0))
 have HBB3:=zz (HBB2.out.other (show B≠w.heap.size by omega) 1 (.slice none 0 0))
 have HKB3:Hid (∀ b,b<w.heap.size→(W2.setCell ⟨w.heap.size,1,none⟩ (.slice none 0 0)).heap[b]?=w.heap[b]?):=fun b hb=>(Below.heap_setCell _ _ _ b (by show b≠w.heap.size;omega)).trans (HKB2.out b hb)
 have HKO3:Hid ((W2.setCell ⟨w.heap.size,1,none⟩ (.slice none 0 0)).os=w.os∧(W2.setCell ⟨w.heap.size,1,none⟩ (.slice none 0 0)).tape=w.tape∧(W2.setCell ⟨w.heap.size,1,none⟩ (.slice none 0 0)).output=w.output):=HKO2.out
 have HROW3:Hid ((W2.setCell ⟨w.heap.size,1,none⟩ (.slice none 0 0)).ownsRow 0 175 2 ((.slice none 0 0)) 0 L.flatten):=row_keep HROW2.out fun g' hg' hl=>Below.heap_setCell _ _ _ g' (fun e=>by
  have e':g'=w.heap.size:=e
  simp [Value.ownBlock] at hg')
 have hz3:w.heap.size<(W2.setCell ⟨w.heap.size,1,none⟩ (.slice none 0 0)).heap.size:=by simpa using hzz2
 generalize (W2.setCell ⟨w.heap.size,1,none⟩ (.slice none 0 0))=W3 at *
 have HCUT:=zz (row_cut HROW3.out (Nat.le_refl _))
 have d0:=HSV3.out.cell 0
 have d4:=HSV3.out.cell 1
 have d1:=H23.out.cell 0
 have d2:=HBB3.out.cell 4
 have d3:=H33.out.cell 0
 simp only [lSI,lSZ,lSS,lGA,lGS,lGZ] at d0 d1 d2 d3 d4
 clear HSV2 H22 H32 HBB2 HKB2 HKO2 HROW2 v0 v1 v2 v3 vz
 go_wp2_with fail
 refine wp_region_noPanic ?_
 refine region_J 13 (N:=10) (S:=(fun W':World=>W'.cell? ⟨b2,0,none⟩=some (.pointer (some ⟨B,0,none⟩))∧W'.cell? ⟨B,4,none⟩=some ((.slice none 0 0))∧W'.cell? ⟨b3,0,none⟩=some (.int .i64 0)∧W'.cell? ⟨w.heap.size,0,none⟩=some (.string (S s))∧W'.cell? ⟨w.heap.size,1,none⟩=some (.slice none 0 0))) (by kernel_rfl) (by kernel_rfl) ?_
 have hS:(fun W':World=>W'.cell? ⟨b2,0,none⟩=some (.pointer (some ⟨B,0,none⟩))∧W'.cell? ⟨B,4,none⟩=some ((.slice none 0 0))∧W'.cell? ⟨b3,0,none⟩=some (.int .i64 0)∧W'.cell? ⟨w.heap.size,0,none⟩=some (.string (S s))∧W'.cell? ⟨w.heap.size,1,none⟩=some (.slice none 0 0)) W3.drew:=⟨d1,d2,d3,d0,d4⟩
 refine take_E 0 16 (.pointer (some ⟨B,0,none⟩)) rfl (Or.inl ⟨by rfl,fun W' hW=>by obtain ⟨s0,s1,s2,s3,s4⟩:=hW;go_simp⟩) hS ?_
 refine take_E 1 17 (.pointer (some ⟨B,0,none⟩)) rfl (Or.inl ⟨by rfl,fun W' hW=>by obtain ⟨s0,s1,s2,s3,s4⟩:=hW;go_simp⟩) hS ?_
 refine take_E 2 18 (.pointer (some ⟨B,0,none⟩)) rfl (Or.inl ⟨by rfl,fun W' hW=>by obtain ⟨s0,s1,s2,s3,s4⟩:=hW;go_simp⟩) hS ?_
 refine take_E 3 19 (.pointer (some ⟨B,4,none⟩)) rfl (Or.inl ⟨by rfl,fun W' hW=>by obtain ⟨s0,s1,s2,s3,s4⟩:=hW;go_simp⟩) hS ?_
 refine take_E 4 20 ((.slice none 0 0)) rfl (Or.inl ⟨by rfl,fun W' hW=>by obtain ⟨s0,s1,s2,s3,s4⟩:=hW;go_simp⟩) hS ?_
 refine take_E 5 21 (.int .i64 0) rfl (Or.inl ⟨by rfl,fun W' hW=>by obtain ⟨s0,s1,s2,s3,s4⟩:=hW;go_simp⟩) hS ?_
 refine take_E 6 22 (.slice none 0 0) rfl (Or.inl ⟨by rfl,fun W' hW=>by obtain ⟨s0,s1,s2,s3,s4⟩:=hW;go_simp⟩) hS ?_
 refine take_E 7 23 (.agg #[.string (S s),.slice none 0 0]) rfl (Or.inl ⟨by rfl,fun W' hW=>by obtain ⟨s0,s1,s2,s3,s4⟩:=hW;go_simp⟩) hS ?_
 simp only [Act.put,lSI,lSZ,lSS]
 refine ready_1 8 (op_E fun K hK=>?_)
 go_simp
 have x1:=(H23.out.alloc (.cells #[.string (S s),.slice none 0 0] 175)).cell 0
 have x2:=(HBB3.out.alloc (.cells #[.string (S s),.slice none 0 0] 175)).cell 4
 have x3:=(H33.out.alloc (.cells #[.string (S s),.slice none 0 0] 175)).cell 0
 have x0:=(HSV3.out.alloc (.cells #[.string (S s),.slice none 0 0] 175)).cell 0
 have x4:=(HSV3.out.alloc (.cells #[.string (S s),.slice none 0 0] 175)).cell 1
 simp only [lSI,lSZ,lSS,lGA,lGS,lGZ] at x0 x1 x2 x3 x4
 refine hK _ _ ⟨fun _=>⟨x1,x2,x3,x0,x4⟩,?_⟩
 clear hK K
 refine ready_1 9 (op_E fun K hK=>?_)
 refine wp_append_lies _ _ _ _ (by rfl) 0 175 i0 _ 2 40 Tryz.underlying60 hi hz0 hz1 hz2 rfl (by omega) (.slice none 0 0) 0 (L.flatten.take (0 * 2)) (by rfl) ((HCUT.out.alloc (.cells #[.string (S s),.slice none 0 0] 175)).drew) ⟨W3.heap.size,0,none⟩ 1 1 [.string (S s),.slice none 0 0] (by rfl) (by rfl) (World.news_of_block (cs:=#[.string (S s),.slice none 0 0]) (t:=175) (fr:=(0,0)) (heap_alloc_new W3 _)) (by simp [Value.oneCell']) (by omega) (by unfold maxLen;omega) (by omega) (by omega) (W3.heap.size+1) (by simp) ?_
 intro g2 cap2 W5 hown5 hgrow5 hat5 hlt5'
 have kp5:∀ b,b<W3.heap.size→some b≠((.slice none 0 0):Value).ownBlock→W5.heap[b]?=W3.heap[b]?:=fun b hb hne=>(hgrow5.block b (by simp;omega) hne).trans (Below.heap_alloc W3 _ b hb)
 have hsz5:W3.heap.size+1≤W5.heap.size:=by have:=hgrow5.size;simpa using this
 have hold5:∀ {b:Nat} {C:Array Value} {t:TypeId},Hold b C t W3→some b≠((.slice none 0 0):Value).ownBlock→Hold b C t W5:=fun h hne=>(kp5 _ h.lt hne).trans h
 have HB5:=zz (hold5 HBB3.out (by simp [Value.ownBlock]))
 have u1:=(hold5 H23.out (by simp [Value.ownBlock])).cell 0
 have u2:=HB5.out.cell 4
 have u3:=(hold5 H33.out (by simp [Value.ownBlock])).cell 0
 have hE5:=hold5 HSV3.out (by simp [Value.ownBlock])
 have u0:=hE5.cell 0
 have u4:=hE5.cell 1
 have uz:=HB5.out.frozen 4
 simp only [lSI,lSZ,lSS,lGA,lGS,lGZ] at u0 u1 u2 u3 u4
 have HO5:=zz hown5
 have HG5:Hid (((.slice none 0 0):Value).ownBlock=some g2∨W3.heap.size<g2):=by
  rcases hat5 with h | h
  ·exact .inl h
  ·right;omega
 have HKK5:Hid (∀ b,b<W3.heap.size→some b≠((.slice none 0 0):Value).ownBlock→W5.heap[b]?=W3.heap[b]?):=kp5
 have HKO5:Hid (W5.os=w.os∧W5.tape=w.tape∧W5.output=w.output):=⟨hgrow5.os.trans HKO3.out.1,hgrow5.tape.trans HKO3.out.2.1,hgrow5.output.trans HKO3.out.2.2⟩
 refine hK _ _ ⟨fun _=>⟨u1,u2,u3,u0,u4⟩,?_⟩
 clear hK K hown5 hgrow5 hat5 kp5 hold5 hE5
 refine ready_1 10 (op_E fun K hK=>?_)
 go_simp
 refine hK _ _ ⟨fun h=>absurd h (by omega),?_⟩
 clear hK K
 refine ready_1 11 (op_E fun K hK=>?_)
 go_simp
 refine hK _ _ ⟨fun h=>absurd h (by omega),?_⟩
 clear hK K
 refine ready_1 12 (op_E fun K hK=>?_)
 go_simp
 refine hK _ _ ⟨fun h=>absurd h (by omega),?_⟩
 clear hK K
 refine done_J (by kernel_rfl) ?_ _
 refine NoPanic.normal ?_
 go_wp2_with fail
 go_end0
 refine HEND.out _ none g2 cap2 0 (HB5.out.set 4 _) ?_ ?_ ?_ ?_
 ·rw [hnil];exact row_other HO5.out HB5.out (by decide) 4 _
 ·rcases HG5.out with h | h
  ·simp [Value.ownBlock] at h
  ·right;omega
 ·exact .inl ⟨hnil,rfl,rfl⟩
 ·refine ⟨HKO5.out.1,HKO5.out.2.1,HKO5.out.2.2,by simp;omega,fun b hb=>?_⟩
  refine (Below.heap_setCell _ _ _ b (fun e=>hb.2.1 (by rw [show b=B from e];exact cB))).trans ((HKK5.out b (by omega) (by simp [Value.ownBlock])).trans (HKB3.out b hb.1))
theorem makingSig1_any {c:Nat→Nat} {B:Nat} {l:List Tk} {p:Ps} {w:World} {b1 b2 b3:Nat} {s:List UInt8} {n0:Nat} (hP:PM c B l p w) (hR:RuV B c w p.ru.length (.func (.func 260) #[] #[bx b1,bx b2,bx b3]) (rSig s n0)) (hn:n0≤p.sg.length) (hx:p.sg.length≤1000000000) :
 Calls Tryz.prog 260 #[.pointer (some ⟨b1,0,none⟩),.pointer (some ⟨b2,0,none⟩),.pointer (some ⟨b3,0,none⟩)] w (RQ c B l w (makeSigR s n0 p)):=by
 obtain ⟨tp,tc,vr,ve,vs,vf,vd,vp,hS0⟩:=hP
 obtain ⟨L,k1,k2,k3,k4,k5⟩:=hS0.sgs
 rcases k3.2 with ⟨rfl,h0⟩ | ⟨g,cq,cur,rfl,_,hgb,r1,_⟩
 ·obtain rfl:n0=0:=by omega
  exact makingSig1_none hS0 hR k1 k2 k3 k5 h0 hx
 ·have cg:=k4 g rfl
  rcases Nat.lt_or_ge n0 p.sg.length with h | h
  ·exact makingSig1_some cg hS0 hR k1 k2 k3 k5 h hx
  ·obtain rfl:n0=p.sg.length:=by omega
   rcases Nat.lt_or_ge p.sg.length cq with h | h
   ·exact makingSig1_room cg hS0 hR k1 k2 k3 k5 h hx
   ·obtain rfl:cq=p.sg.length:=by omega
    exact makingSig1_full cg hS0 hR k1 k2 k3 k5 hx
end Go.Proofs.YtcnnlecjdkfdjaaGreatDoor
