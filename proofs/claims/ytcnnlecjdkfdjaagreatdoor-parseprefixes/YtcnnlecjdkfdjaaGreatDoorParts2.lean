/- Parts2: the texts of these names, of which the claim is made. -/
import Derived.Test.YtcnnlecjdkfdjaaGreatDoorRange
set_option linter.unusedVariables false
set_option linter.unusedSimpArgs false
set_option maxRecDepth 100000
set_option maxHeartbeats 8000000
namespace Go.Proofs.YtcnnlecjdkfdjaaGreatDoor
open Go.RowKit Go.Shelf
attribute [local go_sem] Oper.semAt_some
theorem info23:(Tryz.prog.info? 25).map (fun i=>(i.zero,i.size,i.bytes))=some (some (.slice none 0 0),1,24):=by kernel_rfl
theorem row_setP {W:World} {base n cap g i:Nat} {e:TypeId} {xs:List Value} (h:W.ownsRow base e 1 (.slice (some ⟨g,0,none⟩) n cap) n xs) (hi:i<n) (v:Value):(W.setCell ⟨g,i,none⟩ v).ownsRow base e 1 (.slice (some ⟨g,0,none⟩) n cap) n (xs.set i v):=by
 rcases h with ⟨h1,⟨h2,_⟩ | ⟨g',cap',cur,hv,hb,hg,r1,r2,r3,r4⟩⟩
 ·cases h2
 ·cases hv
  have hH:Hold g (cur.setIfInBounds i v) e (W.setCell ⟨g,i,none⟩ v):=Hold.set (show Hold g cur e W from hg) i v
  refine ⟨by rw [List.length_set];exact h1,.inr ⟨g,cap,cur.setIfInBounds i v,rfl,hb,hH,r1,r2,by simpa using r3,?_⟩⟩
  rw [← r4,Array.toList_setIfInBounds,List.take_set]
theorem row_some {W:World} {base n cap:Nat} {p:Option Addr} {e:TypeId} {xs:List Value} (h:W.ownsRow base e 1 (.slice p n cap) n xs) (hn:0<n):∃ g,p=some ⟨g,0,none⟩∧base≤g∧g<W.heap.size∧n≤cap∧(∀ i,W.frozen? ⟨g,i,none⟩=false)∧∃ cur,Hold g cur e W:=by
 rcases h with ⟨h1,⟨h2,h3⟩ | ⟨g',cap',cur,hv,hb,hg,r1,r2,r3,r4⟩⟩
 ·omega
 ·cases hv
  exact ⟨g',rfl,hb,(Array.getElem?_eq_some_iff.1 hg).1,r1,fun i=>Hold.frozen (show Hold g' cur e W from hg) i,cur,hg⟩
theorem kp_row {n b base s:Nat} {W W':World} {e:TypeId} {size k:Nat} {v:Value} {xs:List Value} (h:KpB n b s W W') (hbb:b≤base) (hr:W.ownsRow base e size v k xs):W'.ownsRow base e size v k xs:=by
 rcases hr with ⟨h1,h2 | ⟨g,cap,cur,hv,hb,hg,r⟩⟩
 ·exact ⟨h1,.inl h2⟩
 ·exact ⟨h1,.inr ⟨g,cap,cur,hv,hb,h.2.2 g cur e (0,0) (by omega) hg,r⟩⟩
theorem base_mono {w:World} {B B' e size n:Nat} {v:Value} {xs:List Value} (h:w.ownsRow B e size v n xs) (hb:B'≤B):w.ownsRow B' e size v n xs:=by
 obtain ⟨h1,h2⟩:=h
 refine ⟨h1,?_⟩
 rcases h2 with h2 | ⟨g,cap,cur,e1,e2,e3⟩
 ·exact .inl h2
 ·exact .inr ⟨g,cap,cur,e1,by omega,e3⟩
theorem EM.tl {P:Nat→Prop} {w:World} {b o:Nat} {k0:Tr} {r:List Tr} (h:EM P w (some ⟨b,o,none⟩) (k0 :: r)):EM P w (some ⟨b,o+5,none⟩) r:=by
 rcases h with h | ⟨b',o',hp,hb,hm⟩
 ·cases h
 ·cases hp
  refine .inr ⟨b,o+5,rfl,hb,fun i t ht=>?_⟩
  obtain ⟨ds,h1,h2,h3⟩:=hm (i+1) t (by simpa using ht)
  exact ⟨ds,h1,fun j d hd=>by rw [← h2 j d hd];congr 2;omega,h3⟩
def ptR (P:Nat→Prop) (we:World) (e:Tr) (B:Nat) (J:List (PN P we)→World→Prop) (k:Nat) (v:Value) (wr:World):Prop:=∃ (pre:List (PN P we)) (st:List SE) (p:Option Addr) (c:Nat),k=2 * (remS st).length+st.length∧v=.slice p st.length c∧wr.ownsRow B 25 1 (.slice p st.length c) st.length (st.reverse.map seV)∧(∀ s ∈ st,seOK P we s)∧pre.map bareP ++ remS st=po e 1∧J pre wr∧Below we.heap.size we wr∧B≤wr.heap.size∧st.length≤1000001
theorem ghost {R:Nat→Value→World→Prop}:∃ μ:Value→World→Nat,∀ v w,(∃ k,R k v w)→R (μ v w) v w∧∀ m,R m v w→μ v w≤m:=by
 have h:∀ v w,∃ n,(∃ k,R k v w)→R n v w∧∀ m,R m v w→n≤m:=by
  intro v w
  by_cases hx:∃ k,R k v w
  ·obtain ⟨n,h1,h2⟩:=least_of hx;exact ⟨n,fun _=>⟨h1,h2⟩⟩
  ·exact ⟨0,fun h=>absurd h hx⟩
 exact ⟨fun v w=>Classical.choose (h v w),fun v w=>Classical.choose_spec (h v w)⟩
theorem parts_it {n:Nat} (hn:1≤n) {P:Nat→Prop} {we w:World} {e:Tr} {pn:Option Addr} {cn:Nat} {pk:Option Addr} {ck Bs:Nat} (hP:∀ b,P b→b<we.heap.size) (hE:TrIn P we e [.int .i64 e.kd,.string (S e.nm),.int .i64 e.nu,.slice pn e.ns.length cn,.slice pk e.ks.length ck]) (hD:∀ x ∈ po e 1,x.1≤1000000∧x.2.ks.length≤1000000)
 (hBs:Bs<w.heap.size) (hbx:Hold Bs (cs5 e pn cn pk ck) 27 w) (hwe:Below we.heap.size we w) :
 ItC n 181 #[.pointer (some ⟨Bs,0,none⟩)] (encP (P:=P) (w:=we)) (KpB we.heap.size w.heap.size Bs) (fun xs=>xs.map bareP=po e 1) (fun pre=>∃ r,pre.map bareP ++ r=po e 1) ((po e 1).length+1) w:=by
 intro ld J Jx W hW hJ hJx hY h0
 obtain ⟨i0,hi,hz0,hz1,hz2⟩:=info_parts info23
 have hbW:Hold Bs (cs5 e pn cn pk ck) 27 W:=hbx.below hW hBs
 have b0:=hbW.cell 0;have b1:=hbW.cell 1;have b2:=hbW.cell 2;have b3:=hbW.cell 3;have b4:=hbW.cell 4
 have hx0:okX P we ⟨1,e,pn,cn,pk,ck⟩:=⟨hE,by show (1:Nat)≤2147483647;omega,(hD (1,e) (by rw [po_eq];simp)).2⟩
 have hpo:=po_eq e 1
 have HY:=hide hY
 have HJ:=hide hJ
 have h00:=HY.out [] ⟨_,hx0⟩ W h0 (by simp)
 clear hY
 show CallsIn Fence.wide n Tryz.prog 181 #[.func (.yield ld) #[] #[],.pointer (some ⟨Bs,0,none⟩)] W _
 refine callsIn_of_wp Tryz.func181 rfl trivial ?_ rfl
 simp only [Tryz.ntmps181,List.size_toArray,List.length_cons,List.length_nil,Nat.reduceAdd,Nat.reduceSub,Array.replicate_succ,Array.replicate_zero,List.push_toArray,List.append_toArray,List.nil_append,List.cons_append]
 unfold cs5 at b0 b1 b2 b3 b4
 simp only [lGA,lGS,lGZ] at b0 b1 b2 b3 b4
 obtain ⟨fn,tmps,assign,body,hy,hR⟩:=h00
 simp only [encP,cs5] at hy
 have hy1:((1:Nat):Int)=1:=rfl
 rw [hy1] at hy
 have HR:=hide hR
 have HBW:=hide hbW
 clear hR hbW
 gi_wp2_with fail
 refine HR.out.mono ?_
 rintro e' W3 (⟨rfl,hJ3,hk3⟩ | ⟨rfl,hJx3⟩)
 ·have d4:=(hk3.holdS HBW.out).cell 4
  unfold cs5 at d4
  simp only [lGA,lGS,lGZ] at d4
  have hkW:W.heap.size≤W3.heap.size:=hk3.1.size
  have hBW3:Below we.heap.size we W3:=(hwe.trans (hW.mono hwe.size)).trans hk3.1
  obtain ⟨pn',cn',pk',ck',hcs,_,_,_,hsk,_,hEM⟩:=(TrIn_iff _ _ _ _).1 hE
  obtain ⟨rfl,rfl⟩:pk=pk'∧ck=ck':=by simp at hcs;exact ⟨hcs.2.1,hcs.2.2⟩
  obtain ⟨μ,hμ⟩:=ghost (R:=ptR P we e W.heap.size J)
  have HMU:=hide hμ
  have hstart:ptR P we e W.heap.size J (2 * (remS [(pk,ck,e.ks)]).length+1) (.slice (some ⟨W3.heap.size,0,none⟩) 1 1) (W3.alloc (.cells #[.slice pk e.ks.length ck] 25)):=by
   refine ⟨[⟨_,hx0⟩],[(pk,ck,e.ks)],_,_,rfl,rfl,?_,?_,?_,?_,?_,?_,by simp⟩
   ·exact ⟨rfl,.inr ⟨W3.heap.size,1,_,rfl,hkW,Hold.new W3 _ 25,Nat.le_refl _,by unfold maxLen;omega,rfl,rfl⟩⟩
   ·intro s hs
    simp at hs;subst hs
    exact ⟨hsk,hEM⟩
   ·rw [hpo];simp [remS,bareP]
   ·exact HJ.out _ _ _ none hJ3 (World.grownBy_alloc W3 _ none) (fun r e=>by cases e)
   ·exact hBW3.alloc hBW3.size _
   ·simp;omega
  have HSTART:=hide hstart
  clear hstart hJ3 hk3 hcs hsk hEM hx0 hy HR b0 b1 b2 b3 b4 hE hBW3 hμ
  gi_wp2_with fail
  gi_loopw [3] (fun s3 wr=>∃ k,ptR P we e W.heap.size J k s3 wr) (fun s3 wr=>μ s3 wr)
  case atStart=>exact ⟨_,HSTART.out⟩
  case round=>
   obtain ⟨pre,st,p,c,hk,rfl,hown,hok,hpre,hJp,hB,hsz,hstl⟩:=(HMU.out _ _ hrel).1
   have hgh:=(HMU.out _ _ hrel).2
   generalize hmu:μ (.slice p st.length c) wr=mu at *
   cases st with
   | nil=>
    simp only [remS,List.append_nil] at hpre
    have HPRE:=hide hpre
    have HJP:=hide hJp
    clear hpre hJp hown hok hgh hmu hk hrel
    gi_wp2_with fail
    go_end0
    exact ⟨⟨_,rfl⟩,.inl ⟨pre,HPRE.out,HJP.out⟩⟩
   | cons s r=>
    obtain ⟨g,rfl,hgB,hgl,hnc,hfz,cur,hcur⟩:=row_some hown (by simp)
    have hlst:(s :: r).reverse.map seV=r.reverse.map seV ++ [seV s]:=by simp
    have hcell:wr.cell? ⟨g,r.length,none⟩=some (seV s):=row_cell hown (by rw [hlst,List.getElem?_append_right (by simp)];simp)
    have hfzr:=hfz r.length
    have hsok:=hok s (by simp)
    obtain ⟨ps,cs,ls⟩:=s
    simp only [seV] at hcell
    have hl1:((ps,cs,ls) :: r).length=r.length+1:=rfl
    simp only [hl1] at *
    have HOK:=hide hok
    have HPRE:=hide hpre
    have HJP:=hide hJp
    have HB:=hide hB
    have HGH:=hide hgh
    have HMM:=hide hmu
    have HKK:=hide hk
    have HOWN:=hide hown
    have HLST:=hide hlst
    have HCUR:=hide hcur
    cases ls with
    | nil=>
     simp only [List.length_nil] at hcell
     have hq1:(r.length:Int)+1 - 1=r.length:=by omega
     clear hok hpre hJp hB hgh hmu hk hown hlst hrel hsok hcur hfz
     generalize hq:r.length=q at *
     have HQ:=hide hq
     clear hq
     gi_wp2_with fail
     have hR:ptR P we e W.heap.size J (2 * (remS r).length+r.length) (.slice (some ⟨g,0,none⟩) q c) wr:=by
      refine ⟨pre,r,_,_,rfl,by rw [HQ.out],?_,fun x hx=>HOK.out x (List.mem_cons_of_mem _ hx),?_,HJP.out,HB.out,hsz,by rw [HQ.out];omega⟩
      ·have h1:=row_cut HOWN.out (j:=q) (by omega)
       rw [HLST.out,List.take_append_of_le_length (by simp [HQ.out]),List.take_of_length_le (by simp [HQ.out])] at h1
       rw [HQ.out];exact h1
      ·have:=HPRE.out;simpa [remS] using this
     refine ⟨⟨_,hR⟩,?_⟩
     have h1:=(HMU.out _ _ ⟨_,hR⟩).2 _ hR
     have h2:=HKK.out
     have h3:=HMM.out
     have h4:(remS ((ps,cs,[]) :: r)).length=(remS r).length:=by simp [remS]
     rw [h4] at h2
     rw [h3,h2,HQ.out] at *
     omega
    | cons t ts=>
     obtain ⟨hslo,hem⟩:=hsok
     simp only [List.length_cons] at hslo hcell
     obtain ⟨b,o,hps,hPb,hmm⟩:∃ b o,ps=some ⟨b,o,none⟩∧P b∧∀ i k,(t :: ts)[i]?=some k→∃ pn cn pk' ck,TrIn P we k [.int .i64 k.kd,.string (S k.nm),.int .i64 k.nu,.slice pn k.ns.length cn,.slice pk' k.ks.length ck]∧we.cell? ⟨b,o+i * 5,none⟩=some (.int .i64 k.kd)∧we.cell? ⟨b,o+i * 5+1,none⟩=some (.string (S k.nm))∧we.cell? ⟨b,o+i * 5+2,none⟩=some (.int .i64 k.nu)∧we.cell? ⟨b,o+i * 5+3,none⟩=some (.slice pn k.ns.length cn)∧we.cell? ⟨b,o+i * 5+4,none⟩=some (.slice pk' k.ks.length ck):=by
      rcases hem with h | ⟨b,o,hp,hb,hm⟩
      ·cases h
      ·refine ⟨b,o,hp,hb,fun i k hk=>?_⟩
       obtain ⟨ds,h1,h2,h3⟩:=hm i k hk
       obtain ⟨pn,cn,pk',ck,rfl,_⟩:=(TrIn_iff _ _ _ _).1 h3
       exact ⟨pn,cn,pk',ck,h3,h2 0 _ rfl,h2 1 _ rfl,h2 2 _ rfl,h2 3 _ rfl,h2 4 _ rfl⟩
     subst hps
     obtain ⟨qn,dn,qk,dk,hIn,a0,a1,a2,a3,a4⟩:=hmm 0 t rfl
     have hcc:∀ x,wr.cell? ⟨b,x,none⟩=we.cell? ⟨b,x,none⟩:=fun x=>hB.cell (p:=⟨b,x,none⟩) (hP b hPb)
     simp only [Nat.zero_mul,Nat.add_zero] at a0 a1 a2 a3 a4
     rw [← hcc] at a0 a1 a2 a3 a4
     have hbg:¬ b=g:=by have:=hP b hPb;have:=hwe.size;have:=hW.size;omega
     have hbl:b<wr.heap.size:=by have:=hP b hPb;have:=hB.size;omega
     have HIN:=hide hIn
     have HEM:=hide hem
     have HSLO:=hide hslo
     have hcs1:1≤cs:=by have:=hslo.1;omega
     clear hok hpre hJp hB hgh hmu hk hown hlst hrel hcur hfz hmm hcc hem hIn hslo
     generalize hnt:ts.length=nt at *
     generalize hq:r.length=q at *
     have HQ:=hide hq
     have HNT:=hide hnt
     have hq1:(q:Int)+1 - 1=q:=by omega
     clear hq hnt
     by_cases hcs:cs=1
     ·subst hcs
      have hnt0:ts=[]:=by have:=HSLO.out.1;have:=HNT.out;exact List.length_eq_zero_iff.1 (by omega)
      have HN0:=hide hnt0
      clear hnt0
      have hmem:(q+2,t) ∈ po e 1:=by
       rw [← HPRE.out]
       simp only [remS,List.flatMap_cons,po_eq t,HQ.out]
       simp
      have hx:okX P we ⟨q+2,t,qn,dn,qk,dk⟩:=⟨HIN.out,by show q+2≤2147483647;omega,(hD _ hmem).2⟩
      have hg1:wr.grownBy (wr.setCell ⟨g,q,none⟩ (.slice (some ⟨b,o,none⟩) nt (0))) (some g):=⟨rfl,rfl,rfl,by simp,fun k hk hne=>Below.heap_setCell _ _ _ k (fun h=>hne (by rw [h]))⟩
      have hJV:J pre ((wr.setCell ⟨g,q,none⟩ (.slice (some ⟨b,o,none⟩) nt (0))).alloc (.cells #[.int .i64 t.kd,.string (S t.nm),.int .i64 t.nu,.slice qn t.ns.length dn,.slice qk t.ks.length dk] 27)):=HJ.out _ _ _ none (HJ.out _ _ _ (some g) HJP.out hg1 (fun r e=>by cases e;exact hgB)) (World.grownBy_alloc _ _ none) (fun r e=>by cases e)
      have hlen:pre.length<(po e 1).length+1:=by
       have:=congrArg List.length HPRE.out
       simp at this;omega
      have rowV:World.ownsRow ((wr.setCell ⟨g,q,none⟩ (.slice (some ⟨b,o,none⟩) nt (0))).alloc (.cells #[.int .i64 t.kd,.string (S t.nm),.int .i64 t.nu,.slice qn t.ns.length dn,.slice qk t.ks.length dk] 27)) W.heap.size 25 1 (.slice (some ⟨g,0,none⟩) (q+1) c) (q+1) ((((some ⟨b,o,none⟩,1,t :: ts) :: r).reverse.map seV).set q (.slice (some ⟨b,o,none⟩) nt (0))):=(row_setP HOWN.out (by omega) _).alloc _
      have boxV:Hold wr.heap.size #[.int .i64 t.kd,.string (S t.nm),.int .i64 t.nu,.slice qn t.ns.length dn,.slice qk t.ks.length dk] 27 ((wr.setCell ⟨g,q,none⟩ (.slice (some ⟨b,o,none⟩) nt (0))).alloc (.cells #[.int .i64 t.kd,.string (S t.nm),.int .i64 t.nu,.slice qn t.ns.length dn,.slice qk t.ks.length dk] 27)):=by have:=Hold.new (wr.setCell ⟨g,q,none⟩ (.slice (some ⟨b,o,none⟩) nt (0))) #[.int .i64 t.kd,.string (S t.nm),.int .i64 t.nu,.slice qn t.ns.length dn,.slice qk t.ks.length dk] 27;simpa using this
      have BV:Below we.heap.size we ((wr.setCell ⟨g,q,none⟩ (.slice (some ⟨b,o,none⟩) nt (0))).alloc (.cells #[.int .i64 t.kd,.string (S t.nm),.int .i64 t.nu,.slice qn t.ns.length dn,.slice qk t.ks.length dk] 27)):=(HB.out.setCell (p:=⟨g,q,none⟩) (by have:=hwe.size;have:=hW.size;show we.heap.size≤g;omega) _).alloc (by have:=HB.out.size;simpa using this) _
      obtain ⟨fn',tmps',assign',body',hy,hR⟩:=HY.out pre ⟨_,hx⟩ _ hJV hlen
      simp only [encP,cs5] at hy
      rw [show ((q+2:Nat):Int)=(q:Int)+1+1 by omega] at hy
      have HR2:=hide hR
      have HRV:=hide rowV
      have HXV:=hide boxV
      have HBV:=hide BV
      clear hR rowV boxV BV hJV hg1
      gi_wp2_with fail
      refine HR2.out.mono ?_
      rintro e' Z (⟨rfl,hJZ,hkZ⟩ | ⟨rfl,hJxZ⟩)
      ·have rowZ:=kp_row hkZ hW.size HRV.out
       have boxZ:=hkZ.hold (k:=wr.heap.size) (by have:=hW.size;omega) HXV.out
       have d4:=boxZ.cell 4
       simp only [lGA,lGS,lGZ] at d4
       have hZs:wr.heap.size+1≤Z.heap.size:=by have:=hkZ.1.size;simpa using this
       have BZ:=HBV.out.trans hkZ.1
       have HJZ:=hide hJZ
       have HRZ:=hide rowZ
       have HBZ:=hide BZ
       clear hkZ boxZ BZ hJZ
       gi_wp2_with (gi_at_builtin;refine wpListIn_append_own _ rfl _ _ 193 rfl W.heap.size 25 i0 (.slice none 0 0) 1 24 Tryz.underlying193 hi hz0 hz1 hz2 rfl (by decide) _ _ _ rfl (rowZ.alloc _) ⟨Z.heap.size,0,none⟩ 1 1 [.slice qk t.ks.length dk] rfl rfl (cell_one_new _ _ _) (by simp [Value.oneCell']) (by unfold maxLen;omega) (by omega) (by simp;omega) ?_;intro v' w2 hown2 hgrow0 _;have hgrow:(Z.alloc (.cells #[.slice qk t.ks.length dk] 25)).grownBy w2 (Value.slice (some ⟨g,0,none⟩) (q+1) c).ownBlock:=hgrow0;clear hgrow0;obtain ⟨ao,cc,rfl⟩:=slice_of hown2)
       have hR:ptR P we e W.heap.size J (2 * (remS ((qk,dk,t.ks) :: ((some ⟨b,o,none⟩:Option Addr),0,ts) :: r)).length+(r.length+2)) (.slice ao (q+1+1) cc) w2:=by
        refine ⟨pre ++ [⟨_,hx⟩],(qk,dk,t.ks) :: ((some ⟨b,o,none⟩:Option Addr),0,ts) :: r,ao,cc,rfl,by rw [← HQ.out];rfl,?_,?_,?_,?_,?_,?_,?_⟩
        ·have e1:((qk,dk,t.ks) :: ((some ⟨b,o,none⟩:Option Addr),0,ts) :: r).length=q+1+1:=by rw [← HQ.out];rfl
         have e2:((qk,dk,t.ks) :: ((some ⟨b,o,none⟩:Option Addr),0,ts) :: r).reverse.map seV=((((some ⟨b,o,none⟩,1,t :: ts) :: r).reverse.map seV).set q (.slice (some ⟨b,o,none⟩) nt (0))) ++ [.slice qk t.ks.length dk]:=by
          have e3:(r.reverse.map seV).length=q:=by rw [← HQ.out];simp
          simp only [List.reverse_cons,List.map_append,List.map_cons,List.map_nil,List.append_assoc,List.cons_append,List.nil_append]
          rw [List.set_append,if_neg (by omega),e3,Nat.sub_self]
          simp [seV,HNT.out]
         rw [e1,e2];exact hown2
        ·intro x hx'
         rcases List.mem_cons.1 hx' with rfl | hx'
         ·obtain ⟨_,_,pk2,ck2,hc2,_,_,_,h5,_,h7⟩:=(TrIn_iff _ _ _ _).1 HIN.out
          simp at hc2
          obtain ⟨rfl,rfl⟩:qk=pk2∧dk=ck2:=⟨hc2.2.1,hc2.2.2⟩
          exact ⟨h5,h7⟩
         ·rcases List.mem_cons.1 hx' with rfl | hx'
          ·exact ⟨⟨by rw [HN0.out];exact Nat.le_refl _,Nat.zero_le _,fun h=>rfl⟩,.inl HN0.out⟩
          ·exact HOK.out x (List.mem_cons_of_mem _ hx')
        ·have h1:=HPRE.out
         simp only [remS,List.flatMap_cons,List.length_cons] at h1 ⊢
         rw [po_eq t,HQ.out] at h1
         rw [HQ.out,← h1]
         simp [bareP]
        ·refine HJ.out _ _ _ _ (HJ.out _ _ _ none HJZ.out (World.grownBy_alloc Z _ none) (fun r e=>by cases e)) hgrow (fun r e=>?_)
         have e2:g=r:=by simpa [Value.ownBlock] using e
         omega
        ·exact (HBZ.out.alloc (by have:=HBZ.out.size;omega) _).trans (below_row (base_mono (rowZ.alloc _) (by have:=hwe.size;have:=hW.size;omega)) (by simp;have:=HBZ.out.size;omega) hgrow)
        ·have:=hgrow.size;simp at this;omega
        ·show r.length+2≤1000001
         rw [HQ.out]
         have:=(hD _ hmem).1
         simp at this;omega
       refine ⟨⟨_,hR⟩,?_⟩
       have h1:=(HMU.out _ _ ⟨_,hR⟩).2 _ hR
       have h2:=HKK.out
       have h3:=HMM.out
       have h4:(remS ((some ⟨b,o,none⟩,1,t :: ts) :: r)).length=(remS ((qk,dk,t.ks) :: ((some ⟨b,o,none⟩:Option Addr),0,ts) :: r)).length+1:=by
        simp only [remS,List.flatMap_cons,po_eq t,List.length_append,List.length_cons,Nat.add_assoc,Nat.reduceAdd]
        omega
       rw [h4] at h2
       rw [HQ.out] at h1
       rw [h3,h2]
       omega
      ·have HJX:=hide hJxZ
       clear hJxZ
       gi_wp2_with fail
       refine bodyPost_ret (results_none rfl _ _ _) rfl ?_
       refine ⟨⟨_,rfl⟩,.inr ⟨_,?_,HJX.out⟩⟩
       refine ⟨(t.ks.flatMap fun k=>po k (q+3)) ++ ((ts.flatMap fun k=>po k (q+2)) ++ remS r),?_⟩
       rw [← HPRE.out]
       simp only [remS,List.flatMap_cons,po_eq t,HQ.out]
       simp [bareP]
     ·have HCS:=hide hcs
      have hmem:(q+2,t) ∈ po e 1:=by
       rw [← HPRE.out]
       simp only [remS,List.flatMap_cons,po_eq t,HQ.out]
       simp
      have hx:okX P we ⟨q+2,t,qn,dn,qk,dk⟩:=⟨HIN.out,by show q+2≤2147483647;omega,(hD _ hmem).2⟩
      have hg1:wr.grownBy (wr.setCell ⟨g,q,none⟩ (.slice (some ⟨b,o+5,none⟩) nt (cs - 1))) (some g):=⟨rfl,rfl,rfl,by simp,fun k hk hne=>Below.heap_setCell _ _ _ k (fun h=>hne (by rw [h]))⟩
      have hJV:J pre ((wr.setCell ⟨g,q,none⟩ (.slice (some ⟨b,o+5,none⟩) nt (cs - 1))).alloc (.cells #[.int .i64 t.kd,.string (S t.nm),.int .i64 t.nu,.slice qn t.ns.length dn,.slice qk t.ks.length dk] 27)):=HJ.out _ _ _ none (HJ.out _ _ _ (some g) HJP.out hg1 (fun r e=>by cases e;exact hgB)) (World.grownBy_alloc _ _ none) (fun r e=>by cases e)
      have hlen:pre.length<(po e 1).length+1:=by
       have:=congrArg List.length HPRE.out
       simp at this;omega
      have rowV:World.ownsRow ((wr.setCell ⟨g,q,none⟩ (.slice (some ⟨b,o+5,none⟩) nt (cs - 1))).alloc (.cells #[.int .i64 t.kd,.string (S t.nm),.int .i64 t.nu,.slice qn t.ns.length dn,.slice qk t.ks.length dk] 27)) W.heap.size 25 1 (.slice (some ⟨g,0,none⟩) (q+1) c) (q+1) ((((some ⟨b,o,none⟩,cs,t :: ts) :: r).reverse.map seV).set q (.slice (some ⟨b,o+5,none⟩) nt (cs - 1))):=(row_setP HOWN.out (by omega) _).alloc _
      have boxV:Hold wr.heap.size #[.int .i64 t.kd,.string (S t.nm),.int .i64 t.nu,.slice qn t.ns.length dn,.slice qk t.ks.length dk] 27 ((wr.setCell ⟨g,q,none⟩ (.slice (some ⟨b,o+5,none⟩) nt (cs - 1))).alloc (.cells #[.int .i64 t.kd,.string (S t.nm),.int .i64 t.nu,.slice qn t.ns.length dn,.slice qk t.ks.length dk] 27)):=by have:=Hold.new (wr.setCell ⟨g,q,none⟩ (.slice (some ⟨b,o+5,none⟩) nt (cs - 1))) #[.int .i64 t.kd,.string (S t.nm),.int .i64 t.nu,.slice qn t.ns.length dn,.slice qk t.ks.length dk] 27;simpa using this
      have BV:Below we.heap.size we ((wr.setCell ⟨g,q,none⟩ (.slice (some ⟨b,o+5,none⟩) nt (cs - 1))).alloc (.cells #[.int .i64 t.kd,.string (S t.nm),.int .i64 t.nu,.slice qn t.ns.length dn,.slice qk t.ks.length dk] 27)):=(HB.out.setCell (p:=⟨g,q,none⟩) (by have:=hwe.size;have:=hW.size;show we.heap.size≤g;omega) _).alloc (by have:=HB.out.size;simpa using this) _
      obtain ⟨fn',tmps',assign',body',hy,hR⟩:=HY.out pre ⟨_,hx⟩ _ hJV hlen
      simp only [encP,cs5] at hy
      rw [show ((q+2:Nat):Int)=(q:Int)+1+1 by omega] at hy
      have HR2:=hide hR
      have HRV:=hide rowV
      have HXV:=hide boxV
      have HBV:=hide BV
      clear hR rowV boxV BV hJV hg1
      gi_wp2_with fail
      refine HR2.out.mono ?_
      rintro e' Z (⟨rfl,hJZ,hkZ⟩ | ⟨rfl,hJxZ⟩)
      ·have rowZ:=kp_row hkZ hW.size HRV.out
       have boxZ:=hkZ.hold (k:=wr.heap.size) (by have:=hW.size;omega) HXV.out
       have d4:=boxZ.cell 4
       simp only [lGA,lGS,lGZ] at d4
       have hZs:wr.heap.size+1≤Z.heap.size:=by have:=hkZ.1.size;simpa using this
       have BZ:=HBV.out.trans hkZ.1
       have HJZ:=hide hJZ
       have HRZ:=hide rowZ
       have HBZ:=hide BZ
       clear hkZ boxZ BZ hJZ
       gi_wp2_with (gi_at_builtin;refine wpListIn_append_own _ rfl _ _ 193 rfl W.heap.size 25 i0 (.slice none 0 0) 1 24 Tryz.underlying193 hi hz0 hz1 hz2 rfl (by decide) _ _ _ rfl (rowZ.alloc _) ⟨Z.heap.size,0,none⟩ 1 1 [.slice qk t.ks.length dk] rfl rfl (cell_one_new _ _ _) (by simp [Value.oneCell']) (by unfold maxLen;omega) (by omega) (by simp;omega) ?_;intro v' w2 hown2 hgrow0 _;have hgrow:(Z.alloc (.cells #[.slice qk t.ks.length dk] 25)).grownBy w2 (Value.slice (some ⟨g,0,none⟩) (q+1) c).ownBlock:=hgrow0;clear hgrow0;obtain ⟨ao,cc,rfl⟩:=slice_of hown2)
       have hR:ptR P we e W.heap.size J (2 * (remS ((qk,dk,t.ks) :: ((some ⟨b,o+5,none⟩:Option Addr),cs - 1,ts) :: r)).length+(r.length+2)) (.slice ao (q+1+1) cc) w2:=by
        refine ⟨pre ++ [⟨_,hx⟩],(qk,dk,t.ks) :: ((some ⟨b,o+5,none⟩:Option Addr),cs - 1,ts) :: r,ao,cc,rfl,by rw [← HQ.out];rfl,?_,?_,?_,?_,?_,?_,?_⟩
        ·have e1:((qk,dk,t.ks) :: ((some ⟨b,o+5,none⟩:Option Addr),cs - 1,ts) :: r).length=q+1+1:=by rw [← HQ.out];rfl
         have e2:((qk,dk,t.ks) :: ((some ⟨b,o+5,none⟩:Option Addr),cs - 1,ts) :: r).reverse.map seV=((((some ⟨b,o,none⟩,cs,t :: ts) :: r).reverse.map seV).set q (.slice (some ⟨b,o+5,none⟩) nt (cs - 1))) ++ [.slice qk t.ks.length dk]:=by
          have e3:(r.reverse.map seV).length=q:=by rw [← HQ.out];simp
          simp only [List.reverse_cons,List.map_append,List.map_cons,List.map_nil,List.append_assoc,List.cons_append,List.nil_append]
          rw [List.set_append,if_neg (by omega),e3,Nat.sub_self]
          simp [seV,HNT.out]
         rw [e1,e2];exact hown2
        ·intro x hx'
         rcases List.mem_cons.1 hx' with rfl | hx'
         ·obtain ⟨_,_,pk2,ck2,hc2,_,_,_,h5,_,h7⟩:=(TrIn_iff _ _ _ _).1 HIN.out
          simp at hc2
          obtain ⟨rfl,rfl⟩:qk=pk2∧dk=ck2:=⟨hc2.2.1,hc2.2.2⟩
          exact ⟨h5,h7⟩
         ·rcases List.mem_cons.1 hx' with rfl | hx'
          ·exact ⟨⟨by have h1:=HSLO.out.1;have h2:=HNT.out;show ts.length≤cs - 1;omega,by have h1:=HSLO.out.2.1;show cs - 1≤_;omega,fun h=>by cases h⟩,EM.tl HEM.out⟩
          ·exact HOK.out x (List.mem_cons_of_mem _ hx')
        ·have h1:=HPRE.out
         simp only [remS,List.flatMap_cons,List.length_cons] at h1 ⊢
         rw [po_eq t,HQ.out] at h1
         rw [HQ.out,← h1]
         simp [bareP]
        ·refine HJ.out _ _ _ _ (HJ.out _ _ _ none HJZ.out (World.grownBy_alloc Z _ none) (fun r e=>by cases e)) hgrow (fun r e=>?_)
         have e2:g=r:=by simpa [Value.ownBlock] using e
         omega
        ·exact (HBZ.out.alloc (by have:=HBZ.out.size;omega) _).trans (below_row (base_mono (rowZ.alloc _) (by have:=hwe.size;have:=hW.size;omega)) (by simp;have:=HBZ.out.size;omega) hgrow)
        ·have:=hgrow.size;simp at this;omega
        ·show r.length+2≤1000001
         rw [HQ.out]
         have:=(hD _ hmem).1
         simp at this;omega
       refine ⟨⟨_,hR⟩,?_⟩
       have h1:=(HMU.out _ _ ⟨_,hR⟩).2 _ hR
       have h2:=HKK.out
       have h3:=HMM.out
       have h4:(remS ((some ⟨b,o,none⟩,cs,t :: ts) :: r)).length=(remS ((qk,dk,t.ks) :: ((some ⟨b,o+5,none⟩:Option Addr),cs - 1,ts) :: r)).length+1:=by
        simp only [remS,List.flatMap_cons,po_eq t,List.length_append,List.length_cons,Nat.add_assoc,Nat.reduceAdd]
        omega
       rw [h4] at h2
       rw [HQ.out] at h1
       rw [h3,h2]
       omega
      ·have HJX:=hide hJxZ
       clear hJxZ
       gi_wp2_with fail
       refine bodyPost_ret (results_none rfl _ _ _) rfl ?_
       refine ⟨⟨_,rfl⟩,.inr ⟨_,?_,HJX.out⟩⟩
       refine ⟨(t.ks.flatMap fun k=>po k (q+3)) ++ ((ts.flatMap fun k=>po k (q+2)) ++ remS r),?_⟩
       rw [← HPRE.out]
       simp only [remS,List.flatMap_cons,po_eq t,HQ.out]
       simp [bareP]
 ·have HJX:=hide hJx3
  clear hJx3
  gi_wp2_with fail
  refine bodyPost_ret (results_none rfl _ _ _) rfl ?_
  exact ⟨⟨_,rfl⟩,.inr ⟨_,⟨_,by rw [hpo];rfl⟩,HJX.out⟩⟩
end Go.Proofs.YtcnnlecjdkfdjaaGreatDoor
