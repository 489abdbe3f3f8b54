/- Parts of the proof. -/
import Derived.Test.YtcnnlecjdkfdjaaGreatDoorRange
set_option linter.unusedVariables false
set_option linter.unusedSimpArgs false
set_option maxRecDepth 100000
set_option maxHeartbeats 8000000
namespace Go.Proofs.YtcnnlecjdkfdjaaGreatDoor
open Go.RowKit Go.Shelf
attribute [local go_sem] Oper.semAt_some
theorem info23:(Tryz.prog.info? 25).map (fun i=>(i.zero,i.size,i.bytes))=some (some (.slice none 0 0),1,24):=by kernel_rfl
theorem row_setP {W:World} {base n cap g i:Nat} {e:TypeId} {xs:List Value} (h:W.ownsRow base e 1 (.slice (some ⟨g,0,none⟩) n cap) n xs) (hi:i<n) (v:Value):(W.setCell ⟨g,i,none⟩ v).ownsRow base e 1 (.slice (some ⟨g,0,none⟩) n cap) n (xs.set i v):=by
 rcases h with ⟨h1,⟨h2,_⟩ | ⟨g',cap',cur,hv,hb,hg,r1,r2,r3,r4⟩⟩
 ·cases h2
 ·cases hv
  have hH:Hold g (cur.setIfInBounds i v) e (W.setCell ⟨g,i,none⟩ v):=Hold.set (show Hold g cur e W from hg) i v
  refine ⟨by rw [List.length_set];exact h1,.inr ⟨g,cap,cur.setIfInBounds i v,rfl,hb,hH,r1,r2,by simpa using r3,?_⟩⟩
  rw [← r4,Array.toList_setIfInBounds,List.take_set]
theorem row_some {W:World} {base n cap:Nat} {p:Option Addr} {e:TypeId} {xs:List Value} (h:W.ownsRow base e 1 (.slice p n cap) n xs) (hn:0<n):∃ g,p=some ⟨g,0,none⟩∧base≤g∧g<W.heap.size∧n≤cap∧(∀ i,W.frozen? ⟨g,i,none⟩=false)∧∃ cur,Hold g cur e W:=by
 rcases h with ⟨h1,⟨h2,h3⟩ | ⟨g',cap',cur,hv,hb,hg,r1,r2,r3,r4⟩⟩
 ·omega
 ·cases hv
  exact ⟨g',rfl,hb,(Array.getElem?_eq_some_iff.1 hg).1,r1,fun i=>Hold.frozen (show Hold g' cur e W from hg) i,cur,hg⟩
theorem kp_row {n b base s:Nat} {W W':World} {e:TypeId} {size k:Nat} {v:Value} {xs:List Value} (h:KpB n b s W W') (hbb:b≤base) (hr:W.ownsRow base e size v k xs):W'.ownsRow base e size v k xs:=by
 rcases hr with ⟨h1,h2 | ⟨g,cap,cur,hv,hb,hg,r⟩⟩
 ·exact ⟨h1,.inl h2⟩
 ·exact ⟨h1,.inr ⟨g,cap,cur,hv,hb,h.2.2 g cur e (0,0) (by omega) hg,r⟩⟩
theorem base_mono {w:World} {B B' e size n:Nat} {v:Value} {xs:List Value} (h:w.ownsRow B e size v n xs) (hb:B'≤B):w.ownsRow B' e size v n xs:=by
 obtain ⟨h1,h2⟩:=h
 refine ⟨h1,?_⟩
 rcases h2 with h2 | ⟨g,cap,cur,e1,e2,e3⟩
 ·exact .inl h2
 ·exact .inr ⟨g,cap,cur,e1,by omega,e3⟩
theorem EM.tl {P:Nat→Prop} {w:World} {b o:Nat} {k0:Tr} {r:List Tr} (h:EM P w (some ⟨b,o,none⟩) (k0 :: r)):EM P w (some ⟨b,o+5,none⟩) r:=by
 rcases h with h | ⟨b',o',hp,hb,hm⟩
 ·cases h
 ·cases hp
  refine .inr ⟨b,o+5,rfl,hb,fun i t ht=>?_⟩
  obtain ⟨ds,h1,h2,h3⟩:=hm (i+1) t (by simpa using ht)
  exact ⟨ds,h1,fun j d hd=>by rw [← h2 j d hd];congr 2;omega,h3⟩
def ptR (P:Nat→Prop) (we:World) (e:Tr) (B:Nat) (J:List (PN P we)→World→Prop) (k:Nat) (v:Value) (wr:World):Prop:=∃ (pre:List (PN P we)) (st:List SE) (p:Option Addr) (c:Nat),k=2 * (remS st).length+st.length∧v=.slice p st.length c∧wr.ownsRow B 25 1 (.slice p st.length c) st.length (st.reverse.map seV)∧(∀ s ∈ st,seOK P we s)∧pre.map bareP ++ remS st=po e 1∧J pre wr∧Below we.heap.size we wr∧B≤wr.heap.size∧st.length≤1000001
theorem ghost {R:Nat→Value→World→Prop}:∃ μ:Value→World→Nat,∀ v w,(∃ k,R k v w)→R (μ v w) v w∧∀ m,R m v w→μ v w≤m:=by
 have h:∀ v w,∃ n,(∃ k,R k v w)→R n v w∧∀ m,R m v w→n≤m:=by
  intro v w
  by_cases hx:∃ k,R k v w
  ·obtain ⟨n,h1,h2⟩:=least_of hx;exact ⟨n,fun _=>⟨h1,h2⟩⟩
  ·exact ⟨0,fun h=>absurd h hx⟩
 exact ⟨fun v w=>Classical.choose (h v w),fun v w=>Classical.choose_spec (h v w)⟩
theorem parts_it {n:Nat} (hn:1≤n) {P:Nat→Prop} {we w:World} {e:Tr} {pn:Option Addr} {cn:Nat} {pk:Option Addr} {ck Bs:Nat} (hP:∀ b,P b→b<we.heap.size) (hE:TrIn P we e [.int .i64 e.kd,.string (S e.nm),.int .i64 e.nu,.slice pn e.ns.length cn,.slice pk e.ks.length ck]) (hD:∀ x ∈ po e 1,x.1≤1000000∧x.2.ks.length≤1000000)
 (hBs:Bs<w.heap.size) (hbx:Hold Bs (cs5 e pn cn pk ck) 27 w) (hwe:Below we.heap.size we w) :
 ItC n 181 #[.pointer (some ⟨Bs,0,none⟩)] (encP (P:=P) (w:=we)) (KpB we.heap.size w.heap.size Bs) (fun xs=>xs.map bareP=po e 1) (fun pre=>∃ r,pre.map bareP ++ r=po e 1) ((po e 1).length+1) w:=by
 intro ld J Jx W hW hJ hJx hY h0
 obtain ⟨i0,hi,hz0,hz1,hz2⟩:=info_parts info23
 have hbW:Hold Bs (cs5 e pn cn pk ck) 27 W:=hbx.below hW hBs
 have b0:=hbW.cell 0;have b1:=hbW.cell 1;have b2:=hbW.cell 2;have b3:=hbW.cell 3;have b4:=hbW.cell 4
 have hx0:okX P we ⟨1,e,pn,cn,pk,ck⟩:=⟨hE,by show (1:Nat)≤2147483647;omega,(hD (1,e) (by rw [po_eq];simp)).2⟩
 have hpo:=po_eq e 1
 have HY:=zz hY
 have HJ:=zz hJ
 have h00:=HY.out [] ⟨_,hx0⟩ W h0 (by simp)
 clear hY
 show CallsIn Fence.wide n Tryz.prog 181 #[.func (.yield ld) #[] #[],.pointer (some ⟨Bs,0,none⟩)] W _
 refine callsIn_of_wp Tryz.func181 rfl trivial ?_ rfl
 simp only [Tryz.ntmps181,List.size_toArray,List.length_cons,List.length_nil,Nat.reduceAdd,Nat.reduceSub,Array.replicate_succ,Array.replicate_zero,List.push_toArray,List.append_toArray,List.nil_append,List.cons_append]
 unfold cs5 at b0 b1 b2 b3 b4
 simp only [lGA,lGS,lGZ] at b0 b1 b2 b3 b4
 obtain ⟨fn,tmps,assign,body,hy,hR⟩:=h00
 simp only [encP,cs5] at hy
 have hy1:((1:Nat):Int)=1:=rfl
 rw [hy1] at hy
 have HR:=zz hR
 have HBW:=zz hbW
 clear hR hbW
 gi_wp2_with fail
 refine HR.out.mono ?_
 rintro e' W3 (⟨rfl,hJ3,hk3⟩ | ⟨rfl,hJx3⟩)
 ·have d4:=(hk3.holdS HBW.out).cell 4
  unfold cs5 at d4
  simp only [lGA,lGS,lGZ] at d4
  have hkW:W.heap.size≤W3.heap.size:=hk3.1.size
  have hBW3:Below we.heap.size we W3:=(hwe.trans (hW.mono hwe.size)).trans hk3.1
  obtain ⟨pn',cn',pk',ck',hcs,_,_,_,hsk,_,hEM⟩:=(TrIn_iff _ _ _ _).1 hE
  obtain ⟨rfl,rfl⟩:pk=pk'∧ck=ck':=by simp at hcs;exact ⟨hcs.2.1,hcs.2.2⟩
  obtain ⟨μ,hμ⟩:=ghost (R:=ptR P we e W.heap.size J)
  have HMU:=zz hμ
  have hstart:ptR P we e W.heap.size J (2 * (remS [(pk,ck,e.ks)]).length+1) (.slice (some ⟨W3.heap.size,0,none⟩) 1 1) (W3.alloc (.cells #[.slice pk e.ks.length ck] 25)):=by
   refine ⟨[⟨_,hx0⟩],[(pk,ck,e.ks)],_,_,rfl,rfl,?_,?_,?_,?_,?_,?_,by simp⟩
   ·exact ⟨rfl,.inr ⟨W3.heap.size,1,_,rfl,hkW,Hold.new W3 _ 25,Nat.le_refl _,by unfold maxLen;omega,rfl,rfl⟩⟩
   ·intro s hs
    simp at hs;subst hs
    exact ⟨hsk,hEM⟩
   ·rw [hpo];simp [remS,bareP]
   ·exact HJ.out _ _ _ none hJ3 (World.grownBy_alloc W3 _ none) (fun r e=>by cases e)
   ·exact hBW3.alloc hBW3.size _
   ·simp;omega
  have HSTART:=zz hstart
  clear hstart hJ3 hk3 hcs hsk hEM hx0 hy HR b0 b1 b2 b3 b4 hE hBW3 hμ
  gi_wp2_with fail
  gi_loopw [3] (fun s3 wr=>∃ k,ptR P we e W.heap.size J k s3 wr) (fun s3 wr=>μ s3 wr)
  case atStart=>exact ⟨_,HSTART.out⟩
  case round=>
   obtain ⟨pre,st,p,c,hk,rfl,hown,hok,hpre,hJp,hB,hsz,hstl⟩:=(HMU.out _ _ hrel).1
   have hgh:=(HMU.out _ _ hrel).2
   generalize hmu:μ (.slice p st.length c) wr=mu at *
   cases st with
   | nil=>
    simp only [remS,List.append_nil] at hpre
    have HPRE:=zz hpre
    have HJP:=zz hJp
    clear hpre hJp hown hok hgh hmu hk hrel
    gi_wp2_with fail
    go_end0
    exact ⟨⟨_,rfl⟩,.inl ⟨pre,HPRE.out,HJP.out⟩⟩
   | cons s r=>
    obtain ⟨g,rfl,hgB,hgl,hnc,hfz,cur,hcur⟩:=row_some hown (by simp)
    have hlst:(s :: r).reverse.map seV=r.reverse.map seV ++ [seV s]:=by simp
    have hcell:wr.cell? ⟨g,r.length,none⟩=some (seV s):=row_cell hown (by rw [hlst,List.getElem?_append_right (by simp)];simp)
    have hfzr:=hfz r.length
    have hsok:=hok s (by simp)
    obtain ⟨ps,cs,ls⟩:=s
    simp only [seV] at hcell
    have hl1:((ps,cs,ls) :: r).length=r.length+1:=rfl
    simp only [hl1] at *
    have HOK:=zz hok
    have HPRE:=zz hpre
    have HJP:=zz hJp
    have HB:=zz hB
    have HGH:=zz hgh
    have HMM:=zz hmu
    have HKK:=zz hk
    have HOWN:=zz hown
    have HLST:=zz hlst
    have HCUR:=zz hcur
    cases ls with
    | nil=>
     simp only [List.length_nil] at hcell
     have hq1:(r.length:Int)+1 - 1=r.length:=by omega
     clear hok hpre hJp hB hgh hmu hk hown hlst hrel hsok hcur hfz
     generalize hq:r.length=q at *
     have HQ:=zz hq
     clear hq
     gi_wp2_with fail
     have hR:ptR P we e W.heap.size J (2 * (remS r).length+r.length) (.slice (some ⟨g,0,none⟩) q c) wr:=by
      refine ⟨pre,r,_,_,rfl,by rw [HQ.out],?_,fun x hx=>HOK.out x (List.mem_cons_of_mem _ hx),?_,HJP.out,HB.out,hsz,by rw [HQ.out];omega⟩
      ·have h1:=row_cut HOWN.out (j:=q) (by omega)
       rw [HLST.out,List.take_append_of_le_length (by simp [HQ.out]),List.take_of_length_le (by simp [HQ.out])] at h1
       rw [HQ.out];exact h1
      ·have:=HPRE.out;simpa [remS] using this
     refine ⟨⟨_,hR⟩,?_⟩
     have h1:=(HMU.out _ _ ⟨_,hR⟩).2 _ hR
     have h2:=HKK.out
     have h3:=HMM.out
     have h4:(remS ((ps,cs,[]) :: r)).length=(remS r).length:=by simp [remS]
     rw [h4] at h2
     rw [h3,h2,HQ.out] at *
     omega
    | cons t ts=>
     obtain ⟨hslo,hem⟩:=hsok
     simp only [List.length_cons] at hslo hcell
     obtain ⟨b,o,hps,hPb,hmm⟩:∃ b o,ps=some ⟨b,o,none⟩∧P b∧∀ i k,(t :: ts)[i]?=some k→∃ pn cn pk' ck,TrIn P we k [.int .i64 k.kd,.string (S k.nm),.int .i64 k.nu,.slice pn k.ns.length cn,.slice pk' k.ks.length ck]∧we.cell? ⟨b,o+i * 5,none⟩=some (.int .i64 k.kd)∧we.cell? ⟨b,o+i * 5+1,none⟩=some (.string (S k.nm))∧we.cell? ⟨b,o+i * 5+2,none⟩=some (.int .i64 k.nu)∧we.cell? ⟨b,o+i * 5+3,none⟩=some (.slice pn k.ns.length cn)∧we.cell? ⟨b,o+i * 5+4,none⟩=some (.slice pk' k.ks.length ck):=by
      rcases hem with h | ⟨b,o,hp,hb,hm⟩
      ·cases h
      ·refine ⟨b,o,hp,hb,fun i k hk=>?_⟩
       obtain ⟨ds,h1,h2,h3⟩:=hm i k hk
       obtain ⟨pn,cn,pk',ck,rfl,_⟩:=(TrIn_iff _ _ _ _).1 h3
       exact ⟨pn,cn,pk',ck,h3,h2 0 _ rfl,h2 1 _ rfl,h2 2 _ rfl,h2 3 _ rfl,h2 4 _ rfl⟩
     subst hps
     obtain ⟨qn,dn,qk,dk,hIn,a0,a1,a2,a3,a4⟩:=hmm 0 t rfl
     have hcc:∀ x,wr.cell? ⟨b,x,none⟩=we.cell? ⟨b,x,none⟩:=fun x=>hB.cell (p:=⟨b,x,none⟩) (hP b hPb)
     simp only [Nat.zero_mul,Nat.add_zero] at a0 a1 a2 a3 a4
     rw [← hcc] at a0 a1 a2 a3 a4
     have hbg:¬ b=g:=by have:=hP b hPb;have:=hwe.size;have:=hW.size;omega
     have hbl:b<wr.heap.size:=by have:=hP b hPb;have:=hB.size;omega
     have HIN:=zz hIn
     have HEM:=zz hem
     have HSLO:=zz hslo
     have hcs1:1≤cs:=by have:=hslo.1;omega
     clear hok hpre hJp hB hgh hmu hk hown hlst hrel hcur hfz hmm hcc hem hIn hslo
     generalize hnt:ts.length=nt at *
     generalize hq:r.length=q at *
     have HQ:=zz hq
     have HNT:=zz hnt
     have hq1:(q:Int)+1 - 1=q:=by omega
     clear hq hnt
     by_cases hcs:cs=1
     ·subst hcs
      have hnt0:ts=[]:=by have:=HSLO.out.1;have:=HNT.out;exact List.length_eq_zero_iff.1 (by omega)
      have HN0:=zz hnt0
      clear hnt0
      have hmem:(q+2,t) ∈ po e 1:=by
       rw [← HPRE.out]
       simp only [remS,List.flatMap_cons,po_eq t,HQ.out]
       simp
      have hx:okX P we ⟨q+2,t,qn,dn,qk,dk⟩:=⟨HIN.out,by show q+2≤2147483647;omega,(hD _ hmem).2⟩
      have hg1:wr.grownBy (wr.setCell ⟨g,q,none⟩ (.slice (some ⟨b,o,none⟩) nt (0))) (some g):=⟨rfl,rfl,rfl,by simp,fun k hk hne=>Below.heap_setCell _ _ _ k (fun h=>hne (by rw [h]))⟩
      have hJV:J pre ((wr.setCell ⟨g,q,none⟩ (.slice (some ⟨b,o,none⟩) nt (0))).alloc (.cells #[.int .i64 t.kd,.string (S t.nm),.int .i64 t.nu,.slice qn t.ns.length dn,.slice qk t.ks.length dk] 27)):=HJ.out _ _ _ none (HJ.out _ _ _ (some g) HJP.out hg1 (fun r e=>by cases e;exact hgB)) (World.grownBy_alloc _ _ none) (fun r e=>by cases e)
      have hlen:pre.length<(po e 1).length+1:=by
       have:=congrArg List.length HPRE.out
       simp at this;omega
      have rowV:World.ownsRow ((wr.setCell ⟨g,q,none⟩ (.slice (some ⟨b,o,none⟩) nt (0))).alloc (.cells #[.int .i64 t.kd,.string (S t.nm),.int .i64 t.nu,.slice qn t.ns.length dn,.slice qk t.ks.length dk] 27)) W.heap.size 25 1 (.slice (some ⟨g,0,none⟩) (q+1) c) (q+1) ((((some ⟨b,o,none⟩,1,t :: ts) :: r).reverse.map seV).set q (.slice (some ⟨b,o,none⟩) nt (0))):=(row_setP HOWN.out (by omega) _).alloc _
      have boxV:Hold wr.heap.size #[.int .i64 t.kd,.string (S t.nm),.int .i64 t.nu,.slice qn t.ns.length dn,.slice qk t.ks.length dk] 27 ((wr.setCell ⟨g,q,none⟩ (.slice (some ⟨b,o,none⟩) nt (0))).alloc (.cells #[.int .i64 t.kd,.string (S t.nm),.int .i64 t.nu,.slice qn t.ns.length dn,.slice qk t.ks.length dk] 27)):=by have:=Hold.new (wr.setCell ⟨g,q,none⟩ (.slice (some ⟨b,o,none⟩) nt (0))) #[.int .i64 t.kd,.string (S t.nm),.int .i64 t.nu,.slice qn t.ns.length dn,.slice qk t.ks.length dk] 27;simpa using this
      have BV:Below we.heap.size we ((wr.setCell ⟨g,q,none⟩ (.slice (some ⟨b,o,none⟩) nt (0))).alloc (.cells #[.int .i64 t.kd,.string (S t.nm),.int .i64 t.nu,.slice qn t.ns.length dn,.slice qk t.ks.length dk] 27)):=(HB.out.setCell (p:=⟨g,q,none⟩) (by have:=hwe.size;have:=hW.size;show we.heap.size≤g;omega) _).alloc (by have:=HB.out.size;simpa using this) _
      obtain ⟨fn',tmps',assign',body',hy,hR⟩:=HY.out pre ⟨_,hx⟩ _ hJV hlen
      simp only [encP,cs5] at hy
      rw [show ((q+2:Nat):Int)=(q:Int)+1+1 by omega] at hy
      have HR2:=zz hR
      have HRV:=zz rowV
      have HXV:=zz boxV
      have HBV:=zz BV
      clear hR rowV boxV BV hJV hg1
      gi_wp2_with fail
      refine HR2.out.mono ?_
      rintro e' Z (⟨rfl,hJZ,hkZ⟩ | ⟨rfl,hJxZ⟩)
      ·have rowZ:=kp_row hkZ hW.size HRV.out
       have boxZ:=hkZ.hold (k:=wr.heap.size) (by have:=hW.size;omega) HXV.out
       have d4:=boxZ.cell 4
       simp only [lGA,lGS,lGZ] at d4
       have hZs:wr.heap.size+1≤Z.heap.size:=by have:=hkZ.1.size;simpa using this
       have BZ:=HBV.out.trans hkZ.1
       have HJZ:=zz hJZ
       have HRZ:=zz rowZ
       have HBZ:=zz BZ
       clear hkZ boxZ BZ hJZ
       gi_wp2_with (gi_at_builtin;refine wpListIn_append_own _ rfl _ _ 193 rfl W.heap.size 25 i0 (.slice none 0 0) 1 24 Tryz.underlying193 hi hz0 hz1 hz2 rfl (by decide) _ _ _ rfl (rowZ.alloc _) ⟨Z.heap.size,0,none⟩ 1 1 [.slice qk t.ks.length dk] rfl rfl (cell_one_new _ _ _) (by simp [Value.oneCell']) (by unfold maxLen;omega) (by omega) (by simp;omega) ?_;intro v' w2 hown2 hgrow0 _;have hgrow:(Z.alloc (.cells #[.slice qk t.ks.length dk] 25)).grownBy w2 (Value.slice (some ⟨g,0,none⟩) (q+1) c).ownBlock:=hgrow0;clear hgrow0;obtain ⟨ao,cc,rfl⟩:=slice_of hown2)
       have hR:ptR P we e W.heap.size J (2 * (remS ((qk,dk,t.ks) :: ((some ⟨b,o,none⟩:Option Addr),0,ts) :: r)).length+(r.length+2)) (.slice ao (q+1+1) cc) w2:=by
        refine ⟨pre ++ [⟨_,hx⟩],(qk,dk,t.ks) :: ((some ⟨b,o,none⟩:Option Addr),0,ts) :: r,ao,cc,rfl,by rw [← HQ.out];rfl,?_,?_,?_,?_,?_,?_,?_⟩
        ·have e1:((qk,dk,t.ks) :: ((some ⟨b,o,none⟩:Option Addr),0,ts) :: r).length=q+1+1:=by rw [← HQ.out];rfl
         have e2:((qk,dk,t.ks) :: ((some ⟨b,o,none⟩:Option Addr),0,ts) :: r).reverse.map seV=((((some ⟨b,o,none⟩,1,t :: ts) :: r).reverse.map seV).set q (.slice (some ⟨b,o,none⟩) nt (0))) ++ [.slice qk t.ks.length dk]:=by
          have e3:(r.reverse.map seV).length=q:=by rw [← HQ.out];simp
          simp only [List.reverse_cons,List.map_append,List.map_cons,List.map_nil,List.append_assoc,List.cons_append,List.nil_append]
          rw [List.set_append,if_neg (by omega),e3,Nat.sub_self]
          simp [seV,HNT.out]
         rw [e1,e2];exact hown2
        ·intro x hx'
         rcases List.mem_cons.1 hx' with rfl | hx'
         ·obtain ⟨_,_,pk2,ck2,hc2,_,_,_,h5,_,h7⟩:=(TrIn_iff _ _ _ _).1 HIN.out
          simp at hc2
          obtain ⟨rfl,rfl⟩:qk=pk2∧dk=ck2:=⟨hc2.2.1,hc2.2.2⟩
          exact ⟨h5,h7⟩
         ·rcases List.mem_cons.1 hx' with rfl | hx'
          ·exact ⟨⟨by rw [HN0.out];exact Nat.le_refl _,Nat.zero_le _,fun h=>rfl⟩,.inl HN0.out⟩
          ·exact HOK.out x (List.mem_cons_of_mem _ hx')
        ·have h1:=HPRE.out
         simp only [remS,List.flatMap_cons,List.length_cons] at h1 ⊢
         rw [po_eq t,HQ.out] at h1
         rw [HQ.out,← h1]
         simp [bareP]
        ·refine HJ.out _ _ _ _ (HJ.out _ _ _ none HJZ.out (World.grownBy_alloc Z _ none) (fun r e=>by cases e)) hgrow (fun r e=>?_)
         have e2:g=r:=by simpa [Value.ownBlock] using e
         omega
        ·exact (HBZ.out.alloc (by have:=HBZ.out.size;omega) _).trans (below_row (base_mono (rowZ.alloc _) (by have:=hwe.size;have:=hW.size;omega)) (by simp;have:=HBZ.out.size;omega) hgrow)
        ·have:=hgrow.size;simp at this;omega
        ·show r.length+2≤1000001
         rw [HQ.out]
         have:=(hD _ hmem).1
         simp at this;omega
       refine ⟨⟨_,hR⟩,?_⟩
       have h1:=(HMU.out _ _ ⟨_,hR⟩).2 _ hR
       have h2:=HKK.out
       have h3:=HMM.out
       have h4:(remS ((some ⟨b,o,none⟩,1,t :: ts) :: r)).length=(remS ((qk,dk,t.ks) :: ((some ⟨b,o,none⟩:Option Addr),0,ts) :: r)).length+1:=by
        simp only [remS,List.flatMap_cons,po_eq t,List.length_append,List.length_cons,Nat.add_assoc,Nat.reduceAdd]
        omega
       rw [h4] at h2
       rw [HQ.out] at h1
       rw [h3,h2]
       omega
      ·have HJX:=zz hJxZ
       clear hJxZ
       gi_wp2_with fail
       refine bodyPost_ret (results_none rfl _ _ _) rfl ?_
       refine ⟨⟨_,rfl⟩,.inr ⟨_,?_,HJX.out⟩⟩
       refine ⟨(t.ks.flatMap fun k=>po k (q+3)) ++ ((ts.flatMap fun k=>po k (q+2)) ++ remS r),?_⟩
       rw [← HPRE.out]
       simp only [remS,List.flatMap_cons,po_eq t,HQ.out]
       simp [bareP]
     ·have HCS:=zz hcs
      have hmem:(q+2,t) ∈ po e 1:=by
       rw [← HPRE.out]
       simp only [remS,List.flatMap_cons,po_eq t,HQ.out]
       simp
      have hx:okX P we ⟨q+2,t,qn,dn,qk,dk⟩:=⟨HIN.out,by show q+2≤2147483647;omega,(hD _ hmem).2⟩
      have hg1:wr.grownBy (wr.setCell ⟨g,q,none⟩ (.slice (some ⟨b,o+5,none⟩) nt (cs - 1))) (some g):=⟨rfl,rfl,rfl,by simp,fun k hk hne=>Below.heap_setCell _ _ _ k (fun h=>hne (by rw [h]))⟩
      have hJV:J pre ((wr.setCell ⟨g,q,none⟩ (.slice (some ⟨b,o+5,none⟩) nt (cs - 1))).alloc (.cells #[.int .i64 t.kd,.string (S t.nm),.int .i64 t.nu,.slice qn t.ns.length dn,.slice qk t.ks.length dk] 27)):=HJ.out _ _ _ none (HJ.out _ _ _ (some g) HJP.out hg1 (fun r e=>by cases e;exact hgB)) (World.grownBy_alloc _ _ none) (fun r e=>by cases e)
      have hlen:pre.length<(po e 1).length+1:=by
       have:=congrArg List.length HPRE.out
       simp at this;omega
      have rowV:World.ownsRow ((wr.setCell ⟨g,q,none⟩ (.slice (some ⟨b,o+5,none⟩) nt (cs - 1))).alloc (.cells #[.int .i64 t.kd,.string (S t.nm),.int .i64 t.nu,.slice qn t.ns.length dn,.slice qk t.ks.length dk] 27)) W.heap.size 25 1 (.slice (some ⟨g,0,none⟩) (q+1) c) (q+1) ((((some ⟨b,o,none⟩,cs,t :: ts) :: r).reverse.map seV).set q (.slice (some ⟨b,o+5,none⟩) nt (cs - 1))):=(row_setP HOWN.out (by omega) _).alloc _
      have boxV:Hold wr.heap.size #[.int .i64 t.kd,.string (S t.nm),.int .i64 t.nu,.slice qn t.ns.length dn,.slice qk t.ks.length dk] 27 ((wr.setCell ⟨g,q,none⟩ (.slice (some ⟨b,o+5,none⟩) nt (cs - 1))).alloc (.cells #[.int .i64 t.kd,.string (S t.nm),.int .i64 t.nu,.slice qn t.ns.length dn,.slice qk t.ks.length dk] 27)):=by have:=Hold.new (wr.setCell ⟨g,q,none⟩ (.slice (some ⟨b,o+5,none⟩) nt (cs - 1))) #[.int .i64 t.kd,.string (S t.nm),.int .i64 t.nu,.slice qn t.ns.length dn,.slice qk t.ks.length dk] 27;simpa using this
      have BV:Below we.heap.size we ((wr.setCell ⟨g,q,none⟩ (.slice (some ⟨b,o+5,none⟩) nt (cs - 1))).alloc (.cells #[.int .i64 t.kd,.string (S t.nm),.int .i64 t.nu,.slice qn t.ns.length dn,.slice qk t.ks.length dk] 27)):=(HB.out.setCell (p:=⟨g,q,none⟩) (by have:=hwe.size;have:=hW.size;show we.heap.size≤g;omega) _).alloc (by have:=HB.out.size;simpa using this) _
      obtain ⟨fn',tmps',assign',body',hy,hR⟩:=HY.out pre ⟨_,hx⟩ _ hJV hlen
      simp only [encP,cs5] at hy
      rw [show ((q+2:Nat):Int)=(q:Int)+1+1 by omega] at hy
      have HR2:=zz hR
      have HRV:=zz rowV
      have HXV:=zz boxV
      have HBV:=zz BV
      clear hR rowV boxV BV hJV hg1
      gi_wp2_with fail
      refine HR2.out.mono ?_
      rintro e' Z (⟨rfl,hJZ,hkZ⟩ | ⟨rfl,hJxZ⟩)
      ·have rowZ:=kp_row hkZ hW.size HRV.out
       have boxZ:=hkZ.hold (k:=wr.heap.size) (by have:=hW.size;omega) HXV.out
       have d4:=boxZ.cell 4
       simp only [lGA,lGS,lGZ] at d4
       have hZs:wr.heap.size+1≤Z.heap.size:=by have:=hkZ.1.size;simpa using this
       have BZ:=HBV.out.trans hkZ.1
       have HJZ:=zz hJZ
       have HRZ:=zz rowZ
       have HBZ:=zz BZ
       clear hkZ boxZ BZ hJZ
       gi_wp2_with (gi_at_builtin;refine wpListIn_append_own _ rfl _ _ 193 rfl W.heap.size 25 i0 (.slice none 0 0) 1 24 Tryz.underlying193 hi hz0 hz1 hz2 rfl (by decide) _ _ _ rfl (rowZ.alloc _) ⟨Z.heap.size,0,none⟩ 1 1 [.slice qk t.ks.length dk] rfl rfl (cell_one_new _ _ _) (by simp [Value.oneCell']) (by unfold maxLen;omega) (by omega) (by simp;omega) ?_;intro v' w2 hown2 hgrow0 _;have hgrow:(Z.alloc (.cells #[.slice qk t.ks.length dk] 25)).grownBy w2 (Value.slice (some ⟨g,0,none⟩) (q+1) c).ownBlock:=hgrow0;clear hgrow0;obtain ⟨ao,cc,rfl⟩:=slice_of hown2)
       have hR:ptR P we e W.heap.size J (2 * (remS ((qk,dk,t.ks) :: ((some ⟨b,o+5,none⟩:Option Addr),cs - 1,ts) :: r)).length+(r.length+2)) (.slice ao (q+1+1) cc) w2:=by
        refine ⟨pre ++ [⟨_,hx⟩],(qk,dk,t.ks) :: ((some ⟨b,o+5,none⟩:Option Addr),cs - 1,ts) :: r,ao,cc,rfl,by rw [← HQ.out];rfl,?_,?_,?_,?_,?_,?_,?_⟩
        ·have e1:((qk,dk,t.ks) :: ((some ⟨b,o+5,none⟩:Option Addr),cs - 1,ts) :: r).length=q+1+1:=by rw [← HQ.out];rfl
         have e2:((qk,dk,t.ks) :: ((some ⟨b,o+5,none⟩:Option Addr),cs - 1,ts) :: r).reverse.map seV=((((some ⟨b,o,none⟩,cs,t :: ts) :: r).reverse.map seV).set q (.slice (some ⟨b,o+5,none⟩) nt (cs - 1))) ++ [.slice qk t.ks.length dk]:=by
          have e3:(r.reverse.map seV).length=q:=by rw [← HQ.out];simp
          simp only [List.reverse_cons,List.map_append,List.map_cons,List.map_nil,List.append_assoc,List.cons_append,List.nil_append]
          rw [List.set_append,if_neg (by omega),e3,Nat.sub_self]
          simp [seV,HNT.out]
         rw [e1,e2];exact hown2
        ·intro x hx'
         rcases List.mem_cons.1 hx' with rfl | hx'
         ·obtain ⟨_,_,pk2,ck2,hc2,_,_,_,h5,_,h7⟩:=(TrIn_iff _ _ _ _).1 HIN.out
          simp at hc2
          obtain ⟨rfl,rfl⟩:qk=pk2∧dk=ck2:=⟨hc2.2.1,hc2.2.2⟩
          exact ⟨h5,h7⟩
         ·rcases List.mem_cons.1 hx' with rfl | hx'
          ·exact ⟨⟨by have h1:=HSLO.out.1;have h2:=HNT.out;show ts.length≤cs - 1;omega,by have h1:=HSLO.out.2.1;show cs - 1≤_;omega,fun h=>by cases h⟩,EM.tl HEM.out⟩
          ·exact HOK.out x (List.mem_cons_of_mem _ hx')
        ·have h1:=HPRE.out
         simp only [remS,List.flatMap_cons,List.length_cons] at h1 ⊢
         rw [po_eq t,HQ.out] at h1
         rw [HQ.out,← h1]
         simp [bareP]
        ·refine HJ.out _ _ _ _ (HJ.out _ _ _ none HJZ.out (World.grownBy_alloc Z _ none) (fun r e=>by cases e)) hgrow (fun r e=>?_)
         have e2:g=r:=by simpa [Value.ownBlock] using e
         omega
        ·exact (HBZ.out.alloc (by have:=HBZ.out.size;omega) _).trans (below_row (base_mono (rowZ.alloc _) (by have:=hwe.size;have:=hW.size;omega)) (by simp;have:=HBZ.out.size;omega) hgrow)
        ·have:=hgrow.size;simp at this;omega
        ·show r.length+2≤1000001
         rw [HQ.out]
         have:=(hD _ hmem).1
         simp at this;omega
       refine ⟨⟨_,hR⟩,?_⟩
       have h1:=(HMU.out _ _ ⟨_,hR⟩).2 _ hR
       have h2:=HKK.out
       have h3:=HMM.out
       have h4:(remS ((some ⟨b,o,none⟩,cs,t :: ts) :: r)).length=(remS ((qk,dk,t.ks) :: ((some ⟨b,o+5,none⟩:Option Addr),cs - 1,ts) :: r)).length+1:=by
        simp only [remS,List.flatMap_cons,po_eq t,List.length_append,List.length_cons,Nat.add_assoc,Nat.reduceAdd]
        omega
       rw [h4] at h2
       rw [HQ.out] at h1
       rw [h3,h2]
       omega
      ·have HJX:=zz hJxZ
       clear hJxZ
       gi_wp2_with fail
       refine bodyPost_ret (results_none rfl _ _ _) rfl ?_
       refine ⟨⟨_,rfl⟩,.inr ⟨_,?_,HJX.out⟩⟩
       refine ⟨(t.ks.flatMap fun k=>po k (q+3)) ++ ((ts.flatMap fun k=>po k (q+2)) ++ remS r),?_⟩
       rw [← HPRE.out]
       simp only [remS,List.flatMap_cons,po_eq t,HQ.out]
       simp [bareP]
 ·have HJX:=zz hJx3
  clear hJx3
  gi_wp2_with fail
  refine bodyPost_ret (results_none rfl _ _ _) rfl ?_
  exact ⟨⟨_,rfl⟩,.inr ⟨_,⟨_,by rw [hpo];rfl⟩,HJX.out⟩⟩
attribute [local go_sem] Oper.semAt_some
def kidsN (l:List (Nat × Tr)):Nat:=(l.map fun x=>x.2.ks.length).sum
def goC:Nat→List (Nat × Tr)→Bool
 | _,[]=>true
 | z,x :: r=>decide (x.1≤30) && decide (z+x.2.ks.length≤1000) && soundM x.2 && goC (z+x.2.ks.length) r
theorem goC_app (l:List (Nat × Tr)):∀ z r,goC z (l ++ r)=(goC z l && goC (z+kidsN l) r):=by
 induction l with
 | nil=>intro z r;simp [goC,kidsN]
 | cons x l ih=>
  intro z r
  simp only [List.cons_append,goC,ih,kidsN,List.map_cons,List.sum_cons]
  rw [show z+(x.2.ks.length+(l.map fun x=>x.2.ks.length).sum)=z+x.2.ks.length+(l.map fun x=>x.2.ks.length).sum by omega]
  simp only [Bool.and_assoc]
theorem goC_bad (l r:List (Nat × Tr)) (z:Nat) (h:goC z l=false):goC z (l ++ r)=false:=by rw [goC_app,h];rfl
theorem goC_le {l:List (Nat × Tr)} {z:Nat} (h:goC z l=true):kidsN l≤1000:=by
 have key:∀ (l:List (Nat × Tr)) z,goC z l=true→l=[]∨z+kidsN l≤1000:=by
  intro l
  induction l with
  | nil=>intro z _;exact .inl rfl
  | cons x r ih=>
   intro z h
   simp only [goC,Bool.and_eq_true,decide_eq_true_eq] at h
   right
   rcases ih _ h.2 with rfl | h2
   ·simp [kidsN];omega
   ·simp only [kidsN,List.map_cons,List.sum_cons] at h2 ⊢;omega
 rcases key l z h with rfl | h2
 ·simp [kidsN]
 ·omega
def checkM (e:Tr):Bool:=!(e.kd == 8 || e.kd == 13) && goC 1 (po e 1)
theorem parts_call (n:Nat) (e:Tr) (pn:Option Addr) (cn:Nat) (pk:Option Addr) (ck:Nat) (w:World):CallsIn Fence.wide n Tryz.prog 123 #[.agg (cs5 e pn cn pk ck)] w fun r w'=>r=.returned (.func (.func 181) #[] #[.pointer (some ⟨w.heap.size,0,none⟩)])∧w'=w.alloc (.cells (cs5 e pn cn pk ck) 27):=by
 refine callsIn_of_wp Tryz.func123 rfl trivial ?_ rfl
 simp only [Tryz.ntmps123,List.size_toArray,List.length_cons,List.length_nil,Nat.reduceAdd,Nat.reduceSub,Array.replicate_succ,Array.replicate_zero,List.push_toArray,List.append_toArray,List.nil_append,List.cons_append]
 unfold cs5
 gi_wp2
 go_ret
 exact ⟨rfl,rfl⟩
theorem yes_any (k:Int) (w:World):Calls Tryz.prog 65 #[.int .i64 k] w fun r w'=>r=.returned (.bool true)∧w'=w:=by
 go_enter Tryz.func65,Tryz.ntmps65
 go_wp2
 go_ret
 exact ⟨rfl,rfl⟩
theorem own_hold {k B:Nat} {C:Array Value} {t:TypeId} {W W':World} {row:Option Nat} (h:Hold k C t W) (hg:W.grownBy W' row) (hr:∀ r,row=some r→B≤r) (hk:k<B):Hold k C t W':=(hg.block k h.lt (fun e=>by have:=hr k e.symm;omega)).trans h
theorem own_below {n B:Nat} {w W W':World} {row:Option Nat} (h:Below n w W) (hg:W.grownBy W' row) (hr:∀ r,row=some r→B≤r) (hn:n≤B) (hs:n≤W.heap.size):Below n w W':=h.trans ⟨hg.os,hg.tape,hg.output,hg.size,fun k hk=>hg.block k (by omega) (fun e=>by have:=hr k e.symm;omega)⟩
theorem hold_putP {k l:Nat} {C:Array Value} {t:TypeId} {W:World} {o:Obj} (h:Hold k C t W) (o':Obj) (hl:W.heap[l]?=some o) (ho:o.isCells=false):Hold k C t (W.putObj l o'):=by
 refine ((grownBy_putObj' W l o').block k h.lt (fun e=>?_)).trans h
 have e':k=l:=by simpa using e
 subst e'
 rw [show W.heap[k]?=_ from h] at hl
 cases hl
 simp [Obj.isCells] at ho
theorem kf_of {B:Nat} {X Y:World} {Q:Nat→Prop} (h:KP (fun k=>k<X.heap.size∧¬ Q k) X Y) (hQ:∀ k,Q k→k<B):KeepsFrom B X Y:=⟨h.size,fun k o hB hk ho=>(h.block k ⟨(Array.getElem?_eq_some_iff.1 hk).1,fun hq=>by have:=hQ k hq;omega⟩).trans hk⟩
theorem kp_of {n B s:Nat} {X Y:World} {Q:Nat→Prop} (h:KP (fun k=>k<X.heap.size∧¬ Q k) X Y) (hQ:∀ k,Q k→k<B∧n≤k∧k≠s) (hn:n≤X.heap.size) (hs:s<X.heap.size):KpB n B s X Y:=
 ⟨⟨h.os,h.tape,h.output,h.size,fun k hk=>h.block k ⟨by omega,fun hq=>by have:=(hQ k hq).2.1;omega⟩⟩,h.block s ⟨hs,fun hq=>(hQ s hq).2.2 rfl⟩,fun k C t f hb hk=>(h.block k ⟨(Array.getElem?_eq_some_iff.1 hk).1,fun hq=>by have:=(hQ k hq).1;omega⟩).trans hk⟩
theorem may_in {n:Nat} (hn:8≤n) {P:Nat→Prop} {w:World} {e:Tr} {pn:Option Addr} {cn:Nat} {pk:Option Addr} {ck:Nat} (hP:∀ b,P b→b<w.heap.size) (hE:TrIn P w e [.int .i64 e.kd,.string (S e.nm),.int .i64 e.nu,.slice pn e.ns.length cn,.slice pk e.ks.length ck]) (hD:∀ x ∈ po e 1,x.1≤1000000∧x.2.ks.length≤1000000) :
 CallsIn Fence.wide n Tryz.prog 64 #[.agg (cs5 e pn cn pk ck),.func (.func 65) #[] #[]] w fun r w'=>r=.returned (.bool (checkM e))∧Below w.heap.size w w':=by
 have h1:1≤n:=by omega
 refine callsIn_of_wp_marks Tryz.func64 rfl trivial ?_ rfl
 simp only [Tryz.ntmps64,List.size_toArray,List.length_cons,List.length_nil,Nat.reduceAdd,Nat.reduceSub,Array.replicate_succ,Array.replicate_zero,List.push_toArray,List.append_toArray,List.nil_append,List.cons_append]
 cases hk:(e.kd == 8 || e.kd == 13)
 ·have hk8:¬ e.kd=8:=by simp at hk;exact hk.1
  have hk13:¬ e.kd=13:=by simp at hk;exact hk.2
  unfold cs5
  gi_wp2_with fail
  refine ⟨trivial,(parts_call (n - 1) e pn cn pk ck _).mono ?_⟩
  rintro r w' ⟨rfl,rfl⟩
  unfold cs5
  gi_wp2_with fail
  have A1:=(((Hold.new (w.alloc (.cells #[.int .i64 e.kd,.string (S e.nm),.int .i64 e.nu,.slice pn e.ns.length cn,.slice pk e.ks.length ck] 27)) #[.func (.func 65) #[] #[]] 103).alloc (.cells #[.bool false] 4)).alloc (.cells #[.int .i64 1] 3)).alloc (.cells #[.int .i64 e.kd,.string (S e.nm),.int .i64 e.nu,.slice pn e.ns.length cn,.slice pk e.ks.length ck] 27)
  have A2:=((Hold.new ((w.alloc (.cells #[.int .i64 e.kd,.string (S e.nm),.int .i64 e.nu,.slice pn e.ns.length cn,.slice pk e.ks.length ck] 27)).alloc (.cells #[.func (.func 65) #[] #[]] 103)) #[.bool false] 4).alloc (.cells #[.int .i64 1] 3)).alloc (.cells #[.int .i64 e.kd,.string (S e.nm),.int .i64 e.nu,.slice pn e.ns.length cn,.slice pk e.ks.length ck] 27)
  have A3:=(Hold.new (((w.alloc (.cells #[.int .i64 e.kd,.string (S e.nm),.int .i64 e.nu,.slice pn e.ns.length cn,.slice pk e.ks.length ck] 27)).alloc (.cells #[.func (.func 65) #[] #[]] 103)).alloc (.cells #[.bool false] 4)) #[.int .i64 1] 3).alloc (.cells #[.int .i64 e.kd,.string (S e.nm),.int .i64 e.nu,.slice pn e.ns.length cn,.slice pk e.ks.length ck] 27)
  have A4:=Hold.new ((((w.alloc (.cells #[.int .i64 e.kd,.string (S e.nm),.int .i64 e.nu,.slice pn e.ns.length cn,.slice pk e.ks.length ck] 27)).alloc (.cells #[.func (.func 65) #[] #[]] 103)).alloc (.cells #[.bool false] 4)).alloc (.cells #[.int .i64 1] 3)) #[.int .i64 e.kd,.string (S e.nm),.int .i64 e.nu,.slice pn e.ns.length cn,.slice pk e.ks.length ck] 27
  have AB:Below w.heap.size w (((((w.alloc (.cells #[.int .i64 e.kd,.string (S e.nm),.int .i64 e.nu,.slice pn e.ns.length cn,.slice pk e.ks.length ck] 27)).alloc (.cells #[.func (.func 65) #[] #[]] 103)).alloc (.cells #[.bool false] 4)).alloc (.cells #[.int .i64 1] 3)).alloc (.cells #[.int .i64 e.kd,.string (S e.nm),.int .i64 e.nu,.slice pn e.ns.length cn,.slice pk e.ks.length ck] 27)):=(((((Below.refl _ w).alloc (Nat.le_refl _) _).alloc (by simp) _).alloc (by simp;omega) _).alloc (by simp;omega) _).alloc (by simp;omega) _
  have AZ:((((((w.alloc (.cells #[.int .i64 e.kd,.string (S e.nm),.int .i64 e.nu,.slice pn e.ns.length cn,.slice pk e.ks.length ck] 27)).alloc (.cells #[.func (.func 65) #[] #[]] 103)).alloc (.cells #[.bool false] 4)).alloc (.cells #[.int .i64 1] 3)).alloc (.cells #[.int .i64 e.kd,.string (S e.nm),.int .i64 e.nu,.slice pn e.ns.length cn,.slice pk e.ks.length ck] 27))).heap.size=w.heap.size+1+1+1+1+1:=by simp
  simp only [World.size_alloc] at A1 A2 A3 A4
  generalize (((((w.alloc (.cells #[.int .i64 e.kd,.string (S e.nm),.int .i64 e.nu,.slice pn e.ns.length cn,.slice pk e.ks.length ck] 27)).alloc (.cells #[.func (.func 65) #[] #[]] 103)).alloc (.cells #[.bool false] 4)).alloc (.cells #[.int .i64 1] 3)).alloc (.cells #[.int .i64 e.kd,.string (S e.nm),.int .i64 e.nu,.slice pn e.ns.length cn,.slice pk e.ks.length ck] 27))=W0 at *
  obtain ⟨bA,hbA⟩:∃ b,b=w.heap.size+1:=⟨_,rfl⟩
  obtain ⟨bR,hbR⟩:∃ b,b=w.heap.size+1+1:=⟨_,rfl⟩
  obtain ⟨bS,hbS⟩:∃ b,b=w.heap.size+1+1+1:=⟨_,rfl⟩
  obtain ⟨bP,hbP⟩:∃ b,b=w.heap.size+1+1+1+1:=⟨_,rfl⟩
  rw [← hbA] at A1
  rw [← hbR] at A2
  rw [← hbS] at A3
  rw [← hbP] at A4
  rw [← hbP,← hbS,← hbR,← hbA]
  have o1:w.heap.size<bA:=by omega
  have o2:bA<bR:=by omega
  have o3:bR<bS:=by omega
  have o4:bS<bP:=by omega
  have o5:bP<W0.heap.size:=by omega
  clear hbA hbR hbS hbP AZ
  have HWE:=zz AB
  refine range_cells h1 (gf:=181) (lb:=#[.pointer (some ⟨bP,0,none⟩)]) rfl (enters_of Tryz.func181 (by kernel_rfl) rfl)
   (parts_it (n:=n - 1) (by omega) hP hE hD A4.lt A4 AB) KpB.trans (KpB.put AB.size A4.lt) (fun _=>rfl)
   (fun pre W=>goC 1 (pre.map bareP)=true∧Hold bS #[.int .i64 ((1+kidsN (pre.map bareP):Nat):Int)] 3 W∧Hold bR #[.bool false] 4 W∧Hold bA #[.func (.func 65) #[] #[]] 103 W∧Below w.heap.size w W∧W0.heap.size≤W.heap.size)
   (fun pre W=>goC 1 (pre.map bareP)=false∧Hold bR #[.bool false] 4 W∧Below w.heap.size w W∧W0.heap.size≤W.heap.size)
   (fun s A B row hs hg hr=>⟨hs.1,own_hold hs.2.1 hg hr (by omega),own_hold hs.2.2.1 hg hr (by omega),own_hold hs.2.2.2.1 hg hr (by omega),own_below hs.2.2.2.2.1 hg hr (by omega) (by omega),Nat.le_trans hs.2.2.2.2.2 hg.size⟩)
   (fun s A B row hs hg hr=>⟨hs.1,own_hold hs.2.1 hg hr (by omega),own_below hs.2.2.1 hg hr (by omega) (by omega),Nat.le_trans hs.2.2.2 hg.size⟩)
   ⟨rfl,A3,A2,A1,AB,Nat.le_refl _⟩
   (fun x W=>{ tmps:=#[.agg #[.int .i64 e.kd,.string (S e.nm),.int .i64 e.nu,.slice pn e.ns.length cn,.slice pk e.ks.length ck],.func (.func 65) #[] #[],.pointer (some ⟨w.heap.size,0,none⟩),.pointer (some ⟨bA,0,none⟩),.pointer (some ⟨bR,0,none⟩),.pointer (some ⟨bS,0,none⟩),.int .i64 x.1.lv,.pointer (some ⟨W.heap.size,0,none⟩),.pointer (some ⟨w.heap.size,0,none⟩),.int .i64 e.kd,.bool (e.kd == 8),.bool (e.kd == 8),.pointer (some ⟨w.heap.size,0,none⟩),.int .i64 e.kd,.bool (e.kd == 13),.bool false,.agg #[.int .i64 e.kd,.string (S e.nm),.int .i64 e.nu,.slice pn e.ns.length cn,.slice pk e.ks.length ck],.func (.func 181) #[] #[.pointer (some ⟨bP,0,none⟩)],.int .i64 x.1.lv,.agg #[.int .i64 x.1.t.kd,.string (S x.1.t.nm),.int .i64 x.1.t.nu,.slice x.1.pn x.1.t.ns.length x.1.cn,.slice x.1.pk x.1.t.ks.length x.1.ck],undef,undef,undef,undef,undef,undef,undef,undef,undef,undef,undef,undef,undef,undef,undef,undef,undef,undef,undef,undef,undef,undef,undef],defers:=[] })
   (fun x W=>W.alloc (.cells #[.int .i64 x.1.t.kd,.string (S x.1.t.nm),.int .i64 x.1.t.nu,.slice x.1.pn x.1.t.ns.length x.1.cn,.slice x.1.pk x.1.t.ks.length x.1.ck] 27))
   (fun x W hWs=>⟨World.grownBy_alloc W _ none,?_⟩) ?_ ?_ ?_ ?_
  ·exact ⟨(Below.refl _ W).alloc (by omega) _,Below.heap_alloc W _ bP (by omega),fun k C t f hb hk=>(Below.heap_alloc W _ k (Array.getElem?_eq_some_iff.1 hk).1).trans hk⟩
  ·intro ld x W K hK
   unfold encP cs5
   gi_wp2
   exact hK
  ·rintro ld pre ⟨⟨lv,t,qn,dn,qk,dk⟩,hx⟩ W X hWs hXs hXb ⟨hgo,hS,hR,hA,hB,hsz⟩ hlen
   obtain ⟨hIn,hlv9,hbn⟩:=hx
   dsimp only at hIn hlv9 hbn hXs hXb ⊢
   have hpt:Hold W.heap.size #[.int .i64 t.kd,.string (S t.nm),.int .i64 t.nu,.slice qn t.ns.length dn,.slice qk t.ks.length dk] 27 X:=(hXb W.heap.size (by omega)).trans (Hold.new W _ 27)
   have c0:=hpt.cell 0;have c1:=hpt.cell 1;have c2:=hpt.cell 2;have c3:=hpt.cell 3;have c4:=hpt.cell 4
   simp only [lGA,lGS,lGZ] at c0 c1 c2 c3 c4
   have hkn:kidsN (pre.map bareP)≤1000:=goC_le hgo
   have sS:=hS.cell 0
   have fS:=hS.frozen 0
   have sA:=hA.cell 0
   have sR:=hR.cell 0
   have fR:=hR.frozen 0
   simp only [lGA,lGS,lGZ] at sS sA sR
   have HGO:Hid (∀ y:PN P w,bareP y=(lv,t)→goC 1 ((pre ++ [y]).map bareP)=(decide (lv≤30) && decide (1+kidsN (pre.map bareP)+t.ks.length≤1000) && soundM t)∧kidsN ((pre ++ [y]).map bareP)=kidsN (pre.map bareP)+t.ks.length):=by
    intro y hy
    rw [List.map_append,List.map_cons,List.map_nil,hy,goC_app,hgo]
    simp [goC,kidsN]
   obtain ⟨Y,hY⟩:∃ Y,Y=X.setCell ⟨bS,0,none⟩ (.int .i64 (1+(kidsN (pre.map bareP):Int)+(t.ks.length:Int))):=⟨_,rfl⟩
   have kY:KP (fun k=>k<X.heap.size∧¬ (k=bS∨k=bR)) X Y:=by rw [hY];exact KP.setCell _ _ _ _ (fun h=>h.2 (.inl rfl))
   have bY:Below w.heap.size w Y:=by rw [hY];exact hB.setCell (p:=⟨bS,0,none⟩) (by show w.heap.size≤bS;omega) _
   have hSY:Hold bS #[.int .i64 (1+(kidsN (pre.map bareP):Int)+(t.ks.length:Int))] 3 Y:=by rw [hY];have:=hS.set 0 (.int .i64 (1+(kidsN (pre.map bareP):Int)+(t.ks.length:Int)));simpa using this
   have hRY:Hold bR #[.bool false] 4 Y:=by rw [hY];exact hR.other (by omega) _ _
   have hAY:Hold bA #[.func (.func 65) #[] #[]] 103 Y:=by rw [hY];exact hA.other (by omega) _ _
   have hPY:Hold W.heap.size #[.int .i64 t.kd,.string (S t.nm),.int .i64 t.nu,.slice qn t.ns.length dn,.slice qk t.ks.length dk] 27 Y:=by rw [hY];exact hpt.other (by omega) _ _
   have HSO:=zz (sound_any (P:=P) (w:=Y) (fun b hb=>Nat.lt_of_lt_of_le (hP b hb) bY.size) (TrIn.keep (KP.of_below bY hP) (fun b hb=>hb) t _ hIn))
   have HYS:=zz fun k=>yes_any k Y
   have HKY:=zz kY
   have HBY:=zz bY
   have HSY:=zz hSY
   have HRY:=zz hRY
   have HAY:=zz hAY
   have HPY:=zz hPY
   clear kY bY hSY hRY hAY hPY hgo hS hR hA hpt hXb
   have hii:=HGO.out ⟨⟨lv,t,qn,dn,qk,dk⟩,hIn,hlv9,hbn⟩ rfl
   have HII:=zz hii
   have HXS:Hid (W0.heap.size≤X.heap.size):=hsz
   clear hii HGO
   by_cases hc1:lv≤30
   ·by_cases hc2:1+kidsN (pre.map bareP)+t.ks.length≤1000
    ·have hc1i:¬ (30:Int)<lv:=by omega
     have hc2i:¬ (1000:Int)<1+(kidsN (pre.map bareP):Int)+t.ks.length:=by omega
     gi_wp2_with fail
     rw [← hY]
     refine ⟨trivial,fun _=>by omega,(CallsIn.inRound ld (callsIn_wide.2 (HYS.out _))).mono ?_⟩
     rintro r w5 ⟨rfl,rfl⟩
     clear hY
     have e0:=HPY.out.cell 0;have e1:=HPY.out.cell 1;have e2:=HPY.out.cell 2;have e3:=HPY.out.cell 3;have e4:=HPY.out.cell 4
     simp only [lGA,lGS,lGZ] at e0 e1 e2 e3 e4
     unfold cs5 at HSO
     cases hsd:soundM t
     ·rw [hsd] at HSO
      have HSD:=zz hsd
      clear hsd
      gi_wp2_with fail
      refine ⟨trivial,fun _=>by omega,(CallsIn.inRound ld (callsIn_wide.2 HSO.out)).mono ?_⟩
      rintro r w6 ⟨rfl,hb6⟩
      have hR6:=HRY.out.below hb6 HRY.out.lt
      have s6:=hR6.cell 0
      have f6:=hR6.frozen 0
      simp only [lGA,lGS,lGZ] at s6
      have HB6:=zz hb6
      have HR6:=zz hR6
      clear hb6 hR6
      gi_wp2_with fail
      have kW:KP (fun k=>k<X.heap.size∧¬ (k=bS∨k=bR)) X w6:=HKY.out.trans (KP.of_below HB6.out (fun b hb=>Nat.lt_of_lt_of_le hb.1 HKY.out.size))
      have kZ:=kW.trans (KP.setCell (P:=fun k=>k<X.heap.size∧¬ (k=bS∨k=bR)) w6 bR 0 (.bool false) (fun h=>h.2 (.inr rfl)))
      refine ⟨kf_of kZ (fun k h=>by omega),?_,?_,?_,?_⟩
      ·rw [HII.out.1];rw [HSD.out];simp
      ·have:=(HR6.out).set 0 (.bool false);simpa using this
      ·exact (HBY.out.trans (HB6.out.mono HBY.out.size)).setCell (p:=⟨bR,0,none⟩) (by show w.heap.size≤bR;omega) _
      ·have:=kZ.size;have:=HXS.out;omega
     ·rw [hsd] at HSO
      have HSD:=zz hsd
      clear hsd
      gi_wp2_with fail
      refine ⟨trivial,fun _=>by omega,(CallsIn.inRound ld (callsIn_wide.2 HSO.out)).mono ?_⟩
      rintro r w6 ⟨rfl,hb6⟩
      have HB6:=zz hb6
      clear hb6
      gi_wp2_with fail
      have kW:KP (fun k=>k<X.heap.size∧¬ (k=bS∨k=bR)) X w6:=HKY.out.trans (KP.of_below HB6.out (fun b hb=>Nat.lt_of_lt_of_le hb.1 HKY.out.size))
      refine ⟨kf_of kW (fun k h=>by omega),kp_of kW (fun k h=>by omega) (by have:=HXS.out;have:=HWE.out.size;omega) (by have:=HXS.out;omega),?_,?_,?_,?_,?_,?_⟩
      ·rw [HII.out.1,HSD.out];simp [hc1,hc2]
      ·have h1:=HSY.out.below HB6.out HSY.out.lt
       have h2:((1+kidsN (List.map bareP (pre ++ [⟨⟨lv,t,qn,dn,qk,dk⟩,hIn,hlv9,hbn⟩])):Nat):Int)=1+(kidsN (pre.map bareP):Int)+t.ks.length:=by rw [HII.out.2];omega
       rw [h2];exact h1
      ·exact HRY.out.below HB6.out HRY.out.lt
      ·exact HAY.out.below HB6.out HAY.out.lt
      ·exact HBY.out.trans (HB6.out.mono HBY.out.size)
      ·have:=kW.size;have:=HXS.out;omega
    ·have hc1i:¬ (30:Int)<lv:=by omega
     have hc2i:(1000:Int)<1+(kidsN (pre.map bareP):Int)+t.ks.length:=by omega
     have gR:(X.setCell ⟨bS,0,none⟩ (.int .i64 (1+(kidsN (pre.map bareP):Int)+(t.ks.length:Int)))).frozen? ⟨bR,0,none⟩=false:=by rw [← hY];exact HRY.out.frozen 0
     have gS:(X.setCell ⟨bS,0,none⟩ (.int .i64 (1+(kidsN (pre.map bareP):Int)+(t.ks.length:Int)))).cell? ⟨bR,0,none⟩=some (.bool false):=by rw [← hY];exact HRY.out.cell 0
     gi_wp2_with fail
     refine ⟨fun f h=>(by cases h),?_⟩
     gi_wp2_with fail
     refine ⟨trivial,?_⟩
     gi_wp2_with fail
     rw [← hY]
     have kW:=HKY.out
     have kZ:=kW.trans (KP.setCell (P:=fun k=>k<X.heap.size∧¬ (k=bS∨k=bR)) Y bR 0 (.bool false) (fun h=>h.2 (.inr rfl)))
     refine ⟨kf_of kZ (fun k h=>by omega),?_,?_,?_,?_⟩
     ·rw [HII.out.1];simp [hc2]
     ·have:=(HRY.out).set 0 (.bool false);simpa using this
     ·exact (HBY.out).setCell (p:=⟨bR,0,none⟩) (by show w.heap.size≤bR;omega) _
     ·have:=kZ.size;have:=HXS.out;omega
   ·have hc1i:(30:Int)<lv:=by omega
    have gR:(X.setCell ⟨bS,0,none⟩ (.int .i64 (1+(kidsN (pre.map bareP):Int)+(t.ks.length:Int)))).frozen? ⟨bR,0,none⟩=false:=by rw [← hY];exact HRY.out.frozen 0
    have gS:(X.setCell ⟨bS,0,none⟩ (.int .i64 (1+(kidsN (pre.map bareP):Int)+(t.ks.length:Int)))).cell? ⟨bR,0,none⟩=some (.bool false):=by rw [← hY];exact HRY.out.cell 0
    gi_wp2_with fail
    refine ⟨fun f h=>(by cases h),?_⟩
    gi_wp2_with fail
    refine ⟨trivial,?_⟩
    gi_wp2_with fail
    rw [← hY]
    have kW:=HKY.out
    have kZ:=kW.trans (KP.setCell (P:=fun k=>k<X.heap.size∧¬ (k=bS∨k=bR)) Y bR 0 (.bool false) (fun h=>h.2 (.inr rfl)))
    refine ⟨kf_of kZ (fun k h=>by omega),?_,?_,?_,?_⟩
    ·rw [HII.out.1];simp [hc1]
    ·have:=(HRY.out).set 0 (.bool false);simpa using this
    ·exact (HBY.out).setCell (p:=⟨bR,0,none⟩) (by show w.heap.size≤bR;omega) _
    ·have:=kZ.size;have:=HXS.out;omega
  ·rintro ys W hS ⟨hgo,hSz,hR,hA,hB,hsz⟩ hK
   have c2:=hR.cell 0
   have f2:=hR.frozen 0
   gi_wp2
   have hK':=(KeepsOthers.setCell W ⟨bR,0,none⟩ (.bool true)).same W0.heap.size _ hK rfl
   have H2:=hold_putP (hR.set 0 (.bool true)) (.deferred none) hK' rfl
   have B2:=(hB.setCell (p:=⟨bR,0,none⟩) (by show w.heap.size≤bR;omega) (.bool true)).trans (belowK_b (w:=w) (Nat.le_refl _) _ W0.heap.size _ (.deferred none) (by omega) hK' rfl rfl)
   have e1:=H2.cell 0
   simp at e1
   refine ⟨by simp,.inl ⟨_,_,rfl,run_takeDeferred hK',?_⟩⟩
   refine ⟨.bool true,?_,?_⟩
   ·simp [results,Tryz.f64,go_sem,e1]
   ·exact ⟨by unfold checkM;rw [hk,← hS,hgo];rfl,B2⟩
  ·rintro pre W ⟨r,hr⟩ ⟨hgo,hR,hB,hsz⟩ hK
   gi_wp2
   have e1:=(hold_putP hR (.deferred none) hK rfl).cell 0
   simp at e1
   have B2:=hB.trans (belowK_b (w:=w) (Nat.le_refl _) _ W0.heap.size _ (.deferred none) (by omega) hK rfl rfl)
   refine ⟨by simp,.inl ⟨_,_,rfl,run_takeDeferred hK,?_⟩⟩
   refine ⟨.bool false,?_,?_⟩
   ·simp [results,Tryz.f64,go_sem,e1]
   ·exact ⟨by unfold checkM;rw [← hr,goC_bad _ _ _ hgo,Bool.and_false],B2⟩
 ·unfold cs5
  have hk':(e.kd == 8)=true∨(e.kd == 8)=false∧(e.kd == 13)=true:=by
   cases h8:(e.kd == 8)
   ·rw [h8] at hk;exact .inr ⟨rfl,by simpa using hk⟩
   ·exact .inl rfl
  rcases hk' with h8 | ⟨h8,h13⟩
  ·gi_wp2_with fail
   have A2:=Hold.new ((w.alloc (.cells #[.int .i64 e.kd,.string (S e.nm),.int .i64 e.nu,.slice pn e.ns.length cn,.slice pk e.ks.length ck] 27)).alloc (.cells #[.func (.func 65) #[] #[]] 103)) #[.bool false] 4
   simp only [World.size_alloc] at A2
   have e1:=A2.cell 0
   simp only [lGA,lGS,lGZ] at e1
   refine ⟨.bool false,?_,?_⟩
   ·simp [results,Tryz.f64,go_sem,e1]
   ·exact ⟨by unfold checkM;rw [hk];rfl,(((Below.refl _ w).alloc (Nat.le_refl _) _).alloc (by simp) _).alloc (by simp;omega) _⟩
  ·gi_wp2_with fail
   have A2:=Hold.new ((w.alloc (.cells #[.int .i64 e.kd,.string (S e.nm),.int .i64 e.nu,.slice pn e.ns.length cn,.slice pk e.ks.length ck] 27)).alloc (.cells #[.func (.func 65) #[] #[]] 103)) #[.bool false] 4
   simp only [World.size_alloc] at A2
   have e1:=A2.cell 0
   simp only [lGA,lGS,lGZ] at e1
   refine ⟨.bool false,?_,?_⟩
   ·simp [results,Tryz.f64,go_sem,e1]
   ·exact ⟨by unfold checkM;rw [hk];rfl,(((Below.refl _ w).alloc (Nat.le_refl _) _).alloc (by simp) _).alloc (by simp;omega) _⟩
theorem check_tree {P:Nat→Prop} {w:World} {e:Tr} {pn:Option Addr} {cn:Nat} {pk:Option Addr} {ck:Nat} (hP:∀ b,P b→b<w.heap.size) (hE:TrIn P w e [.int .i64 e.kd,.string (S e.nm),.int .i64 e.nu,.slice pn e.ns.length cn,.slice pk e.ks.length ck]) (hD:∀ x ∈ po e 1,x.1≤1000000∧x.2.ks.length≤1000000) :
 Calls Tryz.prog 28 #[.agg (cs5 e pn cn pk ck)] w fun r w'=>r=.returned (.bool (checkM e))∧Below w.heap.size w w':=by
 have hB:Below w.heap.size w (w.alloc (.cells (cs5 e pn cn pk ck) 27)):=(Below.refl _ w).alloc (Nat.le_refl _) _
 have HC:=zz (callsIn_wide.1 (may_in (n:=8) (Nat.le_refl _) (fun b hb=>Nat.lt_of_lt_of_le (hP b hb) hB.size) (TrIn.keep (KP.of_below hB hP) (fun b hb=>hb) e _ hE) hD))
 have HB:=zz hB
 clear hB hE hD
 unfold cs5 at *
 go_enter Tryz.func28,Tryz.ntmps28
 go_wp2_with fail
 refine HC.out.mono ?_
 rintro r w1 ⟨rfl,hb1⟩
 have HB1:=zz hb1
 clear hb1
 go_wp2_with fail
 go_ret
 exact ⟨rfl,HB.out.trans (HB1.out.mono HB.out.size)⟩
end Go.Proofs.YtcnnlecjdkfdjaaGreatDoor
