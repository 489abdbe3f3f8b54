/- Parts of the proof. -/
import Derived.Test.YtcnnlecjdkfdjaaGreatDoorSAtom
set_option linter.unusedVariables false
set_option linter.unusedSimpArgs false
set_option maxRecDepth 100000
set_option maxHeartbeats 8000000
namespace Go.Proofs.YtcnnlecjdkfdjaaGreatDoor
open Go.RowKit
theorem ex_push {c:Nat→Nat} {B:Nat} {l:List Tk} {w:World} {p:Ps} {W2 W:World} {tp:Option Addr} {tc:Nat} {vr ve vs vf vd vp:Value} {L:List (List Value)} {g2 cap2:Nat} (t:Tr) (h:PW c B l w p W2) (hS:PSt (col9 c w) B l p tp tc vr ve vs vf vd vp W2) {tk:Tk} (ht1:tk.tx.length≤281474976710656) (ht2:-9223372036854775808≤tk.nu∧tk.nu≤9223372036854775807) (h1:L.length=p.ex.length) (h2:∀ ds ∈ L,ds.length=5) (h5:∀ (i:Nat) t,p.ex[i]?=some t→∃ ds,L[i]?=some ds∧TrIn (ImB B (col9 c w) W2) W2 t ds)
 (hB:Hold B (psC tp l.length tc p.tk vr (.slice (some ⟨g2,0,none⟩) (p.ex.length+1) cap2) vs vf vd vp) 63 W) (hrow:W.ownsRow 0 27 5 (.slice (some ⟨g2,0,none⟩) (p.ex.length+1) cap2) (p.ex.length+1) (L.flatten ++ [.int .i64 t.kd,.string (S t.nm),.int .i64 t.nu,.slice none 0 0,.slice none 0 0])) (hg:(col9 c w g2=3∧g2<W2.heap.size)∨W2.heap.size≤g2) (hf:KP (fun b=>b<W2.heap.size∧col9 c w b≠1∧col9 c w b≠3) W2 W)
 (hl:(t.nm=[]∨t.nm=tk.tx)∧(t.nu=0∨t.nu=tk.nu)∧t.ns=[]∧t.ks=[]) :
 RQ c B l w (.inr { p with ex:=p.ex ++ [t] }) (.returned (.tuple #[])) W:=by
 obtain ⟨l1,l2,l3,l4⟩:=hl
 have hc:∀ b,b<W2.heap.size→(fun b=>if b<W2.heap.size then col9 c w b else 3) b=col9 c w b:=fun b hb=>by simp [hb]
 have st:Step (col9 c w) (fun b=>if b<W2.heap.size then col9 c w b else 3) (fun k=>k≠1∧k≠3) W2 W:=⟨hf,fun b hb _=>hc b hb⟩
 have hq:RQ (col9 c w) B l W2 (.inr { p with ex:=p.ex ++ [t] }) (.returned (.tuple #[])) W:=by
  refine ⟨rfl,_,⟨tp,tc,vr,_,vs,vf,vd,vp,hB,(hc B hS.hold.lt).trans hS.colB,hS.ktoks st (by decide),hS.len,hS.at',hS.krul st (by decide) (by decide) (fun i _=>⟨by omega,by omega⟩),?_,hS.ksgs st (by decide) (by decide),hS.kfms st (by decide) (by decide),hS.kdts st (by decide) (by decide),hS.kdfs st (by decide) (by decide)⟩,st.imm (by decide),st.kimm (by decide)⟩
  refine RowOf.push (w:=W2) (c:=col9 c w) (R:=fun _ t ds=>TrIn (ImB B (col9 c w) W2) W2 t ds) (L:=L) h1 h2 h5 (ds:=[.int .i64 t.kd,.string (S t.nm),.int .i64 t.nu,.slice none 0 0,.slice none 0 0]) rfl hrow ?_ (fun i t' ds _ h=>TrIn.keep (st.kimmB (by decide)) (st.immB (by decide)) t' ds h) ?_
  ·intro g' hg'
   have:g2=g':=by simpa [Value.ownBlock] using hg'
   subst this
   rcases hg with ⟨h,h'⟩ | h
   ·exact (hc g2 h').trans h
   ·simp [show ¬ g2<W2.heap.size by omega]
  ·rw [TrIn_iff]
   refine ⟨none,0,none,0,by rw [l3,l4];rfl,?_,?_,by rw [l3];exact ⟨Nat.le_refl _,by omega,fun _=>rfl⟩,by rw [l4];exact ⟨Nat.le_refl _,by omega,fun _=>rfl⟩,.inl l3,.inl l4⟩
   ·rcases l1 with e | e <;> rw [e]
    ·simp
    ·exact ht1
   ·rcases l2 with e | e <;> rw [e]
    ·decide
    ·exact ht2
 exact hq.trans (fun b hb=>⟨Nat.lt_of_lt_of_le hb.1 h.size,(col9_old c w b hb.1).trans hb.2⟩) h.imm
theorem fldN (a:Int) (s:ByteArray) (n i c:Int) (w:World):(Instr.field 51 (.agg #[.int .i64 a,.string s,.int .i64 n,.int .i64 i,.int .i64 c]) 2).run Tryz.prog w=.ok (.int .i64 n) w:=by kernel_rfl
theorem atom_rule {c:Nat→Nat} {B:Nat} {l:List Tk} {p:Ps} {w:World} (hsm:p.ex.length≤1000000000) (hP:PM c B l p w) (hn:p.ru.length≤1000000000) :
 Calls Tryz.prog 232 #[.pointer (some ⟨B,0,none⟩)] w (RQ c B l w (atomR l p)):=by
 have hmf:=mkf
 have HP0:=zz (PW.start hP)
 have h0:0<w.heap.size:=Nat.lt_of_le_of_lt (Nat.zero_le _) HP0.out.ltB
 have hz0:w.heap.size≤w.heap.size:=Nat.le_refl _
 obtain ⟨X,HX0⟩:∃ X,Hid (X=atomR l p):=⟨_,rfl⟩
 rw [← HX0.out]
 clear hP
 go_enter Tryz.func232,Tryz.ntmps232
 go_wp2_with fail
 refine (isX HP0.out [1] rfl (by decide)).mono ?_
 rintro r w1 ⟨hr,hp,hf⟩
 have HP1:=zz hp
 have hz1:w.heap.size≤w1.heap.size:=HP1.out.size
 have hy1:=hf.size
 clear hp hf
 rw [mem1] at hr
 cases hb:isD l p.tk 1
 ·rw [hb] at hr
  subst hr
  have HX2:=zz (HX0.out.trans (if_neg (by simp [hb])))
  clear hb
  go_wp2_with fail
  refine (isX HP1.out [2] rfl (by decide)).mono ?_
  rintro r w3 ⟨hr,hp,hf⟩
  have HP3:=zz hp
  have hz3:w.heap.size≤w3.heap.size:=HP3.out.size
  have hy3:=hf.size
  clear hp hf
  rw [mem1] at hr
  cases hb:isD l p.tk 2
  ·rw [hb] at hr
   subst hr
   have HX4:=zz (HX2.out.trans (if_neg (by simp [hb])))
   clear hb
   go_wp2_with fail
   refine (isX HP3.out [3] rfl (by decide)).mono ?_
   rintro r w5 ⟨hr,hp,hf⟩
   have HP5:=zz hp
   have hz5:w.heap.size≤w5.heap.size:=HP5.out.size
   have hy5:=hf.size
   clear hp hf
   rw [mem1] at hr
   cases hb:isD l p.tk 3
   ·rw [hb] at hr
    subst hr
    have HX6:=zz (HX4.out.trans (if_neg (by simp [hb])))
    clear hb
    go_wp2_with fail
    refine (keyX HP5.out sLeft).mono ?_
    rintro r w7 (⟨rfl,hk,hp⟩ | ⟨rfl,hk,hp,hf⟩)
    ·have HR:Hid (RQ c B l w X (.panicked stuckV) w7):=by
      show RQ c B l w X (.panicked stuckV) w7
      rw [HX6.out.trans (key_st hk)]
      exact hp.stuck rfl
     clear hk hp
     unfold stuckV at *
     go_wp2_with fail
     exact ⟨rfl,HR.out⟩
    have HX7:=zz (HX6.out.trans (key_go hk))
    have HP7:=zz hp
    have hz7:w.heap.size≤w7.heap.size:=HP7.out.size
    have hy7:=hf.size
    clear hk hp hf
    go_wp2_with fail
    refine (laterX HP7.out sRight 0 (by omega)).mono ?_
    rintro r w8 ⟨b18,b28,rfl,hc,hp,hf⟩
    have HP8:=zz hp
    have hz8:w.heap.size≤w8.heap.size:=HP8.out.size
    have hy8:=hf.size
    have HL_8:=zz hc
    clear hp hf hc
    go_wp2_with fail
    refine (thenX (m:=2) HP8.out [r0 10,rLater sRight] 0 (0) hn rfl (by decide) (by omega) ?rus).mono ?_
    case rus=>exact ⟨⟨by decide,by decide,rfl⟩,HL_8.out.ruv,trivial⟩
    rintro r w9 ⟨rfl,hq⟩
    have HQ:=zz hq
    clear hq
    go_wp2_with fail
    go_end0
    rw [HX7.out]
    exact ⟨rfl,HQ.out⟩
   ·rw [hb] at hr
    subst hr
    have HX10:=zz (HX4.out.trans (if_pos hb))
    have HX11:=zz (HX10.out.trans (take_go hb))
    obtain ⟨tp,tc,vr,ve,vs,vf,vd,vp,hS0⟩:=HP5.out.pm (col9 c w) (col9_old c w)
    obtain ⟨L,k1,k2,k3,k4,k5⟩:=hS0.exs
    obtain ⟨q,cq,rfl⟩:=slice_of k3
    have ht:=HP5.out.token p.tk
    have hBl:=hS0.hold.lt
    have nBr:some B≠(Value.slice q p.ex.length cq).ownBlock:=fun e=>by have:=k4 B e.symm;rw [hS0.colB] at this;cases this
    have HGC0:∀ g,(Value.slice q p.ex.length cq).ownBlock=some g→col9 c w g=3∧g<w5.heap.size:=fun g hg=>⟨k4 g hg,by
     rcases k3.2 with ⟨e,_⟩ | ⟨g',cap,cur,e,_,hgb,_⟩
     ·rw [e] at hg;cases hg
     ·rw [e] at hg
      have:g'=g:=by simpa [Value.ownBlock] using hg
      subst this
      exact (Array.getElem?_eq_some_iff.1 hgb).1⟩
    have HGC1:=zz HGC0
    have HS0:=zz hS0
    have HK1:=zz k1
    have HK2:=zz k2
    have c4:=hS0.hold.cell 3
    simp only [lGA,lGS,lGZ] at c4
    obtain ⟨i0,hi,hz0,hz1,hz2⟩:=info_parts info27
    have HCON:=zz fun (W:World) (hw:Below w5.heap.size w5 W)=>con_yes ((hS0.below hw fun _ _=>rfl).look) hb
    have HRR:=zz k3
    clear hS0 k1 k2 k3 k4 k5 HGC0
    go_wp2_with fail
    refine wp_region_noPanic ?_
    obtain ⟨n,hnn⟩:∃ n,n=p.ex.length:=⟨_,rfl⟩
    rw [← hnn] at c4 nBr HGC1 HRR hsm
    have HNN:=zz hnn
    clear hnn
    refine region_J 15 (N:=9) (S:=(fun W':World=>W'.cell? ⟨B,3,none⟩=some (.slice q n cq))) (by kernel_rfl) (by kernel_rfl) ?_
    have hS:(fun W':World=>W'.cell? ⟨B,3,none⟩=some (.slice q n cq)) w5.drew:=c4
    refine take_F 0 50 (.pointer (some ⟨B,0,none⟩)) hS ?_
    refine take_F 1 51 (.pointer (some ⟨B,0,none⟩)) hS ?_
    refine take_F 2 52 (.pointer (some ⟨B,3,none⟩)) hS ?_
    refine take_F 3 53 (.slice q n cq) hS ?_
    refine take_F 4 54 (.pointer (some ⟨B,0,none⟩)) hS ?_
    refine take_F 7 57 (.int .i64 n) hS ?_
    simp only [Act.put,lSI,lSZ,lSS]
    apply two_arms (F:=fun b8 W2=>PW c B l w { p with tk:=p.tk+1 } W2∧PSt (col9 c w) B l { p with tk:=p.tk+1 } tp tc vr (.slice q p.ex.length cq) vs vf vd vp W2∧Hold b8 #[.int .i64 0,.string ⟨#[]⟩,.int .i64 0,.slice none 0 0,.slice none 0 0] 27 W2)
    case arms=>
     intro HT
     refine ready_E [5,8] ?_
     intro jj hjj
     rcases List.mem_cons.1 hjj with rfl | hjj
     ·clear hjj
      refine op_E fun K hK=>?_
      go_simp
      refine (HCON.out w5.drew ⟨rfl,rfl,rfl,Nat.le_refl _,fun _ _=>rfl⟩).mono ?_
      rintro r w20 ⟨rfl,hh,hkp⟩
      have hp20:PW c B l w { p with tk:=p.tk+1 } w20:=HP5.out.drew.taken hkp HS0.out.hold hh (by have:=isD_lt (by decide) hb;have:=HS0.out.len;omega)
      have hS20:PSt (col9 c w) B l { p with tk:=p.tk+1 } tp tc vr (.slice q p.ex.length cq) vs vf vd vp w20:=(HS0.out.below (w':=w5.drew) ⟨rfl,rfl,rfl,Nat.le_refl _,fun _ _=>rfl⟩ fun _ _=>rfl).kept hkp (fun _ _=>rfl) hh (by have:=isD_lt (by decide) hb;have:=HS0.out.len;omega)
      rw [← HNN.out] at hh
      have x4:=hh.cell 3
      simp only [lGA,lGS,lGZ] at x4
      refine hK _ _ ⟨fun _=>x4,?_⟩
      clear hK K
      have hS:(fun W':World=>W'.cell? ⟨B,3,none⟩=some (.slice q n cq)) w20:=x4
      refine take_F 6 56 (.agg #[.int .i64 3,.string (S (tkAt l p.tk).tx),.int .i64 0,.slice none 0 0,.slice none 0 0]) hS ?_
      simp only [Act.put,lSI,lSZ,lSS]
      refine ready_1 8 (op_E fun K hK=>?_)
      go_simp
      have HP2:=zz (hp20.alloc (.cells #[.int .i64 0,.string ⟨#[]⟩,.int .i64 0,.slice none 0 0,.slice none 0 0] 27))
      have HS2:=zz (hS20.below ((Below.refl _ w20).alloc (Nat.le_refl _) (.cells #[.int .i64 0,.string ⟨#[]⟩,.int .i64 0,.slice none 0 0,.slice none 0 0] 27)) (c':=col9 c w) fun _ _=>rfl)
      have H8:=zz (Hold.new w20 #[.int .i64 0,.string ⟨#[]⟩,.int .i64 0,.slice none 0 0,.slice none 0 0] 27)
      have hb8:w20.heap.size<(w20.alloc (.cells #[.int .i64 0,.string ⟨#[]⟩,.int .i64 0,.slice none 0 0,.slice none 0 0] 27)).heap.size:=by simp
      obtain ⟨b8,hb8e⟩:∃ b,b=w20.heap.size:=⟨_,rfl⟩
      rw [← hb8e] at H8 ⊢
      have y4:=HS2.out.hold.cell 3
      simp only [lGA,lGS,lGZ] at y4
      rw [← HNN.out] at y4
      refine hK _ _ ⟨fun _=>y4,?_⟩
      clear hK K hb8e hp20 hS20 hh hkp
      generalize (w20.alloc (.cells #[.int .i64 0,.string ⟨#[]⟩,.int .i64 0,.slice none 0 0,.slice none 0 0] 27))=W2 at *
      exact J_ls (ls':=#[true,true,true,true,true,true,true,true,true,false,false,false,false,false,false]) (by kernel_rfl) (HT b8 W2 ⟨HP2.out,HS2.out,H8⟩)
     ·obtain rfl:=List.mem_singleton.1 hjj
      clear hjj
      refine op_E fun K hK=>?_
      go_simp
      have x4:=(HS0.out.hold.alloc (.cells #[.int .i64 0,.string ⟨#[]⟩,.int .i64 0,.slice none 0 0,.slice none 0 0] 27)).cell 3
      simp only [lGA,lGS,lGZ] at x4
      rw [← HNN.out] at x4
      refine hK _ _ ⟨fun _=>x4,?_⟩
      clear hK K
      refine ready_1 5 (op_E fun K hK=>?_)
      go_simp
      have hbel:Below w5.heap.size w5 (w5.alloc (.cells #[.int .i64 0,.string ⟨#[]⟩,.int .i64 0,.slice none 0 0,.slice none 0 0] 27)).drew:=((Below.refl _ w5).alloc (Nat.le_refl _) _).trans ⟨rfl,rfl,rfl,Nat.le_refl _,fun _ _=>rfl⟩
      refine (HCON.out (w5.alloc (.cells #[.int .i64 0,.string ⟨#[]⟩,.int .i64 0,.slice none 0 0,.slice none 0 0] 27)).drew hbel).mono ?_
      rintro r w20 ⟨rfl,hh,hkp⟩
      have hp20:PW c B l w { p with tk:=p.tk+1 } w20:=(HP5.out.below hbel).taken hkp (HS0.out.below (c':=col9 c w) hbel fun _ _=>rfl).hold hh (by have:=isD_lt (by decide) hb;have:=HS0.out.len;omega)
      have hS20:PSt (col9 c w) B l { p with tk:=p.tk+1 } tp tc vr (.slice q p.ex.length cq) vs vf vd vp w20:=(HS0.out.below (c':=col9 c w) hbel fun _ _=>rfl).kept hkp (fun _ _=>rfl) hh (by have:=isD_lt (by decide) hb;have:=HS0.out.len;omega)
      have H8:Hid (Hold w5.heap.size #[.int .i64 0,.string ⟨#[]⟩,.int .i64 0,.slice none 0 0,.slice none 0 0] 27 w20):=(hkp.block _ ⟨by show w5.heap.size<(w5.alloc (.cells #[.int .i64 0,.string ⟨#[]⟩,.int .i64 0,.slice none 0 0,.slice none 0 0] 27)).heap.size;simp,by omega⟩).trans (hold_drew (Hold.new w5 #[.int .i64 0,.string ⟨#[]⟩,.int .i64 0,.slice none 0 0,.slice none 0 0] 27))
      rw [← HNN.out] at hh
      have y4:=hh.cell 3
      simp only [lGA,lGS,lGZ] at y4
      refine hK _ _ ⟨fun _=>y4,?_⟩
      clear hK K
      have hS:(fun W':World=>W'.cell? ⟨B,3,none⟩=some (.slice q n cq)) w20:=y4
      refine take_F 6 56 (.agg #[.int .i64 3,.string (S (tkAt l p.tk).tx),.int .i64 0,.slice none 0 0,.slice none 0 0]) hS ?_
      simp only [Act.put,lSI,lSZ,lSS]
      have HP2:=zz hp20
      have HS2:=zz hS20
      obtain ⟨b8,hb8e⟩:∃ b,b=w5.heap.size:=⟨_,rfl⟩
      rw [← hb8e] at H8 ⊢
      obtain ⟨W2,hW2⟩:∃ W2,W2=w20:=⟨_,rfl⟩
      subst hW2
      clear hb8e hp20 hS20 hh hkp hbel
      exact J_ls (ls':=#[true,true,true,true,true,true,true,true,true,false,false,false,false,false,false]) (by kernel_rfl) (HT b8 W2 ⟨HP2.out,HS2.out,H8⟩)
    case tail=>
     intro b8 W2 hF
     obtain ⟨hp2,hs2,h8⟩:=hF
     have HP2:=zz hp2
     have HS2:=zz hs2
     have H8:=zz h8
     clear hp2 hs2 h8
     obtain ⟨L,k1,k2,k3,k4,k5⟩:=HS2.out.exs
     have HR2:=zz k3
     have HB2:=zz HS2.out.hold
     have HK12:=zz k1
     have HK22:=zz k2
     have HK52:=zz k5
     have HGC:Hid (∀ g,(Value.slice q p.ex.length cq).ownBlock=some g→col9 c w g=3∧g<W2.heap.size):=fun g hg=>⟨k4 g hg,by
      rcases k3.2 with ⟨e,_⟩ | ⟨g',cap,cur,e,_,hgb,_⟩
      ·rw [e] at hg;cases hg
      ·rw [e] at hg
       have:g'=g:=by simpa [Value.ownBlock] using hg
       subst this
       exact (Array.getElem?_eq_some_iff.1 hgb).1⟩
     simp only at HR2 HB2 HK12 HK22 HK52
     rw [← HNN.out] at HR2 HB2 HGC
     clear k1 k2 k3 k4 k5
     refine ready_1 9 (op_E fun K hK=>?_)
     refine wp_append_lies _ _ _ _ (by rfl) 0 27 i0 _ 5 80 Tryz.underlying25 hi hz0 hz1 hz2 rfl (by omega) (.slice q n cq) n L.flatten (by rfl) HR2.out ⟨b8,0,none⟩ 1 1 [.int .i64 0,.string ⟨#[]⟩,.int .i64 0,.slice none 0 0,.slice none 0 0] (by rfl) (by rfl) (World.news_of_block (cs:=#[.int .i64 0,.string ⟨#[]⟩,.int .i64 0,.slice none 0 0,.slice none 0 0]) (t:=27) (fr:=(0,0)) H8.out) (by simp [Value.oneCell']) (by omega) (by unfold maxLen;omega) (by omega) (by omega) W2.heap.size rfl ?_
     intro g2 cap2 W3 hown hgrow hat hlt
     refine hK _ _ ⟨fun h=>absurd h (by omega),?_⟩
     clear hK K
     refine J_switch (S':=fun _=>True) (N':=15) _ _ _ _ (by kernel_rfl) ?_
     have hB3:Hold B (psC tp l.length tc (p.tk+1) vr (.slice q n cq) vs vf vd vp) 63 W3:=(hgrow.block B HB2.out.lt nBr).trans HB2.out
     have HB3:=zz hB3
     have z1:=hB3.frozen 3
     have z2:=hB3.cell 3
     simp only [lGA,lGS,lGZ] at z2
     obtain ⟨f1,v1,q1⟩:=row_set_cell hown (n * 5) (by omega)
     obtain ⟨f2,v2,q2⟩:=row_set_cell hown (n * 5+1) (by omega)
     obtain ⟨f3,v3,q3⟩:=row_set_cell hown (n * 5+2) (by omega)
     obtain ⟨f4,v4,q4⟩:=row_set_cell hown (n * 5+3) (by omega)
     obtain ⟨f5,v5,q5⟩:=row_set_cell hown (n * 5+4) (by omega)
     have HOW:=zz hown
     have HGR:=zz hgrow
     have hn2:B≠g2∧((col9 c w g2=3∧g2<W2.heap.size)∨W2.heap.size≤g2):=by
      rcases hat with h | h
      ·exact ⟨fun e=>nBr (by rw [e];exact h.symm),.inl (HGC.out g2 h)⟩
      ·exact ⟨by have:=HB2.out.lt;omega,.inr (by omega)⟩
     have hnB:=hn2.1
     have hi1:(n:Int)<(n:Int)+1:=by omega
     have hi2:(0:Int)≤(n:Int):=by omega
     have HN2:=zz hn2
     clear hown hgrow hat hB3 hn2
     refine take_F 10 60 (.pointer (some ⟨g2,n * 5,none⟩)) trivial ?_
     refine take_F 12 61 (.pointer (some ⟨B,0,none⟩)) trivial ?_
     refine take_F 13 62 (.pointer (some ⟨B,3,none⟩)) trivial ?_
     simp only [Act.put,lSI,lSZ,lSS]
     refine ready_E [11,14] ?_
     intro jj hjj
     have kp3:∀ b,b<W2.heap.size→b≠B→some b≠(Value.slice q n cq).ownBlock→W3.heap[b]?=W2.heap[b]?:=fun b hb _ hne=>HGR.out.block b hb hne
     have HKO:Hid (W3.os=W2.os∧W3.tape=W2.tape∧W3.output=W2.output∧W2.heap.size≤W3.heap.size):=⟨HGR.out.os,HGR.out.tape,HGR.out.output,HGR.out.size⟩
     have HRQ:Hid (∀ W4,(W4=(((((W3.setCell ⟨g2,n * 5,none⟩ (.int .i64 3)).setCell ⟨g2,n * 5+1,none⟩ (.string (S (tkAt l p.tk).tx))).setCell ⟨g2,n * 5+2,none⟩ (.int .i64 0)).setCell ⟨g2,n * 5+3,none⟩ (.slice none 0 0)).setCell ⟨g2,n * 5+4,none⟩ (.slice none 0 0)).setCell ⟨B,3,none⟩ (.slice (some ⟨g2,0,none⟩) (n+1) cap2)∨W4=((((((W3.setCell ⟨B,3,none⟩ (.slice (some ⟨g2,0,none⟩) (n+1) cap2)).setCell ⟨g2,n * 5,none⟩ (.int .i64 3)).setCell ⟨g2,n * 5+1,none⟩ (.string (S (tkAt l p.tk).tx))).setCell ⟨g2,n * 5+2,none⟩ (.int .i64 0)).setCell ⟨g2,n * 5+3,none⟩ (.slice none 0 0)).setCell ⟨g2,n * 5+4,none⟩ (.slice none 0 0)))→RQ c B l w X (.returned (.tuple #[])) W4):=by
      intro W4 hW4
      rw [HX11.out]
      have hlf:L.flatten.length=n * 5:=by rw [flatten_len HK22.out,HK12.out,← HNN.out]
      have hr0:=row_set (row_set (row_set (row_set (row_set HOW.out (n * 5) (by omega) (.int .i64 3)) (n * 5+1) (by omega) (.string (S (tkAt l p.tk).tx))) (n * 5+2) (by omega) (.int .i64 0)) (n * 5+3) (by omega) (.slice none 0 0)) (n * 5+4) (by omega) (.slice none 0 0)
      rw [set_last5 _ _ _ _ _ _ _ _ _ _ _ hlf] at hr0
      have hbase:Hold B (psC tp l.length tc (p.tk+1) vr (.slice (some ⟨g2,0,none⟩) (n+1) cap2) vs vf vd vp) 63 W4∧W4.ownsRow 0 27 5 (.slice (some ⟨g2,0,none⟩) (n+1) cap2) (n+1) (L.flatten ++ [.int .i64 3,.string (S (tkAt l p.tk).tx),.int .i64 0,.slice none 0 0,.slice none 0 0])∧KP (fun b=>b<W2.heap.size∧b≠B∧b≠g2∧some b≠(Value.slice q n cq).ownBlock) W2 W4:=by
       have k0:KP (fun b=>b<W2.heap.size∧b≠B∧b≠g2∧some b≠(Value.slice q n cq).ownBlock) W2 W3:=⟨HKO.out.1,HKO.out.2.1,HKO.out.2.2.1,HKO.out.2.2.2,fun b hb=>kp3 b hb.1 hb.2.1 hb.2.2.2⟩
       rcases hW4 with rfl | rfl
       ·refine ⟨(((((HB3.out.other hnB _ _).other hnB _ _).other hnB _ _).other hnB _ _).other hnB _ _).set 3 _,?_,((((((k0.trans (KP.setCell _ _ _ _ (fun h=>h.2.2.1 rfl))).trans (KP.setCell _ _ _ _ (fun h=>h.2.2.1 rfl))).trans (KP.setCell _ _ _ _ (fun h=>h.2.2.1 rfl))).trans (KP.setCell _ _ _ _ (fun h=>h.2.2.1 rfl))).trans (KP.setCell _ _ _ _ (fun h=>h.2.2.1 rfl)))).trans (KP.setCell _ _ _ _ (fun h=>h.2.1 rfl))⟩
        exact row_other hr0 (((((HB3.out.other hnB _ _).other hnB _ _).other hnB _ _).other hnB _ _).other hnB _ _) (by decide) 3 _
       ·refine ⟨(((((HB3.out.set 3 _).other hnB _ _).other hnB _ _).other hnB _ _).other hnB _ _).other hnB _ _,?_,(((((k0.trans (KP.setCell _ _ _ _ (fun h=>h.2.1 rfl))).trans (KP.setCell _ _ _ _ (fun h=>h.2.2.1 rfl))).trans (KP.setCell _ _ _ _ (fun h=>h.2.2.1 rfl))).trans (KP.setCell _ _ _ _ (fun h=>h.2.2.1 rfl))).trans (KP.setCell _ _ _ _ (fun h=>h.2.2.1 rfl))).trans (KP.setCell _ _ _ _ (fun h=>h.2.2.1 rfl))⟩
        have hr1:=row_set (row_set (row_set (row_set (row_set (row_other HOW.out HB3.out (by decide) 3 (.slice (some ⟨g2,0,none⟩) (n+1) cap2)) (n * 5) (by omega) (.int .i64 3)) (n * 5+1) (by omega) (.string (S (tkAt l p.tk).tx))) (n * 5+2) (by omega) (.int .i64 0)) (n * 5+3) (by omega) (.slice none 0 0)) (n * 5+4) (by omega) (.slice none 0 0)
        rw [set_last5 _ _ _ _ _ _ _ _ _ _ _ hlf] at hr1
        exact hr1
      obtain ⟨b1,b2,b3⟩:=hbase
      rw [HNN.out] at b1 b2
      refine ex_push ⟨3,(tkAt l p.tk).tx,0,[],[]⟩ HP2.out HS2.out ht.1 ht.2 HK12.out HK22.out HK52.out b1 b2 HN2.out.2 (b3.mono fun b hb=>⟨hb.1,fun e=>hb.2.1 (by rw [e];exact HS2.out.colB),?_,fun e=>hb.2.2 (HGC.out b e.symm).1⟩) ⟨.inr rfl,.inl rfl,rfl,rfl⟩
      intro e
      rcases HN2.out.2 with h | h
      ·exact hb.2.2 (by rw [e];exact h.1)
      ·omega
     rcases List.mem_cons.1 hjj with rfl | hjj
     ·clear hjj
      refine op_E fun K hK=>?_
      go_simp
      refine hK _ _ ⟨fun _=>trivial,?_⟩
      clear hK K
      refine ready_1 14 (op_E fun K hK=>?_)
      go_simp
      refine hK _ _ ⟨fun _=>trivial,?_⟩
      clear hK K
      refine done_J (by kernel_rfl) ?_ _
      refine NoPanic.normal ?_
      go_wp2_with fail
      go_end0
      exact HRQ.out _ (.inl rfl)
     ·obtain rfl:=List.mem_singleton.1 hjj
      clear hjj
      refine op_E fun K hK=>?_
      go_simp
      refine hK _ _ ⟨fun _=>trivial,?_⟩
      clear hK K
      refine ready_1 11 (op_E fun K hK=>?_)
      go_simp
      refine hK _ _ ⟨fun _=>trivial,?_⟩
      clear hK K
      refine done_J (by kernel_rfl) ?_ _
      refine NoPanic.normal ?_
      go_wp2_with fail
      go_end0
      exact HRQ.out _ (.inr rfl)
  ·rw [hb] at hr
   subst hr
   have HX12:=zz (HX2.out.trans (if_pos hb))
   have HX13:=zz (HX12.out.trans (take_go hb))
   obtain ⟨tp,tc,vr,ve,vs,vf,vd,vp,hS0⟩:=HP3.out.pm (col9 c w) (col9_old c w)
   obtain ⟨L,k1,k2,k3,k4,k5⟩:=hS0.exs
   obtain ⟨q,cq,rfl⟩:=slice_of k3
   have ht:=HP3.out.token p.tk
   have hBl:=hS0.hold.lt
   have nBr:some B≠(Value.slice q p.ex.length cq).ownBlock:=fun e=>by have:=k4 B e.symm;rw [hS0.colB] at this;cases this
   have HGC0:∀ g,(Value.slice q p.ex.length cq).ownBlock=some g→col9 c w g=3∧g<w3.heap.size:=fun g hg=>⟨k4 g hg,by
    rcases k3.2 with ⟨e,_⟩ | ⟨g',cap,cur,e,_,hgb,_⟩
    ·rw [e] at hg;cases hg
    ·rw [e] at hg
     have:g'=g:=by simpa [Value.ownBlock] using hg
     subst this
     exact (Array.getElem?_eq_some_iff.1 hgb).1⟩
   have HGC1:=zz HGC0
   have HS0:=zz hS0
   have HK1:=zz k1
   have HK2:=zz k2
   have c4:=hS0.hold.cell 3
   simp only [lGA,lGS,lGZ] at c4
   obtain ⟨i0,hi,hz0,hz1,hz2⟩:=info_parts info27
   have HCON:=zz fun (W:World) (hw:Below w3.heap.size w3 W)=>name_yes ((hS0.below hw fun _ _=>rfl).look) hb
   have HRR:=zz k3
   clear hS0 k1 k2 k3 k4 k5 HGC0
   go_wp2_with fail
   refine wp_region_noPanic ?_
   obtain ⟨n,hnn⟩:∃ n,n=p.ex.length:=⟨_,rfl⟩
   rw [← hnn] at c4 nBr HGC1 HRR hsm
   have HNN:=zz hnn
   clear hnn
   refine region_J 15 (N:=9) (S:=(fun W':World=>W'.cell? ⟨B,3,none⟩=some (.slice q n cq))) (by kernel_rfl) (by kernel_rfl) ?_
   have hS:(fun W':World=>W'.cell? ⟨B,3,none⟩=some (.slice q n cq)) w3.drew:=c4
   refine take_F 0 33 (.pointer (some ⟨B,0,none⟩)) hS ?_
   refine take_F 1 34 (.pointer (some ⟨B,0,none⟩)) hS ?_
   refine take_F 2 35 (.pointer (some ⟨B,3,none⟩)) hS ?_
   refine take_F 3 36 (.slice q n cq) hS ?_
   refine take_F 4 37 (.pointer (some ⟨B,0,none⟩)) hS ?_
   refine take_F 7 40 (.int .i64 n) hS ?_
   simp only [Act.put,lSI,lSZ,lSS]
   apply two_arms (F:=fun b8 W2=>PW c B l w { p with tk:=p.tk+1 } W2∧PSt (col9 c w) B l { p with tk:=p.tk+1 } tp tc vr (.slice q p.ex.length cq) vs vf vd vp W2∧Hold b8 #[.int .i64 0,.string ⟨#[]⟩,.int .i64 0,.slice none 0 0,.slice none 0 0] 27 W2)
   case arms=>
    intro HT
    refine ready_E [5,8] ?_
    intro jj hjj
    rcases List.mem_cons.1 hjj with rfl | hjj
    ·clear hjj
     refine op_E fun K hK=>?_
     go_simp
     refine (HCON.out w3.drew ⟨rfl,rfl,rfl,Nat.le_refl _,fun _ _=>rfl⟩).mono ?_
     rintro r w20 ⟨rfl,hh,hkp⟩
     have hp20:PW c B l w { p with tk:=p.tk+1 } w20:=HP3.out.drew.taken hkp HS0.out.hold hh (by have:=isD_lt (by decide) hb;have:=HS0.out.len;omega)
     have hS20:PSt (col9 c w) B l { p with tk:=p.tk+1 } tp tc vr (.slice q p.ex.length cq) vs vf vd vp w20:=(HS0.out.below (w':=w3.drew) ⟨rfl,rfl,rfl,Nat.le_refl _,fun _ _=>rfl⟩ fun _ _=>rfl).kept hkp (fun _ _=>rfl) hh (by have:=isD_lt (by decide) hb;have:=HS0.out.len;omega)
     rw [← HNN.out] at hh
     have x4:=hh.cell 3
     simp only [lGA,lGS,lGZ] at x4
     refine hK _ _ ⟨fun _=>x4,?_⟩
     clear hK K
     have hS:(fun W':World=>W'.cell? ⟨B,3,none⟩=some (.slice q n cq)) w20:=x4
     refine take_F 6 39 (.agg #[.int .i64 2,.string (S (tkAt l p.tk).tx),.int .i64 0,.slice none 0 0,.slice none 0 0]) hS ?_
     simp only [Act.put,lSI,lSZ,lSS]
     refine ready_1 8 (op_E fun K hK=>?_)
     go_simp
     have HP2:=zz (hp20.alloc (.cells #[.int .i64 0,.string ⟨#[]⟩,.int .i64 0,.slice none 0 0,.slice none 0 0] 27))
     have HS2:=zz (hS20.below ((Below.refl _ w20).alloc (Nat.le_refl _) (.cells #[.int .i64 0,.string ⟨#[]⟩,.int .i64 0,.slice none 0 0,.slice none 0 0] 27)) (c':=col9 c w) fun _ _=>rfl)
     have H8:=zz (Hold.new w20 #[.int .i64 0,.string ⟨#[]⟩,.int .i64 0,.slice none 0 0,.slice none 0 0] 27)
     have hb8:w20.heap.size<(w20.alloc (.cells #[.int .i64 0,.string ⟨#[]⟩,.int .i64 0,.slice none 0 0,.slice none 0 0] 27)).heap.size:=by simp
     obtain ⟨b8,hb8e⟩:∃ b,b=w20.heap.size:=⟨_,rfl⟩
     rw [← hb8e] at H8 ⊢
     have y4:=HS2.out.hold.cell 3
     simp only [lGA,lGS,lGZ] at y4
     rw [← HNN.out] at y4
     refine hK _ _ ⟨fun _=>y4,?_⟩
     clear hK K hb8e hp20 hS20 hh hkp
     generalize (w20.alloc (.cells #[.int .i64 0,.string ⟨#[]⟩,.int .i64 0,.slice none 0 0,.slice none 0 0] 27))=W2 at *
     exact J_ls (ls':=#[true,true,true,true,true,true,true,true,true,false,false,false,false,false,false]) (by kernel_rfl) (HT b8 W2 ⟨HP2.out,HS2.out,H8⟩)
    ·obtain rfl:=List.mem_singleton.1 hjj
     clear hjj
     refine op_E fun K hK=>?_
     go_simp
     have x4:=(HS0.out.hold.alloc (.cells #[.int .i64 0,.string ⟨#[]⟩,.int .i64 0,.slice none 0 0,.slice none 0 0] 27)).cell 3
     simp only [lGA,lGS,lGZ] at x4
     rw [← HNN.out] at x4
     refine hK _ _ ⟨fun _=>x4,?_⟩
     clear hK K
     refine ready_1 5 (op_E fun K hK=>?_)
     go_simp
     have hbel:Below w3.heap.size w3 (w3.alloc (.cells #[.int .i64 0,.string ⟨#[]⟩,.int .i64 0,.slice none 0 0,.slice none 0 0] 27)).drew:=((Below.refl _ w3).alloc (Nat.le_refl _) _).trans ⟨rfl,rfl,rfl,Nat.le_refl _,fun _ _=>rfl⟩
     refine (HCON.out (w3.alloc (.cells #[.int .i64 0,.string ⟨#[]⟩,.int .i64 0,.slice none 0 0,.slice none 0 0] 27)).drew hbel).mono ?_
     rintro r w20 ⟨rfl,hh,hkp⟩
     have hp20:PW c B l w { p with tk:=p.tk+1 } w20:=(HP3.out.below hbel).taken hkp (HS0.out.below (c':=col9 c w) hbel fun _ _=>rfl).hold hh (by have:=isD_lt (by decide) hb;have:=HS0.out.len;omega)
     have hS20:PSt (col9 c w) B l { p with tk:=p.tk+1 } tp tc vr (.slice q p.ex.length cq) vs vf vd vp w20:=(HS0.out.below (c':=col9 c w) hbel fun _ _=>rfl).kept hkp (fun _ _=>rfl) hh (by have:=isD_lt (by decide) hb;have:=HS0.out.len;omega)
     have H8:Hid (Hold w3.heap.size #[.int .i64 0,.string ⟨#[]⟩,.int .i64 0,.slice none 0 0,.slice none 0 0] 27 w20):=(hkp.block _ ⟨by show w3.heap.size<(w3.alloc (.cells #[.int .i64 0,.string ⟨#[]⟩,.int .i64 0,.slice none 0 0,.slice none 0 0] 27)).heap.size;simp,by omega⟩).trans (hold_drew (Hold.new w3 #[.int .i64 0,.string ⟨#[]⟩,.int .i64 0,.slice none 0 0,.slice none 0 0] 27))
     rw [← HNN.out] at hh
     have y4:=hh.cell 3
     simp only [lGA,lGS,lGZ] at y4
     refine hK _ _ ⟨fun _=>y4,?_⟩
     clear hK K
     have hS:(fun W':World=>W'.cell? ⟨B,3,none⟩=some (.slice q n cq)) w20:=y4
     refine take_F 6 39 (.agg #[.int .i64 2,.string (S (tkAt l p.tk).tx),.int .i64 0,.slice none 0 0,.slice none 0 0]) hS ?_
     simp only [Act.put,lSI,lSZ,lSS]
     have HP2:=zz hp20
     have HS2:=zz hS20
     obtain ⟨b8,hb8e⟩:∃ b,b=w3.heap.size:=⟨_,rfl⟩
     rw [← hb8e] at H8 ⊢
     obtain ⟨W2,hW2⟩:∃ W2,W2=w20:=⟨_,rfl⟩
     subst hW2
     clear hb8e hp20 hS20 hh hkp hbel
     exact J_ls (ls':=#[true,true,true,true,true,true,true,true,true,false,false,false,false,false,false]) (by kernel_rfl) (HT b8 W2 ⟨HP2.out,HS2.out,H8⟩)
   case tail=>
    intro b8 W2 hF
    obtain ⟨hp2,hs2,h8⟩:=hF
    have HP2:=zz hp2
    have HS2:=zz hs2
    have H8:=zz h8
    clear hp2 hs2 h8
    obtain ⟨L,k1,k2,k3,k4,k5⟩:=HS2.out.exs
    have HR2:=zz k3
    have HB2:=zz HS2.out.hold
    have HK12:=zz k1
    have HK22:=zz k2
    have HK52:=zz k5
    have HGC:Hid (∀ g,(Value.slice q p.ex.length cq).ownBlock=some g→col9 c w g=3∧g<W2.heap.size):=fun g hg=>⟨k4 g hg,by
     rcases k3.2 with ⟨e,_⟩ | ⟨g',cap,cur,e,_,hgb,_⟩
     ·rw [e] at hg;cases hg
     ·rw [e] at hg
      have:g'=g:=by simpa [Value.ownBlock] using hg
      subst this
      exact (Array.getElem?_eq_some_iff.1 hgb).1⟩
    simp only at HR2 HB2 HK12 HK22 HK52
    rw [← HNN.out] at HR2 HB2 HGC
    clear k1 k2 k3 k4 k5
    refine ready_1 9 (op_E fun K hK=>?_)
    refine wp_append_lies _ _ _ _ (by rfl) 0 27 i0 _ 5 80 Tryz.underlying25 hi hz0 hz1 hz2 rfl (by omega) (.slice q n cq) n L.flatten (by rfl) HR2.out ⟨b8,0,none⟩ 1 1 [.int .i64 0,.string ⟨#[]⟩,.int .i64 0,.slice none 0 0,.slice none 0 0] (by rfl) (by rfl) (World.news_of_block (cs:=#[.int .i64 0,.string ⟨#[]⟩,.int .i64 0,.slice none 0 0,.slice none 0 0]) (t:=27) (fr:=(0,0)) H8.out) (by simp [Value.oneCell']) (by omega) (by unfold maxLen;omega) (by omega) (by omega) W2.heap.size rfl ?_
    intro g2 cap2 W3 hown hgrow hat hlt
    refine hK _ _ ⟨fun h=>absurd h (by omega),?_⟩
    clear hK K
    refine J_switch (S':=fun _=>True) (N':=15) _ _ _ _ (by kernel_rfl) ?_
    have hB3:Hold B (psC tp l.length tc (p.tk+1) vr (.slice q n cq) vs vf vd vp) 63 W3:=(hgrow.block B HB2.out.lt nBr).trans HB2.out
    have HB3:=zz hB3
    have z1:=hB3.frozen 3
    have z2:=hB3.cell 3
    simp only [lGA,lGS,lGZ] at z2
    obtain ⟨f1,v1,q1⟩:=row_set_cell hown (n * 5) (by omega)
    obtain ⟨f2,v2,q2⟩:=row_set_cell hown (n * 5+1) (by omega)
    obtain ⟨f3,v3,q3⟩:=row_set_cell hown (n * 5+2) (by omega)
    obtain ⟨f4,v4,q4⟩:=row_set_cell hown (n * 5+3) (by omega)
    obtain ⟨f5,v5,q5⟩:=row_set_cell hown (n * 5+4) (by omega)
    have HOW:=zz hown
    have HGR:=zz hgrow
    have hn2:B≠g2∧((col9 c w g2=3∧g2<W2.heap.size)∨W2.heap.size≤g2):=by
     rcases hat with h | h
     ·exact ⟨fun e=>nBr (by rw [e];exact h.symm),.inl (HGC.out g2 h)⟩
     ·exact ⟨by have:=HB2.out.lt;omega,.inr (by omega)⟩
    have hnB:=hn2.1
    have hi1:(n:Int)<(n:Int)+1:=by omega
    have hi2:(0:Int)≤(n:Int):=by omega
    have HN2:=zz hn2
    clear hown hgrow hat hB3 hn2
    refine take_F 10 43 (.pointer (some ⟨g2,n * 5,none⟩)) trivial ?_
    refine take_F 12 44 (.pointer (some ⟨B,0,none⟩)) trivial ?_
    refine take_F 13 45 (.pointer (some ⟨B,3,none⟩)) trivial ?_
    simp only [Act.put,lSI,lSZ,lSS]
    refine ready_E [11,14] ?_
    intro jj hjj
    have kp3:∀ b,b<W2.heap.size→b≠B→some b≠(Value.slice q n cq).ownBlock→W3.heap[b]?=W2.heap[b]?:=fun b hb _ hne=>HGR.out.block b hb hne
    have HKO:Hid (W3.os=W2.os∧W3.tape=W2.tape∧W3.output=W2.output∧W2.heap.size≤W3.heap.size):=⟨HGR.out.os,HGR.out.tape,HGR.out.output,HGR.out.size⟩
    have HRQ:Hid (∀ W4,(W4=(((((W3.setCell ⟨g2,n * 5,none⟩ (.int .i64 2)).setCell ⟨g2,n * 5+1,none⟩ (.string (S (tkAt l p.tk).tx))).setCell ⟨g2,n * 5+2,none⟩ (.int .i64 0)).setCell ⟨g2,n * 5+3,none⟩ (.slice none 0 0)).setCell ⟨g2,n * 5+4,none⟩ (.slice none 0 0)).setCell ⟨B,3,none⟩ (.slice (some ⟨g2,0,none⟩) (n+1) cap2)∨W4=((((((W3.setCell ⟨B,3,none⟩ (.slice (some ⟨g2,0,none⟩) (n+1) cap2)).setCell ⟨g2,n * 5,none⟩ (.int .i64 2)).setCell ⟨g2,n * 5+1,none⟩ (.string (S (tkAt l p.tk).tx))).setCell ⟨g2,n * 5+2,none⟩ (.int .i64 0)).setCell ⟨g2,n * 5+3,none⟩ (.slice none 0 0)).setCell ⟨g2,n * 5+4,none⟩ (.slice none 0 0)))→RQ c B l w X (.returned (.tuple #[])) W4):=by
     intro W4 hW4
     rw [HX13.out]
     have hlf:L.flatten.length=n * 5:=by rw [flatten_len HK22.out,HK12.out,← HNN.out]
     have hr0:=row_set (row_set (row_set (row_set (row_set HOW.out (n * 5) (by omega) (.int .i64 2)) (n * 5+1) (by omega) (.string (S (tkAt l p.tk).tx))) (n * 5+2) (by omega) (.int .i64 0)) (n * 5+3) (by omega) (.slice none 0 0)) (n * 5+4) (by omega) (.slice none 0 0)
     rw [set_last5 _ _ _ _ _ _ _ _ _ _ _ hlf] at hr0
     have hbase:Hold B (psC tp l.length tc (p.tk+1) vr (.slice (some ⟨g2,0,none⟩) (n+1) cap2) vs vf vd vp) 63 W4∧W4.ownsRow 0 27 5 (.slice (some ⟨g2,0,none⟩) (n+1) cap2) (n+1) (L.flatten ++ [.int .i64 2,.string (S (tkAt l p.tk).tx),.int .i64 0,.slice none 0 0,.slice none 0 0])∧KP (fun b=>b<W2.heap.size∧b≠B∧b≠g2∧some b≠(Value.slice q n cq).ownBlock) W2 W4:=by
      have k0:KP (fun b=>b<W2.heap.size∧b≠B∧b≠g2∧some b≠(Value.slice q n cq).ownBlock) W2 W3:=⟨HKO.out.1,HKO.out.2.1,HKO.out.2.2.1,HKO.out.2.2.2,fun b hb=>kp3 b hb.1 hb.2.1 hb.2.2.2⟩
      rcases hW4 with rfl | rfl
      ·refine ⟨(((((HB3.out.other hnB _ _).other hnB _ _).other hnB _ _).other hnB _ _).other hnB _ _).set 3 _,?_,((((((k0.trans (KP.setCell _ _ _ _ (fun h=>h.2.2.1 rfl))).trans (KP.setCell _ _ _ _ (fun h=>h.2.2.1 rfl))).trans (KP.setCell _ _ _ _ (fun h=>h.2.2.1 rfl))).trans (KP.setCell _ _ _ _ (fun h=>h.2.2.1 rfl))).trans (KP.setCell _ _ _ _ (fun h=>h.2.2.1 rfl)))).trans (KP.setCell _ _ _ _ (fun h=>h.2.1 rfl))⟩
       exact row_other hr0 (((((HB3.out.other hnB _ _).other hnB _ _).other hnB _ _).other hnB _ _).other hnB _ _) (by decide) 3 _
      ·refine ⟨(((((HB3.out.set 3 _).other hnB _ _).other hnB _ _).other hnB _ _).other hnB _ _).other hnB _ _,?_,(((((k0.trans (KP.setCell _ _ _ _ (fun h=>h.2.1 rfl))).trans (KP.setCell _ _ _ _ (fun h=>h.2.2.1 rfl))).trans (KP.setCell _ _ _ _ (fun h=>h.2.2.1 rfl))).trans (KP.setCell _ _ _ _ (fun h=>h.2.2.1 rfl))).trans (KP.setCell _ _ _ _ (fun h=>h.2.2.1 rfl))).trans (KP.setCell _ _ _ _ (fun h=>h.2.2.1 rfl))⟩
       have hr1:=row_set (row_set (row_set (row_set (row_set (row_other HOW.out HB3.out (by decide) 3 (.slice (some ⟨g2,0,none⟩) (n+1) cap2)) (n * 5) (by omega) (.int .i64 2)) (n * 5+1) (by omega) (.string (S (tkAt l p.tk).tx))) (n * 5+2) (by omega) (.int .i64 0)) (n * 5+3) (by omega) (.slice none 0 0)) (n * 5+4) (by omega) (.slice none 0 0)
       rw [set_last5 _ _ _ _ _ _ _ _ _ _ _ hlf] at hr1
       exact hr1
     obtain ⟨b1,b2,b3⟩:=hbase
     rw [HNN.out] at b1 b2
     refine ex_push ⟨2,(tkAt l p.tk).tx,0,[],[]⟩ HP2.out HS2.out ht.1 ht.2 HK12.out HK22.out HK52.out b1 b2 HN2.out.2 (b3.mono fun b hb=>⟨hb.1,fun e=>hb.2.1 (by rw [e];exact HS2.out.colB),?_,fun e=>hb.2.2 (HGC.out b e.symm).1⟩) ⟨.inr rfl,.inl rfl,rfl,rfl⟩
     intro e
     rcases HN2.out.2 with h | h
     ·exact hb.2.2 (by rw [e];exact h.1)
     ·omega
    rcases List.mem_cons.1 hjj with rfl | hjj
    ·clear hjj
     refine op_E fun K hK=>?_
     go_simp
     refine hK _ _ ⟨fun _=>trivial,?_⟩
     clear hK K
     refine ready_1 14 (op_E fun K hK=>?_)
     go_simp
     refine hK _ _ ⟨fun _=>trivial,?_⟩
     clear hK K
     refine done_J (by kernel_rfl) ?_ _
     refine NoPanic.normal ?_
     go_wp2_with fail
     go_end0
     exact HRQ.out _ (.inl rfl)
    ·obtain rfl:=List.mem_singleton.1 hjj
     clear hjj
     refine op_E fun K hK=>?_
     go_simp
     refine hK _ _ ⟨fun _=>trivial,?_⟩
     clear hK K
     refine ready_1 11 (op_E fun K hK=>?_)
     go_simp
     refine hK _ _ ⟨fun _=>trivial,?_⟩
     clear hK K
     refine done_J (by kernel_rfl) ?_ _
     refine NoPanic.normal ?_
     go_wp2_with fail
     go_end0
     exact HRQ.out _ (.inr rfl)
 ·rw [hb] at hr
  subst hr
  have HX14:=zz (HX0.out.trans (if_pos hb))
  have HX15:=zz (HX14.out.trans (take_go hb))
  obtain ⟨tp,tc,vr,ve,vs,vf,vd,vp,hS0⟩:=HP1.out.pm (col9 c w) (col9_old c w)
  obtain ⟨L,k1,k2,k3,k4,k5⟩:=hS0.exs
  obtain ⟨q,cq,rfl⟩:=slice_of k3
  have ht:=HP1.out.token p.tk
  have hBl:=hS0.hold.lt
  have nBr:some B≠(Value.slice q p.ex.length cq).ownBlock:=fun e=>by have:=k4 B e.symm;rw [hS0.colB] at this;cases this
  have HGC0:∀ g,(Value.slice q p.ex.length cq).ownBlock=some g→col9 c w g=3∧g<w1.heap.size:=fun g hg=>⟨k4 g hg,by
   rcases k3.2 with ⟨e,_⟩ | ⟨g',cap,cur,e,_,hgb,_⟩
   ·rw [e] at hg;cases hg
   ·rw [e] at hg
    have:g'=g:=by simpa [Value.ownBlock] using hg
    subst this
    exact (Array.getElem?_eq_some_iff.1 hgb).1⟩
  have HGC1:=zz HGC0
  have HS0:=zz hS0
  have HK1:=zz k1
  have HK2:=zz k2
  have c4:=hS0.hold.cell 3
  simp only [lGA,lGS,lGZ] at c4
  obtain ⟨i0,hi,hz0,hz1,hz2⟩:=info_parts info27
  have HCON:=zz fun (W:World) (hw:Below w1.heap.size w1 W)=>take_yes (k:=1) ((hS0.below hw fun _ _=>rfl).look) hb
  have HRR:=zz k3
  unfold tkC at HCON
  have hfn:=fldN
  clear hS0 k1 k2 k3 k4 k5 HGC0
  go_wp2_with fail
  refine wp_region_noPanic ?_
  obtain ⟨n,hnn⟩:∃ n,n=p.ex.length:=⟨_,rfl⟩
  rw [← hnn] at c4 nBr HGC1 HRR hsm
  have HNN:=zz hnn
  clear hnn
  refine region_J 16 (N:=10) (S:=(fun W':World=>W'.cell? ⟨B,3,none⟩=some (.slice q n cq))) (by kernel_rfl) (by kernel_rfl) ?_
  have hS:(fun W':World=>W'.cell? ⟨B,3,none⟩=some (.slice q n cq)) w1.drew:=c4
  refine take_F 0 15 (.pointer (some ⟨B,0,none⟩)) hS ?_
  refine take_F 1 16 (.pointer (some ⟨B,0,none⟩)) hS ?_
  refine take_F 2 17 (.pointer (some ⟨B,3,none⟩)) hS ?_
  refine take_F 3 18 (.slice q n cq) hS ?_
  refine take_F 4 19 (.pointer (some ⟨B,0,none⟩)) hS ?_
  refine take_F 8 23 (.int .i64 n) hS ?_
  simp only [Act.put,lSI,lSZ,lSS]
  apply two_arms (F:=fun b8 W2=>PW c B l w { p with tk:=p.tk+1 } W2∧PSt (col9 c w) B l { p with tk:=p.tk+1 } tp tc vr (.slice q p.ex.length cq) vs vf vd vp W2∧Hold b8 #[.int .i64 0,.string ⟨#[]⟩,.int .i64 0,.slice none 0 0,.slice none 0 0] 27 W2)
  case arms=>
   intro HT
   refine ready_E [5,9] ?_
   intro jj hjj
   rcases List.mem_cons.1 hjj with rfl | hjj
   ·clear hjj
    refine op_E fun K hK=>?_
    go_simp
    refine (HCON.out w1.drew ⟨rfl,rfl,rfl,Nat.le_refl _,fun _ _=>rfl⟩).mono ?_
    rintro r w20 ⟨rfl,hh,hkp⟩
    have hp20:PW c B l w { p with tk:=p.tk+1 } w20:=HP1.out.drew.taken hkp HS0.out.hold hh (by have:=isD_lt (by decide) hb;have:=HS0.out.len;omega)
    have hS20:PSt (col9 c w) B l { p with tk:=p.tk+1 } tp tc vr (.slice q p.ex.length cq) vs vf vd vp w20:=(HS0.out.below (w':=w1.drew) ⟨rfl,rfl,rfl,Nat.le_refl _,fun _ _=>rfl⟩ fun _ _=>rfl).kept hkp (fun _ _=>rfl) hh (by have:=isD_lt (by decide) hb;have:=HS0.out.len;omega)
    rw [← HNN.out] at hh
    have x4:=hh.cell 3
    simp only [lGA,lGS,lGZ] at x4
    refine hK _ _ ⟨fun _=>x4,?_⟩
    clear hK K
    have hS:(fun W':World=>W'.cell? ⟨B,3,none⟩=some (.slice q n cq)) w20:=x4
    refine take_F 6 21 (.int .i64 (tkAt l p.tk).nu) hS ?_
    refine take_F 7 22 (.agg #[.int .i64 1,.string ⟨#[]⟩,.int .i64 (tkAt l p.tk).nu,.slice none 0 0,.slice none 0 0]) hS ?_
    simp only [Act.put,lSI,lSZ,lSS]
    refine ready_1 9 (op_E fun K hK=>?_)
    go_simp
    have HP2:=zz (hp20.alloc (.cells #[.int .i64 0,.string ⟨#[]⟩,.int .i64 0,.slice none 0 0,.slice none 0 0] 27))
    have HS2:=zz (hS20.below ((Below.refl _ w20).alloc (Nat.le_refl _) (.cells #[.int .i64 0,.string ⟨#[]⟩,.int .i64 0,.slice none 0 0,.slice none 0 0] 27)) (c':=col9 c w) fun _ _=>rfl)
    have H8:=zz (Hold.new w20 #[.int .i64 0,.string ⟨#[]⟩,.int .i64 0,.slice none 0 0,.slice none 0 0] 27)
    have hb8:w20.heap.size<(w20.alloc (.cells #[.int .i64 0,.string ⟨#[]⟩,.int .i64 0,.slice none 0 0,.slice none 0 0] 27)).heap.size:=by simp
    obtain ⟨b8,hb8e⟩:∃ b,b=w20.heap.size:=⟨_,rfl⟩
    rw [← hb8e] at H8 ⊢
    have y4:=HS2.out.hold.cell 3
    simp only [lGA,lGS,lGZ] at y4
    rw [← HNN.out] at y4
    refine hK _ _ ⟨fun _=>y4,?_⟩
    clear hK K hb8e hp20 hS20 hh hkp
    generalize (w20.alloc (.cells #[.int .i64 0,.string ⟨#[]⟩,.int .i64 0,.slice none 0 0,.slice none 0 0] 27))=W2 at *
    exact J_ls (ls':=#[true,true,true,true,true,true,true,true,true,true,false,false,false,false,false,false]) (by kernel_rfl) (HT b8 W2 ⟨HP2.out,HS2.out,H8⟩)
   ·obtain rfl:=List.mem_singleton.1 hjj
    clear hjj
    refine op_E fun K hK=>?_
    go_simp
    have x4:=(HS0.out.hold.alloc (.cells #[.int .i64 0,.string ⟨#[]⟩,.int .i64 0,.slice none 0 0,.slice none 0 0] 27)).cell 3
    simp only [lGA,lGS,lGZ] at x4
    rw [← HNN.out] at x4
    refine hK _ _ ⟨fun _=>x4,?_⟩
    clear hK K
    refine ready_1 5 (op_E fun K hK=>?_)
    go_simp
    have hbel:Below w1.heap.size w1 (w1.alloc (.cells #[.int .i64 0,.string ⟨#[]⟩,.int .i64 0,.slice none 0 0,.slice none 0 0] 27)).drew:=((Below.refl _ w1).alloc (Nat.le_refl _) _).trans ⟨rfl,rfl,rfl,Nat.le_refl _,fun _ _=>rfl⟩
    refine (HCON.out (w1.alloc (.cells #[.int .i64 0,.string ⟨#[]⟩,.int .i64 0,.slice none 0 0,.slice none 0 0] 27)).drew hbel).mono ?_
    rintro r w20 ⟨rfl,hh,hkp⟩
    have hp20:PW c B l w { p with tk:=p.tk+1 } w20:=(HP1.out.below hbel).taken hkp (HS0.out.below (c':=col9 c w) hbel fun _ _=>rfl).hold hh (by have:=isD_lt (by decide) hb;have:=HS0.out.len;omega)
    have hS20:PSt (col9 c w) B l { p with tk:=p.tk+1 } tp tc vr (.slice q p.ex.length cq) vs vf vd vp w20:=(HS0.out.below (c':=col9 c w) hbel fun _ _=>rfl).kept hkp (fun _ _=>rfl) hh (by have:=isD_lt (by decide) hb;have:=HS0.out.len;omega)
    have H8:Hid (Hold w1.heap.size #[.int .i64 0,.string ⟨#[]⟩,.int .i64 0,.slice none 0 0,.slice none 0 0] 27 w20):=(hkp.block _ ⟨by show w1.heap.size<(w1.alloc (.cells #[.int .i64 0,.string ⟨#[]⟩,.int .i64 0,.slice none 0 0,.slice none 0 0] 27)).heap.size;simp,by omega⟩).trans (hold_drew (Hold.new w1 #[.int .i64 0,.string ⟨#[]⟩,.int .i64 0,.slice none 0 0,.slice none 0 0] 27))
    rw [← HNN.out] at hh
    have y4:=hh.cell 3
    simp only [lGA,lGS,lGZ] at y4
    refine hK _ _ ⟨fun _=>y4,?_⟩
    clear hK K
    have hS:(fun W':World=>W'.cell? ⟨B,3,none⟩=some (.slice q n cq)) w20:=y4
    refine take_F 6 21 (.int .i64 (tkAt l p.tk).nu) hS ?_
    refine take_F 7 22 (.agg #[.int .i64 1,.string ⟨#[]⟩,.int .i64 (tkAt l p.tk).nu,.slice none 0 0,.slice none 0 0]) hS ?_
    simp only [Act.put,lSI,lSZ,lSS]
    have HP2:=zz hp20
    have HS2:=zz hS20
    obtain ⟨b8,hb8e⟩:∃ b,b=w1.heap.size:=⟨_,rfl⟩
    rw [← hb8e] at H8 ⊢
    obtain ⟨W2,hW2⟩:∃ W2,W2=w20:=⟨_,rfl⟩
    subst hW2
    clear hb8e hp20 hS20 hh hkp hbel
    exact J_ls (ls':=#[true,true,true,true,true,true,true,true,true,true,false,false,false,false,false,false]) (by kernel_rfl) (HT b8 W2 ⟨HP2.out,HS2.out,H8⟩)
  case tail=>
   intro b8 W2 hF
   obtain ⟨hp2,hs2,h8⟩:=hF
   have HP2:=zz hp2
   have HS2:=zz hs2
   have H8:=zz h8
   clear hp2 hs2 h8
   obtain ⟨L,k1,k2,k3,k4,k5⟩:=HS2.out.exs
   have HR2:=zz k3
   have HB2:=zz HS2.out.hold
   have HK12:=zz k1
   have HK22:=zz k2
   have HK52:=zz k5
   have HGC:Hid (∀ g,(Value.slice q p.ex.length cq).ownBlock=some g→col9 c w g=3∧g<W2.heap.size):=fun g hg=>⟨k4 g hg,by
    rcases k3.2 with ⟨e,_⟩ | ⟨g',cap,cur,e,_,hgb,_⟩
    ·rw [e] at hg;cases hg
    ·rw [e] at hg
     have:g'=g:=by simpa [Value.ownBlock] using hg
     subst this
     exact (Array.getElem?_eq_some_iff.1 hgb).1⟩
   simp only at HR2 HB2 HK12 HK22 HK52
   rw [← HNN.out] at HR2 HB2 HGC
   clear k1 k2 k3 k4 k5
   refine ready_1 10 (op_E fun K hK=>?_)
   refine wp_append_lies _ _ _ _ (by rfl) 0 27 i0 _ 5 80 Tryz.underlying25 hi hz0 hz1 hz2 rfl (by omega) (.slice q n cq) n L.flatten (by rfl) HR2.out ⟨b8,0,none⟩ 1 1 [.int .i64 0,.string ⟨#[]⟩,.int .i64 0,.slice none 0 0,.slice none 0 0] (by rfl) (by rfl) (World.news_of_block (cs:=#[.int .i64 0,.string ⟨#[]⟩,.int .i64 0,.slice none 0 0,.slice none 0 0]) (t:=27) (fr:=(0,0)) H8.out) (by simp [Value.oneCell']) (by omega) (by unfold maxLen;omega) (by omega) (by omega) W2.heap.size rfl ?_
   intro g2 cap2 W3 hown hgrow hat hlt
   refine hK _ _ ⟨fun h=>absurd h (by omega),?_⟩
   clear hK K
   refine J_switch (S':=fun _=>True) (N':=16) _ _ _ _ (by kernel_rfl) ?_
   have hB3:Hold B (psC tp l.length tc (p.tk+1) vr (.slice q n cq) vs vf vd vp) 63 W3:=(hgrow.block B HB2.out.lt nBr).trans HB2.out
   have HB3:=zz hB3
   have z1:=hB3.frozen 3
   have z2:=hB3.cell 3
   simp only [lGA,lGS,lGZ] at z2
   obtain ⟨f1,v1,q1⟩:=row_set_cell hown (n * 5) (by omega)
   obtain ⟨f2,v2,q2⟩:=row_set_cell hown (n * 5+1) (by omega)
   obtain ⟨f3,v3,q3⟩:=row_set_cell hown (n * 5+2) (by omega)
   obtain ⟨f4,v4,q4⟩:=row_set_cell hown (n * 5+3) (by omega)
   obtain ⟨f5,v5,q5⟩:=row_set_cell hown (n * 5+4) (by omega)
   have HOW:=zz hown
   have HGR:=zz hgrow
   have hn2:B≠g2∧((col9 c w g2=3∧g2<W2.heap.size)∨W2.heap.size≤g2):=by
    rcases hat with h | h
    ·exact ⟨fun e=>nBr (by rw [e];exact h.symm),.inl (HGC.out g2 h)⟩
    ·exact ⟨by have:=HB2.out.lt;omega,.inr (by omega)⟩
   have hnB:=hn2.1
   have hi1:(n:Int)<(n:Int)+1:=by omega
   have hi2:(0:Int)≤(n:Int):=by omega
   have HN2:=zz hn2
   clear hown hgrow hat hB3 hn2
   refine take_F 11 26 (.pointer (some ⟨g2,n * 5,none⟩)) trivial ?_
   refine take_F 13 27 (.pointer (some ⟨B,0,none⟩)) trivial ?_
   refine take_F 14 28 (.pointer (some ⟨B,3,none⟩)) trivial ?_
   simp only [Act.put,lSI,lSZ,lSS]
   refine ready_E [12,15] ?_
   intro jj hjj
   have kp3:∀ b,b<W2.heap.size→b≠B→some b≠(Value.slice q n cq).ownBlock→W3.heap[b]?=W2.heap[b]?:=fun b hb _ hne=>HGR.out.block b hb hne
   have HKO:Hid (W3.os=W2.os∧W3.tape=W2.tape∧W3.output=W2.output∧W2.heap.size≤W3.heap.size):=⟨HGR.out.os,HGR.out.tape,HGR.out.output,HGR.out.size⟩
   have HRQ:Hid (∀ W4,(W4=(((((W3.setCell ⟨g2,n * 5,none⟩ (.int .i64 1)).setCell ⟨g2,n * 5+1,none⟩ (.string ⟨#[]⟩)).setCell ⟨g2,n * 5+2,none⟩ (.int .i64 (tkAt l p.tk).nu)).setCell ⟨g2,n * 5+3,none⟩ (.slice none 0 0)).setCell ⟨g2,n * 5+4,none⟩ (.slice none 0 0)).setCell ⟨B,3,none⟩ (.slice (some ⟨g2,0,none⟩) (n+1) cap2)∨W4=((((((W3.setCell ⟨B,3,none⟩ (.slice (some ⟨g2,0,none⟩) (n+1) cap2)).setCell ⟨g2,n * 5,none⟩ (.int .i64 1)).setCell ⟨g2,n * 5+1,none⟩ (.string ⟨#[]⟩)).setCell ⟨g2,n * 5+2,none⟩ (.int .i64 (tkAt l p.tk).nu)).setCell ⟨g2,n * 5+3,none⟩ (.slice none 0 0)).setCell ⟨g2,n * 5+4,none⟩ (.slice none 0 0)))→RQ c B l w X (.returned (.tuple #[])) W4):=by
    intro W4 hW4
    rw [HX15.out]
    have hlf:L.flatten.length=n * 5:=by rw [flatten_len HK22.out,HK12.out,← HNN.out]
    have hr0:=row_set (row_set (row_set (row_set (row_set HOW.out (n * 5) (by omega) (.int .i64 1)) (n * 5+1) (by omega) (.string ⟨#[]⟩)) (n * 5+2) (by omega) (.int .i64 (tkAt l p.tk).nu)) (n * 5+3) (by omega) (.slice none 0 0)) (n * 5+4) (by omega) (.slice none 0 0)
    rw [set_last5 _ _ _ _ _ _ _ _ _ _ _ hlf] at hr0
    have hbase:Hold B (psC tp l.length tc (p.tk+1) vr (.slice (some ⟨g2,0,none⟩) (n+1) cap2) vs vf vd vp) 63 W4∧W4.ownsRow 0 27 5 (.slice (some ⟨g2,0,none⟩) (n+1) cap2) (n+1) (L.flatten ++ [.int .i64 1,.string ⟨#[]⟩,.int .i64 (tkAt l p.tk).nu,.slice none 0 0,.slice none 0 0])∧KP (fun b=>b<W2.heap.size∧b≠B∧b≠g2∧some b≠(Value.slice q n cq).ownBlock) W2 W4:=by
     have k0:KP (fun b=>b<W2.heap.size∧b≠B∧b≠g2∧some b≠(Value.slice q n cq).ownBlock) W2 W3:=⟨HKO.out.1,HKO.out.2.1,HKO.out.2.2.1,HKO.out.2.2.2,fun b hb=>kp3 b hb.1 hb.2.1 hb.2.2.2⟩
     rcases hW4 with rfl | rfl
     ·refine ⟨(((((HB3.out.other hnB _ _).other hnB _ _).other hnB _ _).other hnB _ _).other hnB _ _).set 3 _,?_,((((((k0.trans (KP.setCell _ _ _ _ (fun h=>h.2.2.1 rfl))).trans (KP.setCell _ _ _ _ (fun h=>h.2.2.1 rfl))).trans (KP.setCell _ _ _ _ (fun h=>h.2.2.1 rfl))).trans (KP.setCell _ _ _ _ (fun h=>h.2.2.1 rfl))).trans (KP.setCell _ _ _ _ (fun h=>h.2.2.1 rfl)))).trans (KP.setCell _ _ _ _ (fun h=>h.2.1 rfl))⟩
      exact row_other hr0 (((((HB3.out.other hnB _ _).other hnB _ _).other hnB _ _).other hnB _ _).other hnB _ _) (by decide) 3 _
     ·refine ⟨(((((HB3.out.set 3 _).other hnB _ _).other hnB _ _).other hnB _ _).other hnB _ _).other hnB _ _,?_,(((((k0.trans (KP.setCell _ _ _ _ (fun h=>h.2.1 rfl))).trans (KP.setCell _ _ _ _ (fun h=>h.2.2.1 rfl))).trans (KP.setCell _ _ _ _ (fun h=>h.2.2.1 rfl))).trans (KP.setCell _ _ _ _ (fun h=>h.2.2.1 rfl))).trans (KP.setCell _ _ _ _ (fun h=>h.2.2.1 rfl))).trans (KP.setCell _ _ _ _ (fun h=>h.2.2.1 rfl))⟩
      have hr1:=row_set (row_set (row_set (row_set (row_set (row_other HOW.out HB3.out (by decide) 3 (.slice (some ⟨g2,0,none⟩) (n+1) cap2)) (n * 5) (by omega) (.int .i64 1)) (n * 5+1) (by omega) (.string ⟨#[]⟩)) (n * 5+2) (by omega) (.int .i64 (tkAt l p.tk).nu)) (n * 5+3) (by omega) (.slice none 0 0)) (n * 5+4) (by omega) (.slice none 0 0)
      rw [set_last5 _ _ _ _ _ _ _ _ _ _ _ hlf] at hr1
      exact hr1
    obtain ⟨b1,b2,b3⟩:=hbase
    rw [HNN.out] at b1 b2
    refine ex_push ⟨1,[],(tkAt l p.tk).nu,[],[]⟩ HP2.out HS2.out ht.1 ht.2 HK12.out HK22.out HK52.out b1 b2 HN2.out.2 (b3.mono fun b hb=>⟨hb.1,fun e=>hb.2.1 (by rw [e];exact HS2.out.colB),?_,fun e=>hb.2.2 (HGC.out b e.symm).1⟩) ⟨.inl rfl,.inr rfl,rfl,rfl⟩
    intro e
    rcases HN2.out.2 with h | h
    ·exact hb.2.2 (by rw [e];exact h.1)
    ·omega
   rcases List.mem_cons.1 hjj with rfl | hjj
   ·clear hjj
    refine op_E fun K hK=>?_
    go_simp
    refine hK _ _ ⟨fun _=>trivial,?_⟩
    clear hK K
    refine ready_1 15 (op_E fun K hK=>?_)
    go_simp
    refine hK _ _ ⟨fun _=>trivial,?_⟩
    clear hK K
    refine done_J (by kernel_rfl) ?_ _
    refine NoPanic.normal ?_
    go_wp2_with fail
    go_end0
    exact HRQ.out _ (.inl rfl)
   ·obtain rfl:=List.mem_singleton.1 hjj
    clear hjj
    refine op_E fun K hK=>?_
    go_simp
    refine hK _ _ ⟨fun _=>trivial,?_⟩
    clear hK K
    refine ready_1 12 (op_E fun K hK=>?_)
    go_simp
    refine hK _ _ ⟨fun _=>trivial,?_⟩
    clear hK K
    refine done_J (by kernel_rfl) ?_ _
    refine NoPanic.normal ?_
    go_wp2_with fail
    go_end0
    exact HRQ.out _ (.inr rfl)
end Go.Proofs.YtcnnlecjdkfdjaaGreatDoor
