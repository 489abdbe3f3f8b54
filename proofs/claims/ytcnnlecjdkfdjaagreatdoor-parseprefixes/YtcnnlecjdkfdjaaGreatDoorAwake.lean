/- Awake: the texts of these names, of which the claim is made. -/
import Derived.Test.YtcnnlecjdkfdjaaGreatDoorAw
set_option linter.unusedVariables false
set_option linter.unusedSimpArgs false
set_option maxRecDepth 100000
set_option maxHeartbeats 8000000
namespace Go.Proofs.YtcnnlecjdkfdjaaGreatDoor
open Go.RowKit
theorem mem_const (w:World) (l:List UInt8) (C:Array Value) (t:TypeId) (fr:Nat × Nat) (hC:C=(l.map Ly.cl).toArray):Ly.Mem (w.alloc (.cells C t fr)) (some ⟨w.heap.size,0,none⟩) l:=by
 refine .inr ⟨w.heap.size,0,rfl,by simp,fun i x hx=>?_⟩
 rw [Nat.zero_add,World.cell?_alloc_mark,hC]
 simp [hx,Ly.cl]
theorem lexC (w:World) (hg:Ly.Glob w):Calls Tryz.prog 19 #[.slice (some ⟨w.heap.size,0,none⟩) 7 7] (w.alloc (.cells #[.int .u8 102,.int .u8 32,.int .u8 120,.int .u8 32,.int .u8 43,.int .u8 32,.int .u8 49] 5 (7,8))) fun e W'=>∃ pa cp,e=.returned (.tuple #[.slice (some pa) 4 cp,.agg #[.int .i64 0,.int .i64 0],.int .i64 0])∧Ly.TMem W' (some pa) l1∧4≤cp∧Below w.heap.size w W':=by
 have h:=Ly.lex_told (some ⟨w.heap.size,0,none⟩) 7 7 b1 _ rfl (by omega) (by omega) (mem_const w b1 #[.int .u8 102,.int .u8 32,.int .u8 120,.int .u8 32,.int .u8 43,.int .u8 32,.int .u8 49] 5 (7,8) rfl) (fun h=>by cases h) (hg.below (Nat.le_refl _) ((Below.refl _ w).alloc (Nat.le_refl _) _))
 have e1:Ly.plc b1=(0,0):=by unfold Ly.plc;rw [b1_lex];rfl
 have e2:Ly.ern b1=0:=by unfold Ly.ern;rw [b1_lex];rfl
 rw [e1,e2,b1_lex] at h
 refine h.mono ?_
 rintro e W' ⟨pa,cp,rfl,hT,hc,hb⟩
 obtain ⟨b,o,rfl⟩:∃ b o,pa=some ⟨b,o,none⟩:=by
  rcases hT with h | ⟨b,o,h,_⟩
  ·cases h
  ·exact ⟨b,o,h⟩
 exact ⟨_,cp,rfl,hT,hc,((Below.refl _ w).alloc (Nat.le_refl _) _).trans (hb.mono (by simp))⟩
theorem l1_ok:∀ t ∈ l1,Ly.OkT 8 t:=by
 intro t ht
 have:=Ly.lex_ok b1 t (by rw [b1_lex];exact ht)
 exact ⟨Nat.le_trans this.1 (by decide),this.2⟩
theorem exprC (w:World) {pa:Option Addr} {cp:Nat} (hT:Ly.TMem w pa l1):Calls Tryz.prog 11 #[.slice pa 4 cp] w fun r w'=>∃ pn cn pk ck,r=.returned (.tuple #[.agg #[.int .i64 9,.string ⟨#[43]⟩,.int .i64 0,.slice pn 0 cn,.slice pk 2 ck],.agg #[.int .i64 0,.int .i64 0],.int .i64 0])∧TrIn (fun b=>b<w'.heap.size) w' tP [.int .i64 9,.string ⟨#[43]⟩,.int .i64 0,.slice pn 0 cn,.slice pk 2 ck]∧Below w.heap.size w w':=by
 have h:=pexpr_any (P:=fun b=>b<w.heap.size) (l:=l1.map tkOf) (n:=4) (tc:=cp) (fun b hb=>hb) rfl (km_of hT l1_ok (by omega)) (by omega)
 rw [b1_expr] at h
 exact h
theorem exprC3 (w:World) {pa:Option Addr} {cp:Nat} (hT:Ly.TMem w pa l1):Calls Tryz.prog 11 #[.slice pa 3 cp] w fun r w'=>∃ pn cn pk ck,r=.returned (.tuple #[.agg #[.int .i64 0,.string ⟨#[]⟩,.int .i64 0,.slice pn 0 cn,.slice pk 0 ck],.agg #[.int .i64 1,.int .i64 5],.int .i64 60])∧Below w.heap.size w w':=by
 have h:=pexpr_any (P:=fun b=>b<w.heap.size) (l:=(l1.take 3).map tkOf) (n:=3) (tc:=cp) (fun b hb=>hb) rfl (km_of (hT.take 3) (fun t ht=>l1_ok t (List.mem_of_mem_take ht)) (by omega)) (by omega)
 rw [b1_cut] at h
 refine h.mono ?_
 rintro r w' ⟨pn,cn,pk,ck,rfl,_,hb⟩
 exact ⟨pn,cn,pk,ck,rfl,hb⟩
theorem textC (w:World) (hg:Ly.Glob w):Calls Tryz.prog 17 #[.slice (some ⟨w.heap.size,0,none⟩) 21 21] (w.alloc (.cells #[.int .u8 102,.int .u8 32,.int .u8 120,.int .u8 32,.int .u8 61,.int .u8 32,.int .u8 120,.int .u8 10,.int .u8 103,.int .u8 32,.int .u8 61,.int .u8 32,.int .u8 100,.int .u8 111,.int .u8 10,.int .u8 32,.int .u8 32,.int .u8 102,.int .u8 32,.int .u8 49,.int .u8 10] 5 (21,22))) fun r w'=>∃ pd cd pf cf,r=.returned (.tuple #[.agg #[.slice pd 0 cd,.slice pf 2 cf],.agg #[.int .i64 0,.int .i64 0],.int .i64 0])∧PgIn2 (QU w') (fun b=>b<w'.heap.size) w' pG [.slice pd 0 cd,.slice pf 2 cf]∧Below w.heap.size w w':=by
 have h:=ptext_any (p:=some ⟨w.heap.size,0,none⟩) (m:=21) (c:=21) (src:=b2) rfl (by omega) (by omega) (mem_const w b2 #[.int .u8 102,.int .u8 32,.int .u8 120,.int .u8 32,.int .u8 61,.int .u8 32,.int .u8 120,.int .u8 10,.int .u8 103,.int .u8 32,.int .u8 61,.int .u8 32,.int .u8 100,.int .u8 111,.int .u8 10,.int .u8 32,.int .u8 32,.int .u8 102,.int .u8 32,.int .u8 49,.int .u8 10] 5 (21,22) rfl) (fun h=>by cases h) (hg.below (Nat.le_refl _) ((Below.refl _ w).alloc (Nat.le_refl _) _))
 rw [b2_text] at h
 refine h.mono ?_
 rintro r w' ⟨pd,cd,pf,cf,rfl,hE,hb⟩
 exact ⟨pd,cd,pf,cf,rfl,PgIn2.mono2 (KP.refl _ _) (KP.refl _ _) (fun b hb=>hb) (fun b hb=>hb.1) _ _ hE,((Below.refl _ w).alloc (Nat.le_refl _) _).trans (hb.mono (by simp))⟩
theorem textC3 (w:World) (hg:Ly.Glob w):Calls Tryz.prog 17 #[.slice (some ⟨w.heap.size,0,none⟩) 5 5] (w.alloc (.cells #[.int .u8 102,.int .u8 32,.int .u8 61,.int .u8 32,.int .u8 61] 5 (5,6))) fun r w'=>∃ pd cd pf cf,r=.returned (.tuple #[.agg #[.slice pd 0 cd,.slice pf 0 cf],.agg #[.int .i64 1,.int .i64 5],.int .i64 60])∧Below w.heap.size w w':=by
 have h:=ptext_any (p:=some ⟨w.heap.size,0,none⟩) (m:=5) (c:=5) (src:=b3) rfl (by omega) (by omega) (mem_const w b3 #[.int .u8 102,.int .u8 32,.int .u8 61,.int .u8 32,.int .u8 61] 5 (5,6) rfl) (fun h=>by cases h) (hg.below (Nat.le_refl _) ((Below.refl _ w).alloc (Nat.le_refl _) _))
 rw [b3_text] at h
 refine h.mono ?_
 rintro r w' ⟨pd,cd,pf,cf,rfl,_,hb⟩
 exact ⟨pd,cd,pf,cf,rfl,((Below.refl _ w).alloc (Nat.le_refl _) _).trans (hb.mono (by simp))⟩
theorem printC (w:World) (hG:GP (fun b=>b<w.heap.size) w) {pn pk:Option Addr} {cn ck:Nat} (hE:TrIn (fun b=>b<w.heap.size) w tP [.int .i64 9,.string ⟨#[43]⟩,.int .i64 0,.slice pn 0 cn,.slice pk 2 ck]):Calls Tryz.prog 22 #[.agg #[.int .i64 9,.string ⟨#[43]⟩,.int .i64 0,.slice pn 0 cn,.slice pk 2 ck]] w fun r w'=>r=.returned (.tuple #[.string ⟨#[40,102,32,120,41,32,43,32,49]⟩,.int .i64 0])∧Below w.heap.size w w':=by
 have h:=expr_any (e:=tP) (pn:=pn) (cn:=cn) (pk:=pk) (ck:=ck) hG hE (by rw [po_P];simp [tP,tA,tF,tX,tI]) (by rw [po_P];simp [tP,tA,tF,tX,tI])
 rw [av1] at h
 exact h
theorem pG_po (d:Df) (hd:d ∈ pG.fs):(∀ x ∈ po d.bd 1,x.1≤1000000∧x.2.ks.length≤1000000)∧∀ x ∈ po d.bd 1,x.2.ns.length≤1000000:=by
 rcases List.mem_cons.1 hd with rfl | hd
 ·show (∀ x ∈ po tL 1,_)∧∀ x ∈ po tL 1,_
  rw [po_L]
  simp [tL,tX]
 ·rcases List.mem_cons.1 hd with rfl | hd
  ·show (∀ x ∈ po tD 1,_)∧∀ x ∈ po tD 1,_
   rw [po_D]
   simp [tD,tQ,tF,tI]
  ·cases hd
theorem printG (w:World) (hG:GP (fun b=>b<w.heap.size) w) {pd pf:Option Addr} {cd cf:Nat} (hE:PgIn2 (QU w) (fun b=>b<w.heap.size) w pG [.slice pd 0 cd,.slice pf 2 cf]):Calls Tryz.prog 21 #[.agg #[.slice pd 0 cd,.slice pf 2 cf]] w fun r w'=>r=.returned (.tuple #[.string ⟨#[123,32,102,32,61,32,92,120,32,45,62,32,120,32,59,32,103,32,61,32,100,111,32,123,32,102,32,49,32,125,32,125]⟩,.int .i64 0])∧Below w.heap.size w w':=by
 have h:=prog_any2 (p:=pG) (pd:=pd) (cd:=cd) (pf:=pf) (cf:=cf) hG (qu_pl w) (fun b hb=>hb) hE (fun d hd=>(pG_po d hd).1) (fun d hd=>(pG_po d hd).2) (by simp [pG])
 rw [av2] at h
 exact h
theorem gp_below {w W:World} (hG:GP (fun b=>b<w.heap.size) w) (hb:Below w.heap.size w W):GP (fun b=>b<W.heap.size) W:=hG.keep (KP.of_below hb fun b hb=>hb) (fun b hb'=>Nat.lt_of_lt_of_le hb' hb.size)
theorem two_new (w:World) (A B:Array Value) (t s:TypeId):Below w.heap.size w ((w.alloc (.cells A t)).alloc (.cells B s))∧Hold w.heap.size A t ((w.alloc (.cells A t)).alloc (.cells B s))∧Hold (w.heap.size+1) B s ((w.alloc (.cells A t)).alloc (.cells B s))∧((w.alloc (.cells A t)).alloc (.cells B s)).heap.size=w.heap.size+2:=by
 refine ⟨((Below.refl _ w).alloc (Nat.le_refl _) _).alloc (by simp) _,(Hold.new w A t).alloc _,?_,by simp⟩
 have:=Hold.new (w.alloc (.cells A t)) B s
 simpa using this
theorem trin_to {w W:World} {e:Tr} {cs:List Value} (h:TrIn (fun b=>b<w.heap.size) w e cs) (hb:Below w.heap.size w W):TrIn (fun b=>b<W.heap.size) W e cs:=TrIn.keep (KP.of_below hb fun b hb=>hb) (fun b hb'=>Nat.lt_of_lt_of_le hb' hb.size) _ _ h
theorem pgin_to {w W:World} {e:Pg} {cs:List Value} (h:PgIn2 (QU w) (fun b=>b<w.heap.size) w e cs) (hb:Below w.heap.size w W):PgIn2 (QU W) (fun b=>b<W.heap.size) W e cs:=PgIn2.mono2 (KP.of_below hb fun b hb=>hb.1) (KP.of_below hb fun b hb=>hb) (fun b hb'=>hb'.keep hb.size (hb.block b hb'.1)) (fun b hb'=>Nat.lt_of_lt_of_le hb' hb.size) _ _ h
theorem awake_any (w:World) (hg:Ly.Glob w) (hG:GP (fun b=>b<w.heap.size) w):Calls Tryz.prog 10 #[] w fun e w'=>e=.returned (.bool true)∧Below w.heap.size w w':=by
 have kc:=fun (w:World) (C:Array Value) (n c:Nat)=>Lib.run_convert_bytes_const (P:=Tryz.prog) w 42 5 C n c Tryz.underlying42 Tryz.underlying5
 have HG:=hide hG
 have HL:=hide hg
 clear hG hg
 go_enter Tryz.func10,Tryz.ntmps10
 go_wp2_with fail
 refine (lexC w HL.out).mono ?_
 rintro r w1 ⟨pa,cp,rfl,hT,hcp,hb1⟩
 have HB1:=hide hb1
 clear hb1
 go_wp2_with fail
 refine (exprC _ (hT.below (Nat.le_refl _) ((Below.refl _ w1).alloc (Nat.le_refl _) _))).mono ?_
 rintro r w2 ⟨pn,cn,pk,ck,rfl,hE2,hb2⟩
 have hb2':Below w1.heap.size w1 w2:=((Below.refl _ w1).alloc (Nat.le_refl _) _).trans (hb2.mono (by simp))
 have hT2:=hT.below (Nat.le_refl _) hb2'
 have HB2:=hide (HB1.out.trans (hb2'.mono HB1.out.size))
 clear hb2 hb2' hT HB1
 go_wp2_with fail
 obtain ⟨nB,n0,n1,nS⟩:=two_new w2 #[.int .i64 9,.string ⟨#[43]⟩,.int .i64 0,.slice pn 0 cn,.slice pk 2 ck] #[.int .i64 0,.int .i64 0] 27 29
 generalize (w2.alloc (.cells #[.int .i64 9,.string ⟨#[43]⟩,.int .i64 0,.slice pn 0 cn,.slice pk 2 ck] 27)).alloc (.cells #[.int .i64 0,.int .i64 0] 29)=W2 at *
 refine (exprC3 W2 (hT2.below (Nat.le_refl _) nB)).mono ?_
 rintro r w3 ⟨qn,dn,qk,dk,rfl,hb3⟩
 have HE3:=hide (trin_to (trin_to hE2 nB) hb3)
 have HB3:=hide ((HB2.out.trans (nB.mono HB2.out.size)).trans (hb3.mono (HB2.out.trans (nB.mono HB2.out.size)).size))
 have HX3:=hide (n0.below hb3 n0.lt)
 have HY3:=hide (n1.below hb3 n1.lt)
 have hs3:=hb3.size
 clear hT2 hE2 hb3 nB n0 n1 HB2
 go_upto_region 6 with fail
 obtain ⟨nB,n0,n1,nS3⟩:=two_new w3 #[.int .i64 0,.string ⟨#[]⟩,.int .i64 0,.slice qn 0 dn,.slice qk 0 dk] #[.int .i64 1,.int .i64 5] 27 29
 generalize hW3:(w3.alloc (.cells #[.int .i64 0,.string ⟨#[]⟩,.int .i64 0,.slice qn 0 dn,.slice qk 0 dk] 27)).alloc (.cells #[.int .i64 1,.int .i64 5] 29)=W3 at *
 have HB4:=hide (HB3.out.trans (nB.mono HB3.out.size))
 have HE4:=hide (trin_to HE3.out nB)
 have HX4:=hide (HX3.out.below nB HX3.out.lt)
 have HY4:=hide (HY3.out.below nB HY3.out.lt)
 have HZ4:=hide n1
 have HS3:=hide nS3
 clear hW3 nB n0 n1 HB3 HE3 HX3 HY3 nS3
 go_wp2_with fail
 refine (textC W3 (HL.out.below (Nat.le_refl _) HB4.out)).mono ?_
 rintro r w4 ⟨pd,cd,pf,cf,rfl,hG5,hb5⟩
 have HG5:=hide hG5
 have HB5:=hide (HB4.out.trans (hb5.mono HB4.out.size))
 have HE5:=hide (trin_to HE4.out hb5)
 have HX5:=hide (HX4.out.below hb5 HX4.out.lt)
 have HY5:=hide (HY4.out.below hb5 HY4.out.lt)
 have HZ5:=hide (HZ4.out.below hb5 HZ4.out.lt)
 have hs5:=hb5.size
 clear hG5 hb5 HB4 HE4 HX4 HY4 HZ4
 go_upto_region 7 with fail
 obtain ⟨nB,n0,n1,nS5⟩:=two_new w4 #[.slice pd 0 cd,.slice pf 2 cf] #[.int .i64 0,.int .i64 0] 38 29
 generalize hW5:(w4.alloc (.cells #[.slice pd 0 cd,.slice pf 2 cf] 38)).alloc (.cells #[.int .i64 0,.int .i64 0] 29)=W5 at *
 have HB6:=hide (HB5.out.trans (nB.mono HB5.out.size))
 have HG6:=hide (pgin_to HG5.out nB)
 have HE6:=hide (trin_to HE5.out nB)
 have HX6:=hide (HX5.out.below nB HX5.out.lt)
 have HY6:=hide (HY5.out.below nB HY5.out.lt)
 have HZ6:=hide (HZ5.out.below nB HZ5.out.lt)
 have HU6:=hide n0
 have HV6:=hide n1
 have HS5:=hide nS5
 clear hW5 nB n0 n1 HB5 HG5 HE5 HX5 HY5 HZ5 nS5
 go_wp2_with fail
 refine (textC3 W5 (HL.out.below (Nat.le_refl _) HB6.out)).mono ?_
 rintro r w6 ⟨qd,ed,qf,ef,rfl,hb7⟩
 have HG7:=hide (pgin_to HG6.out hb7)
 have HB7:=hide (HB6.out.trans (hb7.mono HB6.out.size))
 have HE7:=hide (trin_to HE6.out hb7)
 have HX7:=hide (HX6.out.below hb7 HX6.out.lt)
 have HY7:=hide (HY6.out.below hb7 HY6.out.lt)
 have HZ7:=hide (HZ6.out.below hb7 HZ6.out.lt)
 have HU7:=hide (HU6.out.below hb7 HU6.out.lt)
 have HV7:=hide (HV6.out.below hb7 HV6.out.lt)
 have hs7:=hb7.size
 clear hb7 HB6 HE6 HX6 HY6 HZ6 HU6 HV6 HG6
 go_upto_region 8 with fail
 obtain ⟨nB,n0,n1,nS7⟩:=two_new w6 #[.slice qd 0 ed,.slice qf 0 ef] #[.int .i64 1,.int .i64 5] 38 29
 generalize hW7:(w6.alloc (.cells #[.slice qd 0 ed,.slice qf 0 ef] 38)).alloc (.cells #[.int .i64 1,.int .i64 5] 29)=W7 at *
 have HB8:=hide (HB7.out.trans (nB.mono HB7.out.size))
 have HG8:=hide (pgin_to HG7.out nB)
 have HE8:=hide (trin_to HE7.out nB)
 have HX8:=hide (HX7.out.below nB HX7.out.lt)
 have HY8:=hide (HY7.out.below nB HY7.out.lt)
 have HZ8:=hide (HZ7.out.below nB HZ7.out.lt)
 have HU8:=hide (HU7.out.below nB HU7.out.lt)
 have HV8:=hide (HV7.out.below nB HV7.out.lt)
 have HW8:=hide n1
 have HS7:=hide nS7
 clear hW7 nB n0 n1 HB7 HE7 HX7 HY7 HZ7 HU7 HV7 HG7 nS7 kc HS5 HS3 hs7 hs5 hs3 nS
 have u1:=HU8.out.cell 1
 have x0:=HX8.out.cell 0
 have x1:=HX8.out.cell 1
 have x2:=HX8.out.cell 2
 have x3:=HX8.out.cell 3
 have x4:=HX8.out.cell 4
 simp only [lGA,lGS,lGZ] at u1 x0 x1 x2 x3 x4
 go_wp2_with fail
 refine (printC W7 (gp_below HG.out HB8.out) HE8.out).mono ?_
 rintro r w9 ⟨rfl,hb9⟩
 have HG9:=hide (pgin_to HG8.out hb9)
 have HB9:=hide (HB8.out.trans (hb9.mono HB8.out.size))
 have HY9:=hide (HY8.out.below hb9 HY8.out.lt)
 have HZ9:=hide (HZ8.out.below hb9 HZ8.out.lt)
 have HV9:=hide (HV8.out.below hb9 HV8.out.lt)
 have HW9:=hide (HW8.out.below hb9 HW8.out.lt)
 have hU9:=HU8.out.below hb9 HU8.out.lt
 clear u1 x0 x1 x2 x3 x4 hb9 HG8 HB8 HY8 HZ8 HV8 HW8 HX8 HE8
 have u0:=hU9.cell 0
 have u1:=hU9.cell 1
 simp only [lGA,lGS,lGZ] at u0 u1
 clear hU9 HU8
 go_wp2_with fail
 refine (printG w9 (gp_below HG.out HB9.out) HG9.out).mono ?_
 rintro r wx ⟨rfl,hbx⟩
 have HBx:=hide (HB9.out.trans (hbx.mono HB9.out.size))
 have hYx:=HY9.out.below hbx HY9.out.lt
 have hZx:=HZ9.out.below hbx HZ9.out.lt
 have hVx:=HV9.out.below hbx HV9.out.lt
 have hWx:=HW9.out.below hbx HW9.out.lt
 have y0:=hYx.cell 0
 have y1:=hYx.cell 1
 have z0:=hZx.cell 0
 have z1:=hZx.cell 1
 have v0:=hVx.cell 0
 have v1:=hVx.cell 1
 have t0:=hWx.cell 0
 have t1:=hWx.cell 1
 simp only [lGA,lGS,lGZ] at y0 y1 z0 z1 v0 v1 t0 t1
 clear u0 u1 hbx HG9 HB9 HY9 HZ9 HV9 HW9 hYx hZx hVx hWx
 go_wp2_with fail
 go_ret
 exact ⟨rfl,HBx.out⟩
end Go.Proofs.YtcnnlecjdkfdjaaGreatDoor
