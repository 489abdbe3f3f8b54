/- Parts of the proof. -/
import Derived.Test.YtcnnlecjdkfdjaaGreatDoorPut
set_option linter.unusedVariables false
set_option linter.unusedSimpArgs false
set_option maxRecDepth 100000
set_option maxHeartbeats 8000000
namespace Go.Proofs.YtcnnlecjdkfdjaaGreatDoor
open Go.RowKit
theorem kid_cells {P:Nat→Prop} {w:World} {pk:Option Addr} {ks:List Tr} (h:EM P w pk ks) (hs:ks≠[]):∃ b o,pk=some ⟨b,o,none⟩∧P b∧∀ i k,ks[i]?=some k→∃ pn cn pk' ck,TrIn P w k [.int .i64 k.kd,.string (S k.nm),.int .i64 k.nu,.slice pn k.ns.length cn,.slice pk' k.ks.length ck] ∧
 w.cell? ⟨b,o+i * 5,none⟩=some (.int .i64 k.kd)∧w.cell? ⟨b,o+i * 5+1,none⟩=some (.string (S k.nm))∧w.cell? ⟨b,o+i * 5+2,none⟩=some (.int .i64 k.nu)∧w.cell? ⟨b,o+i * 5+3,none⟩=some (.slice pn k.ns.length cn)∧w.cell? ⟨b,o+i * 5+4,none⟩=some (.slice pk' k.ks.length ck):=by
 rcases h with h | ⟨b,o,hp,hb,hm⟩
 ·exact absurd h hs
 ·refine ⟨b,o,hp,hb,fun i k hk=>?_⟩
  obtain ⟨ds,h1,h2,h3⟩:=hm i k hk
  obtain ⟨pn,cn,pk',ck,rfl⟩:=tr_cells h3
  exact ⟨pn,cn,pk',ck,h3,h2 0 _ rfl,h2 1 _ rfl,h2 2 _ rfl,h2 3 _ rfl,h2 4 _ rfl⟩
theorem expr4 {n:Nat} (IH:PutOK n) {P:Nat→Prop} {t:Nat} {st:St} {lv:Nat} {w:World} {nm:List UInt8} {nu:Int} {ns:List (List UInt8)} {ks:List Tr} {cs:List Value} (hw:tw ⟨4,nm,nu,ns,ks⟩≤n+1) (hlv:lv≤30) (hG:GP P w) (hT:TX P t st lv w) (hE:TrIn P w ⟨4,nm,nu,ns,ks⟩ cs) (hs:shp ⟨4,nm,nu,ns,ks⟩=true) :
 Calls Tryz.prog 207 #[.pointer (some ⟨t,0,none⟩),.agg cs.toArray] w fun e' w'=>e'=.returned (.tuple #[])∧TX P t (ptA lv (pExpr ⟨4,nm,nu,ns,ks⟩) st) lv w'∧KP P w w':=by
 obtain ⟨pn,cn,pk,ck,rfl,hnm,hnu,hsn,hsk,hSM,hEM⟩:=(TrIn_iff _ _ _ _).1 hE
 rw [shp_eq] at hs
 simp at hs
 rw [tw_eq] at hw
 simp only at *
 obtain ⟨⟨⟨hb1,hb2⟩,hk1⟩,hks⟩:=hs
 obtain ⟨k0,r0,rfl⟩:∃ k r,ks=k :: r:=by cases ks with | nil=>simp at hk1 | cons a r=>exact ⟨a,r,rfl⟩
 have hk2:1≤(k0 :: r0).length:=by simp
 obtain ⟨b,o,rfl,hb,hm⟩:=kid_cells hEM (by simp)
 obtain ⟨qn0,dn0,qk0,dk0,hI0,a00,a01,a02,a03,a04⟩:=hm 0 k0 rfl
 have hbl:=hT.lt b hb
 have hww:((k0 :: r0).map fun k=>tw k+3).sum=(tw k0+3)+((r0).map fun k=>tw k+3).sum:=by simp;try omega
 generalize hnk:(k0 :: r0).length=nk at *
 have hn0:(0:Int)<nk:=by omega
 have hm0:0<nk:=by omega
 have hw2:8+ns.length+((tw k0+3))≤n+1:=by omega
 clear hnk hk1 hb2 hk2 hw hww
 obtain ⟨W,hW⟩:∃ W,W=w.alloc (.cells #[.int .i64 4,.string (S nm),.int .i64 nu,.slice pn ns.length cn,.slice (some ⟨b,o,none⟩) nk ck] 27):=⟨_,rfl⟩
 have hB:Below w.heap.size w W:=by rw [hW];exact (Below.refl _ w).alloc (Nat.le_refl _) _
 have hK:KP P w W:=KP.of_below hB hT.lt
 have hT1:TX (fun b=>P b∨b=w.heap.size) t st lv W:=by rw [hW];exact hT.new _
 have hG1:GP (fun b=>P b∨b=w.heap.size) W:=hG.keep hK fun b hb=>.inl hb
 have hWs:W.heap.size=w.heap.size+1:=by rw [hW];simp
 have hBd:Below W.heap.size W W.drew:=⟨rfl,rfl,rfl,Nat.le_refl _,fun _ _=>rfl⟩
 have hcc:∀ x,W.cell? ⟨b,x,none⟩=w.cell? ⟨b,x,none⟩:=fun x=>hB.cell (p:=⟨b,x,none⟩) hbl
 have hH:Hold w.heap.size #[.int .i64 4,.string (S nm),.int .i64 nu,.slice pn ns.length cn,.slice (some ⟨b,o,none⟩) nk ck] 27 W:=by rw [hW];exact Hold.new w _ 27
 have hE0:=TrIn.keep hK (Q:=fun b=>P b∨b=w.heap.size) (fun b hb=>Or.inl hb) k0 _ hI0
 have hS0:=(hSM.keep hK).mono (Q:=fun b=>P b∨b=w.heap.size) fun b hb=>Or.inl hb
 have H1:=zz (put_new IH [pOpn [92],pStrs ns,pStr [45,62],pExpr k0] [.iface 212 (.string (S [92])),.iface 24 (.slice pn ns.length cn),.iface 9 (.string (S [45,62])),.iface 27 (.agg #[.int .i64 k0.kd,.string (S k0.nm),.int .i64 k0.nu,.slice qn0 k0.ns.length dn0,.slice qk0 k0.ks.length dk0])] rfl
  (vs_cons ⟨rfl,by simp⟩ (vs_cons ⟨_,_,rfl,hb1,hsn,hS0⟩ (vs_cons ⟨rfl,by simp⟩ (vs_cons ⟨_,rfl,hE0,hks k0 (by simp)⟩ vs_nil)))) (by simp [ptsw,ptw,pExpr,pAtom,pOpn,pStrs,pStr,p0w];omega) hlv hG1 hT1 hBd (w.heap.size+1) 4 hWs rfl (by omega))
 have A1:Hid (ptsA lv [pOpn [92],pStrs ns,pStr [45,62],pExpr k0] st=ptA lv (pExpr ⟨4,nm,nu,ns,k0 :: r0⟩) st):=ptsA_is rfl (by simp [ptW,pExpr,pAtom,pOpn,pStrs,pStr,p0W,ws_eq ⟨4,nm,nu,ns,k0 :: r0⟩,wsF,g0]) st
 simp only [Nat.zero_mul,Nat.one_mul,Nat.add_zero] at a00 a01 a02 a03 a04
 rw [← hcc] at a00 a01 a02 a03 a04
 have c0:=hH.cell 0;have c1:=hH.cell 1;have c2:=hH.cell 2;have c3:=hH.cell 3;have c4:=hH.cell 4
 simp only [lGA,lGS,lGZ] at c0 c1 c2 c3 c4
 have HK:=zz hK
 have hlb:b<W.heap.size:=by omega
 have hlw:w.heap.size<W.heap.size:=by omega
 have HS:Hid (∀ w',KP (fun b=>P b∨b=w.heap.size) W w'→(w'.cell? ⟨w.heap.size,3,none⟩=some (.slice pn ns.length cn)∧w'.cell? ⟨b,o,none⟩=some (.int .i64 k0.kd)∧w'.cell? ⟨b,o+1,none⟩=some (.string (S k0.nm))∧w'.cell? ⟨b,o+2,none⟩=some (.int .i64 k0.nu)∧w'.cell? ⟨b,o+3,none⟩=some (.slice qn0 k0.ns.length dn0)∧w'.cell? ⟨b,o+4,none⟩=some (.slice qk0 k0.ks.length dk0))):=fun w' k=>⟨(k.cell (.inr rfl) _).trans c3,(k.cell (.inl hb) _).trans a00,(k.cell (.inl hb) _).trans a01,(k.cell (.inl hb) _).trans a02,(k.cell (.inl hb) _).trans a03,(k.cell (.inl hb) _).trans a04⟩
 clear hm hE hEM hSM hT hG IH hB hBd hH hcc hsn hsk hks hT1 hG1 hK hS0 hb hnm hnu hw2 hE0 hI0
 go_enter Tryz.func207,Tryz.ntmps207
 go_wp2_with fail
 rw [← hW]
 clear hW
 go_region_held3 (fun w'=>w'.cell? ⟨w.heap.size,3,none⟩=some (.slice pn ns.length cn)∧w'.cell? ⟨b,o,none⟩=some (.int .i64 k0.kd)∧w'.cell? ⟨b,o+1,none⟩=some (.string (S k0.nm))∧w'.cell? ⟨b,o+2,none⟩=some (.int .i64 k0.nu)∧w'.cell? ⟨b,o+3,none⟩=some (.slice qn0 k0.ns.length dn0)∧w'.cell? ⟨b,o+4,none⟩=some (.slice qk0 k0.ks.length dk0)) (first | go_keep | (exact HS.out _ hK')) (first | (go_at_call 168;refine H1.out.mono ?_;rintro e' w' ⟨rfl,hT',hK'⟩))
 have HT':=zz hT'
 have HK':=zz hK'
 clear hT' hK'
 go_wp2_with fail
 go_end0
 exact ⟨rfl,by rw [← A1.out];exact HT'.out.weak fun b hb=>.inl hb,HK.out.trans (HK'.out.mono fun b hb=>.inl hb)⟩
theorem expr5 {n:Nat} (IH:PutOK n) {P:Nat→Prop} {t:Nat} {st:St} {lv:Nat} {w:World} {nm:List UInt8} {nu:Int} {ns:List (List UInt8)} {ks:List Tr} {cs:List Value} (hw:tw ⟨5,nm,nu,ns,ks⟩≤n+1) (hlv:lv≤30) (hG:GP P w) (hT:TX P t st lv w) (hE:TrIn P w ⟨5,nm,nu,ns,ks⟩ cs) (hs:shp ⟨5,nm,nu,ns,ks⟩=true) :
 Calls Tryz.prog 207 #[.pointer (some ⟨t,0,none⟩),.agg cs.toArray] w fun e' w'=>e'=.returned (.tuple #[])∧TX P t (ptA lv (pExpr ⟨5,nm,nu,ns,ks⟩) st) lv w'∧KP P w w':=by
 obtain ⟨pn,cn,pk,ck,rfl,hnm,hnu,hsn,hsk,hSM,hEM⟩:=(TrIn_iff _ _ _ _).1 hE
 rw [shp_eq] at hs
 simp at hs
 rw [tw_eq] at hw
 simp only at *
 obtain ⟨⟨⟨hb1,hb2⟩,hk1⟩,hks⟩:=hs
 obtain ⟨k0,r0,rfl⟩:∃ k r,ks=k :: r:=by cases ks with | nil=>simp at hk1 | cons a r=>exact ⟨a,r,rfl⟩
 obtain ⟨k1,r1,rfl⟩:∃ k r,r0=k :: r:=by cases r0 with | nil=>simp at hk1 | cons a r=>exact ⟨a,r,rfl⟩
 have hk2:2≤(k0 :: k1 :: r1).length:=by simp
 obtain ⟨b,o,rfl,hb,hm⟩:=kid_cells hEM (by simp)
 obtain ⟨qn0,dn0,qk0,dk0,hI0,a00,a01,a02,a03,a04⟩:=hm 0 k0 rfl
 obtain ⟨qn1,dn1,qk1,dk1,hI1,a10,a11,a12,a13,a14⟩:=hm 1 k1 rfl
 have hbl:=hT.lt b hb
 have hww:((k0 :: k1 :: r1).map fun k=>tw k+3).sum=(tw k0+3)+(tw k1+3)+((r1).map fun k=>tw k+3).sum:=by simp;try omega
 generalize hnk:(k0 :: k1 :: r1).length=nk at *
 have hn0:(0:Int)<nk:=by omega
 have hm0:0<nk:=by omega
 have hn1:(1:Int)<nk:=by omega
 have hm1:1<nk:=by omega
 have hw2:8+ns.length+((tw k0+3)+(tw k1+3))≤n+1:=by omega
 clear hnk hk1 hb2 hk2 hw hww
 obtain ⟨W,hW⟩:∃ W,W=w.alloc (.cells #[.int .i64 5,.string (S nm),.int .i64 nu,.slice pn ns.length cn,.slice (some ⟨b,o,none⟩) nk ck] 27):=⟨_,rfl⟩
 have hB:Below w.heap.size w W:=by rw [hW];exact (Below.refl _ w).alloc (Nat.le_refl _) _
 have hK:KP P w W:=KP.of_below hB hT.lt
 have hT1:TX (fun b=>P b∨b=w.heap.size) t st lv W:=by rw [hW];exact hT.new _
 have hG1:GP (fun b=>P b∨b=w.heap.size) W:=hG.keep hK fun b hb=>.inl hb
 have hWs:W.heap.size=w.heap.size+1:=by rw [hW];simp
 have hBd:Below W.heap.size W W.drew:=⟨rfl,rfl,rfl,Nat.le_refl _,fun _ _=>rfl⟩
 have hcc:∀ x,W.cell? ⟨b,x,none⟩=w.cell? ⟨b,x,none⟩:=fun x=>hB.cell (p:=⟨b,x,none⟩) hbl
 have hH:Hold w.heap.size #[.int .i64 5,.string (S nm),.int .i64 nu,.slice pn ns.length cn,.slice (some ⟨b,o,none⟩) nk ck] 27 W:=by rw [hW];exact Hold.new w _ 27
 have hE0:=TrIn.keep hK (Q:=fun b=>P b∨b=w.heap.size) (fun b hb=>Or.inl hb) k0 _ hI0
 have hE1:=TrIn.keep hK (Q:=fun b=>P b∨b=w.heap.size) (fun b hb=>Or.inl hb) k1 _ hI1
 have hS0:=(hSM.keep hK).mono (Q:=fun b=>P b∨b=w.heap.size) fun b hb=>Or.inl hb
 have H1:=zz (put_new IH [pAtom k0,pAtom k1] [.iface 219 (.agg #[.int .i64 k0.kd,.string (S k0.nm),.int .i64 k0.nu,.slice qn0 k0.ns.length dn0,.slice qk0 k0.ks.length dk0]),.iface 219 (.agg #[.int .i64 k1.kd,.string (S k1.nm),.int .i64 k1.nu,.slice qn1 k1.ns.length dn1,.slice qk1 k1.ks.length dk1])] rfl
  (vs_cons ⟨_,rfl,hE0,hks k0 (by simp)⟩ (vs_cons ⟨_,rfl,hE1,hks k1 (by simp)⟩ vs_nil)) (by simp [ptsw,ptw,pExpr,pAtom,pOpn,pStrs,pStr,p0w];omega) hlv hG1 hT1 hBd (w.heap.size+1) 2 hWs rfl (by omega))
 have A1:Hid (ptsA lv [pAtom k0,pAtom k1] st=ptA lv (pExpr ⟨5,nm,nu,ns,k0 :: k1 :: r1⟩) st):=ptsA_is rfl (by simp [ptW,pExpr,pAtom,pOpn,pStrs,pStr,p0W,ws_eq ⟨5,nm,nu,ns,k0 :: k1 :: r1⟩,wsF,g0]) st
 simp only [Nat.zero_mul,Nat.one_mul,Nat.add_zero] at a00 a01 a02 a03 a04 a10 a11 a12 a13 a14
 rw [← hcc] at a00 a01 a02 a03 a04 a10 a11 a12 a13 a14
 have c0:=hH.cell 0;have c1:=hH.cell 1;have c2:=hH.cell 2;have c3:=hH.cell 3;have c4:=hH.cell 4
 simp only [lGA,lGS,lGZ] at c0 c1 c2 c3 c4
 have HK:=zz hK
 have hlb:b<W.heap.size:=by omega
 have hlw:w.heap.size<W.heap.size:=by omega
 have HS:Hid (∀ w',KP (fun b=>P b∨b=w.heap.size) W w'→(w'.cell? ⟨b,o,none⟩=some (.int .i64 k0.kd)∧w'.cell? ⟨b,o+1,none⟩=some (.string (S k0.nm))∧w'.cell? ⟨b,o+2,none⟩=some (.int .i64 k0.nu)∧w'.cell? ⟨b,o+3,none⟩=some (.slice qn0 k0.ns.length dn0)∧w'.cell? ⟨b,o+4,none⟩=some (.slice qk0 k0.ks.length dk0)∧w'.cell? ⟨b,o+5,none⟩=some (.int .i64 k1.kd)∧w'.cell? ⟨b,o+5+1,none⟩=some (.string (S k1.nm))∧w'.cell? ⟨b,o+5+2,none⟩=some (.int .i64 k1.nu)∧w'.cell? ⟨b,o+5+3,none⟩=some (.slice qn1 k1.ns.length dn1)∧w'.cell? ⟨b,o+5+4,none⟩=some (.slice qk1 k1.ks.length dk1))):=fun w' k=>⟨(k.cell (.inl hb) _).trans a00,(k.cell (.inl hb) _).trans a01,(k.cell (.inl hb) _).trans a02,(k.cell (.inl hb) _).trans a03,(k.cell (.inl hb) _).trans a04,(k.cell (.inl hb) _).trans a10,(k.cell (.inl hb) _).trans a11,(k.cell (.inl hb) _).trans a12,(k.cell (.inl hb) _).trans a13,(k.cell (.inl hb) _).trans a14⟩
 clear hm hE hEM hSM hT hG IH hB hBd hH hcc hsn hsk hks hT1 hG1 hK hS0 hb hnm hnu hw2 hE0 hI0 hE1 hI1
 go_enter Tryz.func207,Tryz.ntmps207
 go_wp2_with fail
 rw [← hW]
 clear hW
 go_region_held3 (fun w'=>w'.cell? ⟨b,o,none⟩=some (.int .i64 k0.kd)∧w'.cell? ⟨b,o+1,none⟩=some (.string (S k0.nm))∧w'.cell? ⟨b,o+2,none⟩=some (.int .i64 k0.nu)∧w'.cell? ⟨b,o+3,none⟩=some (.slice qn0 k0.ns.length dn0)∧w'.cell? ⟨b,o+4,none⟩=some (.slice qk0 k0.ks.length dk0)∧w'.cell? ⟨b,o+5,none⟩=some (.int .i64 k1.kd)∧w'.cell? ⟨b,o+5+1,none⟩=some (.string (S k1.nm))∧w'.cell? ⟨b,o+5+2,none⟩=some (.int .i64 k1.nu)∧w'.cell? ⟨b,o+5+3,none⟩=some (.slice qn1 k1.ns.length dn1)∧w'.cell? ⟨b,o+5+4,none⟩=some (.slice qk1 k1.ks.length dk1)) (first | go_keep | (exact HS.out _ hK')) (first | (go_at_call 168;refine H1.out.mono ?_;rintro e' w' ⟨rfl,hT',hK'⟩))
 have HT':=zz hT'
 have HK':=zz hK'
 clear hT' hK'
 go_wp2_with fail
 go_end0
 exact ⟨rfl,by rw [← A1.out];exact HT'.out.weak fun b hb=>.inl hb,HK.out.trans (HK'.out.mono fun b hb=>.inl hb)⟩
theorem expr6 {n:Nat} (IH:PutOK n) {P:Nat→Prop} {t:Nat} {st:St} {lv:Nat} {w:World} {nm:List UInt8} {nu:Int} {ns:List (List UInt8)} {ks:List Tr} {cs:List Value} (hw:tw ⟨6,nm,nu,ns,ks⟩≤n+1) (hlv:lv≤30) (hG:GP P w) (hT:TX P t st lv w) (hE:TrIn P w ⟨6,nm,nu,ns,ks⟩ cs) (hs:shp ⟨6,nm,nu,ns,ks⟩=true) :
 Calls Tryz.prog 207 #[.pointer (some ⟨t,0,none⟩),.agg cs.toArray] w fun e' w'=>e'=.returned (.tuple #[])∧TX P t (ptA lv (pExpr ⟨6,nm,nu,ns,ks⟩) st) lv w'∧KP P w w':=by
 obtain ⟨pn,cn,pk,ck,rfl,hnm,hnu,hsn,hsk,hSM,hEM⟩:=(TrIn_iff _ _ _ _).1 hE
 rw [shp_eq] at hs
 simp at hs
 rw [tw_eq] at hw
 simp only at *
 obtain ⟨⟨⟨hb1,hb2⟩,hk1⟩,hks⟩:=hs
 obtain ⟨k0,r0,rfl⟩:∃ k r,ks=k :: r:=by cases ks with | nil=>simp at hk1 | cons a r=>exact ⟨a,r,rfl⟩
 obtain ⟨k1,r1,rfl⟩:∃ k r,r0=k :: r:=by cases r0 with | nil=>simp at hk1 | cons a r=>exact ⟨a,r,rfl⟩
 have hk2:2≤(k0 :: k1 :: r1).length:=by simp
 obtain ⟨b,o,rfl,hb,hm⟩:=kid_cells hEM (by simp)
 obtain ⟨qn0,dn0,qk0,dk0,hI0,a00,a01,a02,a03,a04⟩:=hm 0 k0 rfl
 obtain ⟨qn1,dn1,qk1,dk1,hI1,a10,a11,a12,a13,a14⟩:=hm 1 k1 rfl
 have hbl:=hT.lt b hb
 have hww:((k0 :: k1 :: r1).map fun k=>tw k+3).sum=(tw k0+3)+(tw k1+3)+((r1).map fun k=>tw k+3).sum:=by simp;try omega
 generalize hnk:(k0 :: k1 :: r1).length=nk at *
 have hn0:(0:Int)<nk:=by omega
 have hm0:0<nk:=by omega
 have hn1:(1:Int)<nk:=by omega
 have hm1:1<nk:=by omega
 have hw2:8+ns.length+((tw k0+3)+(tw k1+3))≤n+1:=by omega
 clear hnk hk1 hb2 hk2 hw hww
 obtain ⟨W,hW⟩:∃ W,W=w.alloc (.cells #[.int .i64 6,.string (S nm),.int .i64 nu,.slice pn ns.length cn,.slice (some ⟨b,o,none⟩) nk ck] 27):=⟨_,rfl⟩
 have hB:Below w.heap.size w W:=by rw [hW];exact (Below.refl _ w).alloc (Nat.le_refl _) _
 have hK:KP P w W:=KP.of_below hB hT.lt
 have hT1:TX (fun b=>P b∨b=w.heap.size) t st lv W:=by rw [hW];exact hT.new _
 have hG1:GP (fun b=>P b∨b=w.heap.size) W:=hG.keep hK fun b hb=>.inl hb
 have hWs:W.heap.size=w.heap.size+1:=by rw [hW];simp
 have hBd:Below W.heap.size W W.drew:=⟨rfl,rfl,rfl,Nat.le_refl _,fun _ _=>rfl⟩
 have hcc:∀ x,W.cell? ⟨b,x,none⟩=w.cell? ⟨b,x,none⟩:=fun x=>hB.cell (p:=⟨b,x,none⟩) hbl
 have hH:Hold w.heap.size #[.int .i64 6,.string (S nm),.int .i64 nu,.slice pn ns.length cn,.slice (some ⟨b,o,none⟩) nk ck] 27 W:=by rw [hW];exact Hold.new w _ 27
 have hE0:=TrIn.keep hK (Q:=fun b=>P b∨b=w.heap.size) (fun b hb=>Or.inl hb) k0 _ hI0
 have hE1:=TrIn.keep hK (Q:=fun b=>P b∨b=w.heap.size) (fun b hb=>Or.inl hb) k1 _ hI1
 have hS0:=(hSM.keep hK).mono (Q:=fun b=>P b∨b=w.heap.size) fun b hb=>Or.inl hb
 have H1:=zz (put_new IH [pStr [108,101,116],pStrs ns,pStr [61],pExpr k0,pStr [105,110],pExpr k1] [.iface 9 (.string (S [108,101,116])),.iface 24 (.slice pn ns.length cn),.iface 9 (.string (S [61])),.iface 27 (.agg #[.int .i64 k0.kd,.string (S k0.nm),.int .i64 k0.nu,.slice qn0 k0.ns.length dn0,.slice qk0 k0.ks.length dk0]),.iface 9 (.string (S [105,110])),.iface 27 (.agg #[.int .i64 k1.kd,.string (S k1.nm),.int .i64 k1.nu,.slice qn1 k1.ns.length dn1,.slice qk1 k1.ks.length dk1])] rfl
  (vs_cons ⟨rfl,by simp⟩ (vs_cons ⟨_,_,rfl,hb1,hsn,hS0⟩ (vs_cons ⟨rfl,by simp⟩ (vs_cons ⟨_,rfl,hE0,hks k0 (by simp)⟩ (vs_cons ⟨rfl,by simp⟩ (vs_cons ⟨_,rfl,hE1,hks k1 (by simp)⟩ vs_nil)))))) (by simp [ptsw,ptw,pExpr,pAtom,pOpn,pStrs,pStr,p0w];omega) hlv hG1 hT1 hBd (w.heap.size+1) 6 hWs rfl (by omega))
 have A1:Hid (ptsA lv [pStr [108,101,116],pStrs ns,pStr [61],pExpr k0,pStr [105,110],pExpr k1] st=ptA lv (pExpr ⟨6,nm,nu,ns,k0 :: k1 :: r1⟩) st):=ptsA_is rfl (by simp [ptW,pExpr,pAtom,pOpn,pStrs,pStr,p0W,ws_eq ⟨6,nm,nu,ns,k0 :: k1 :: r1⟩,wsF,g0]) st
 simp only [Nat.zero_mul,Nat.one_mul,Nat.add_zero] at a00 a01 a02 a03 a04 a10 a11 a12 a13 a14
 rw [← hcc] at a00 a01 a02 a03 a04 a10 a11 a12 a13 a14
 have c0:=hH.cell 0;have c1:=hH.cell 1;have c2:=hH.cell 2;have c3:=hH.cell 3;have c4:=hH.cell 4
 simp only [lGA,lGS,lGZ] at c0 c1 c2 c3 c4
 have HK:=zz hK
 have hlb:b<W.heap.size:=by omega
 have hlw:w.heap.size<W.heap.size:=by omega
 have HS:Hid (∀ w',KP (fun b=>P b∨b=w.heap.size) W w'→(w'.cell? ⟨w.heap.size,3,none⟩=some (.slice pn ns.length cn)∧w'.cell? ⟨b,o,none⟩=some (.int .i64 k0.kd)∧w'.cell? ⟨b,o+1,none⟩=some (.string (S k0.nm))∧w'.cell? ⟨b,o+2,none⟩=some (.int .i64 k0.nu)∧w'.cell? ⟨b,o+3,none⟩=some (.slice qn0 k0.ns.length dn0)∧w'.cell? ⟨b,o+4,none⟩=some (.slice qk0 k0.ks.length dk0)∧w'.cell? ⟨b,o+5,none⟩=some (.int .i64 k1.kd)∧w'.cell? ⟨b,o+5+1,none⟩=some (.string (S k1.nm))∧w'.cell? ⟨b,o+5+2,none⟩=some (.int .i64 k1.nu)∧w'.cell? ⟨b,o+5+3,none⟩=some (.slice qn1 k1.ns.length dn1)∧w'.cell? ⟨b,o+5+4,none⟩=some (.slice qk1 k1.ks.length dk1))):=fun w' k=>⟨(k.cell (.inr rfl) _).trans c3,(k.cell (.inl hb) _).trans a00,(k.cell (.inl hb) _).trans a01,(k.cell (.inl hb) _).trans a02,(k.cell (.inl hb) _).trans a03,(k.cell (.inl hb) _).trans a04,(k.cell (.inl hb) _).trans a10,(k.cell (.inl hb) _).trans a11,(k.cell (.inl hb) _).trans a12,(k.cell (.inl hb) _).trans a13,(k.cell (.inl hb) _).trans a14⟩
 clear hm hE hEM hSM hT hG IH hB hBd hH hcc hsn hsk hks hT1 hG1 hK hS0 hb hnm hnu hw2 hE0 hI0 hE1 hI1
 go_enter Tryz.func207,Tryz.ntmps207
 go_wp2_with fail
 rw [← hW]
 clear hW
 go_region_held3 (fun w'=>w'.cell? ⟨w.heap.size,3,none⟩=some (.slice pn ns.length cn)∧w'.cell? ⟨b,o,none⟩=some (.int .i64 k0.kd)∧w'.cell? ⟨b,o+1,none⟩=some (.string (S k0.nm))∧w'.cell? ⟨b,o+2,none⟩=some (.int .i64 k0.nu)∧w'.cell? ⟨b,o+3,none⟩=some (.slice qn0 k0.ns.length dn0)∧w'.cell? ⟨b,o+4,none⟩=some (.slice qk0 k0.ks.length dk0)∧w'.cell? ⟨b,o+5,none⟩=some (.int .i64 k1.kd)∧w'.cell? ⟨b,o+5+1,none⟩=some (.string (S k1.nm))∧w'.cell? ⟨b,o+5+2,none⟩=some (.int .i64 k1.nu)∧w'.cell? ⟨b,o+5+3,none⟩=some (.slice qn1 k1.ns.length dn1)∧w'.cell? ⟨b,o+5+4,none⟩=some (.slice qk1 k1.ks.length dk1)) (first | go_keep | (exact HS.out _ hK')) (first | (go_at_call 168;refine H1.out.mono ?_;rintro e' w' ⟨rfl,hT',hK'⟩))
 have HT':=zz hT'
 have HK':=zz hK'
 clear hT' hK'
 go_wp2_with fail
 go_end0
 exact ⟨rfl,by rw [← A1.out];exact HT'.out.weak fun b hb=>.inl hb,HK.out.trans (HK'.out.mono fun b hb=>.inl hb)⟩
theorem expr8 {n:Nat} (IH:PutOK n) {P:Nat→Prop} {t:Nat} {st:St} {lv:Nat} {w:World} {nm:List UInt8} {nu:Int} {ns:List (List UInt8)} {ks:List Tr} {cs:List Value} (hw:tw ⟨8,nm,nu,ns,ks⟩≤n+1) (hlv:lv≤30) (hG:GP P w) (hT:TX P t st lv w) (hE:TrIn P w ⟨8,nm,nu,ns,ks⟩ cs) (hs:shp ⟨8,nm,nu,ns,ks⟩=true) :
 Calls Tryz.prog 207 #[.pointer (some ⟨t,0,none⟩),.agg cs.toArray] w fun e' w'=>e'=.returned (.tuple #[])∧TX P t (ptA lv (pExpr ⟨8,nm,nu,ns,ks⟩) st) lv w'∧KP P w w':=by
 obtain ⟨pn,cn,pk,ck,rfl,hnm,hnu,hsn,hsk,hSM,hEM⟩:=(TrIn_iff _ _ _ _).1 hE
 rw [shp_eq] at hs
 simp at hs
 rw [tw_eq] at hw
 simp only at *
 obtain ⟨⟨⟨hb1,hb2⟩,hk1⟩,hks⟩:=hs
 obtain ⟨k0,r0,rfl⟩:∃ k r,ks=k :: r:=by cases ks with | nil=>simp at hk1 | cons a r=>exact ⟨a,r,rfl⟩
 have hk2:1≤(k0 :: r0).length:=by simp
 obtain ⟨b,o,rfl,hb,hm⟩:=kid_cells hEM (by simp)
 obtain ⟨qn0,dn0,qk0,dk0,hI0,a00,a01,a02,a03,a04⟩:=hm 0 k0 rfl
 have hbl:=hT.lt b hb
 have hww:((k0 :: r0).map fun k=>tw k+3).sum=(tw k0+3)+((r0).map fun k=>tw k+3).sum:=by simp;try omega
 generalize hnk:(k0 :: r0).length=nk at *
 have hn0:(0:Int)<nk:=by omega
 have hm0:0<nk:=by omega
 have hw2:8+ns.length+((tw k0+3))≤n+1:=by omega
 clear hnk hk1 hb2 hk2 hw hww
 obtain ⟨W,hW⟩:∃ W,W=w.alloc (.cells #[.int .i64 8,.string (S nm),.int .i64 nu,.slice pn ns.length cn,.slice (some ⟨b,o,none⟩) nk ck] 27):=⟨_,rfl⟩
 have hB:Below w.heap.size w W:=by rw [hW];exact (Below.refl _ w).alloc (Nat.le_refl _) _
 have hK:KP P w W:=KP.of_below hB hT.lt
 have hT1:TX (fun b=>P b∨b=w.heap.size) t st lv W:=by rw [hW];exact hT.new _
 have hG1:GP (fun b=>P b∨b=w.heap.size) W:=hG.keep hK fun b hb=>.inl hb
 have hWs:W.heap.size=w.heap.size+1:=by rw [hW];simp
 have hBd:Below W.heap.size W W.drew:=⟨rfl,rfl,rfl,Nat.le_refl _,fun _ _=>rfl⟩
 have hcc:∀ x,W.cell? ⟨b,x,none⟩=w.cell? ⟨b,x,none⟩:=fun x=>hB.cell (p:=⟨b,x,none⟩) hbl
 have hH:Hold w.heap.size #[.int .i64 8,.string (S nm),.int .i64 nu,.slice pn ns.length cn,.slice (some ⟨b,o,none⟩) nk ck] 27 W:=by rw [hW];exact Hold.new w _ 27
 have hE0:=TrIn.keep hK (Q:=fun b=>P b∨b=w.heap.size) (fun b hb=>Or.inl hb) k0 _ hI0
 have hS0:=(hSM.keep hK).mono (Q:=fun b=>P b∨b=w.heap.size) fun b hb=>Or.inl hb
 have H1:=zz (put_new IH [pStr nm,pStrs ns,pStr [45,62],pExpr k0] [.iface 9 (.string (S nm)),.iface 24 (.slice pn ns.length cn),.iface 9 (.string (S [45,62])),.iface 27 (.agg #[.int .i64 k0.kd,.string (S k0.nm),.int .i64 k0.nu,.slice qn0 k0.ns.length dn0,.slice qk0 k0.ks.length dk0])] rfl
  (vs_cons ⟨rfl,hnm⟩ (vs_cons ⟨_,_,rfl,hb1,hsn,hS0⟩ (vs_cons ⟨rfl,by simp⟩ (vs_cons ⟨_,rfl,hE0,hks k0 (by simp)⟩ vs_nil)))) (by simp [ptsw,ptw,pExpr,pAtom,pOpn,pStrs,pStr,p0w];omega) hlv hG1 hT1 hBd (w.heap.size+1) 4 hWs rfl (by omega))
 have A1:Hid (ptsA lv [pStr nm,pStrs ns,pStr [45,62],pExpr k0] st=ptA lv (pExpr ⟨8,nm,nu,ns,k0 :: r0⟩) st):=ptsA_is rfl (by simp [ptW,pExpr,pAtom,pOpn,pStrs,pStr,p0W,ws_eq ⟨8,nm,nu,ns,k0 :: r0⟩,wsF,g0]) st
 simp only [Nat.zero_mul,Nat.one_mul,Nat.add_zero] at a00 a01 a02 a03 a04
 rw [← hcc] at a00 a01 a02 a03 a04
 have c0:=hH.cell 0;have c1:=hH.cell 1;have c2:=hH.cell 2;have c3:=hH.cell 3;have c4:=hH.cell 4
 simp only [lGA,lGS,lGZ] at c0 c1 c2 c3 c4
 have HK:=zz hK
 have hlb:b<W.heap.size:=by omega
 have hlw:w.heap.size<W.heap.size:=by omega
 have HS:Hid (∀ w',KP (fun b=>P b∨b=w.heap.size) W w'→(w'.cell? ⟨w.heap.size,1,none⟩=some (.string (S nm))∧w'.cell? ⟨w.heap.size,3,none⟩=some (.slice pn ns.length cn)∧w'.cell? ⟨b,o,none⟩=some (.int .i64 k0.kd)∧w'.cell? ⟨b,o+1,none⟩=some (.string (S k0.nm))∧w'.cell? ⟨b,o+2,none⟩=some (.int .i64 k0.nu)∧w'.cell? ⟨b,o+3,none⟩=some (.slice qn0 k0.ns.length dn0)∧w'.cell? ⟨b,o+4,none⟩=some (.slice qk0 k0.ks.length dk0))):=fun w' k=>⟨(k.cell (.inr rfl) _).trans c1,(k.cell (.inr rfl) _).trans c3,(k.cell (.inl hb) _).trans a00,(k.cell (.inl hb) _).trans a01,(k.cell (.inl hb) _).trans a02,(k.cell (.inl hb) _).trans a03,(k.cell (.inl hb) _).trans a04⟩
 clear hm hE hEM hSM hT hG IH hB hBd hH hcc hsn hsk hks hT1 hG1 hK hS0 hb hnm hnu hw2 hE0 hI0
 go_enter Tryz.func207,Tryz.ntmps207
 go_wp2_with fail
 rw [← hW]
 clear hW
 go_region_held3 (fun w'=>w'.cell? ⟨w.heap.size,1,none⟩=some (.string (S nm))∧w'.cell? ⟨w.heap.size,3,none⟩=some (.slice pn ns.length cn)∧w'.cell? ⟨b,o,none⟩=some (.int .i64 k0.kd)∧w'.cell? ⟨b,o+1,none⟩=some (.string (S k0.nm))∧w'.cell? ⟨b,o+2,none⟩=some (.int .i64 k0.nu)∧w'.cell? ⟨b,o+3,none⟩=some (.slice qn0 k0.ns.length dn0)∧w'.cell? ⟨b,o+4,none⟩=some (.slice qk0 k0.ks.length dk0)) (first | go_keep | (exact HS.out _ hK')) (first | (go_at_call 168;refine H1.out.mono ?_;rintro e' w' ⟨rfl,hT',hK'⟩))
 have HT':=zz hT'
 have HK':=zz hK'
 clear hT' hK'
 go_wp2_with fail
 go_end0
 exact ⟨rfl,by rw [← A1.out];exact HT'.out.weak fun b hb=>.inl hb,HK.out.trans (HK'.out.mono fun b hb=>.inl hb)⟩
theorem expr9 {n:Nat} (IH:PutOK n) {P:Nat→Prop} {t:Nat} {st:St} {lv:Nat} {w:World} {nm:List UInt8} {nu:Int} {ns:List (List UInt8)} {ks:List Tr} {cs:List Value} (hw:tw ⟨9,nm,nu,ns,ks⟩≤n+1) (hlv:lv≤30) (hG:GP P w) (hT:TX P t st lv w) (hE:TrIn P w ⟨9,nm,nu,ns,ks⟩ cs) (hs:shp ⟨9,nm,nu,ns,ks⟩=true) :
 Calls Tryz.prog 207 #[.pointer (some ⟨t,0,none⟩),.agg cs.toArray] w fun e' w'=>e'=.returned (.tuple #[])∧TX P t (ptA lv (pExpr ⟨9,nm,nu,ns,ks⟩) st) lv w'∧KP P w w':=by
 obtain ⟨pn,cn,pk,ck,rfl,hnm,hnu,hsn,hsk,hSM,hEM⟩:=(TrIn_iff _ _ _ _).1 hE
 rw [shp_eq] at hs
 simp at hs
 rw [tw_eq] at hw
 simp only at *
 obtain ⟨⟨⟨hb1,hb2⟩,hk1⟩,hks⟩:=hs
 obtain ⟨k0,r0,rfl⟩:∃ k r,ks=k :: r:=by cases ks with | nil=>simp at hk1 | cons a r=>exact ⟨a,r,rfl⟩
 obtain ⟨k1,r1,rfl⟩:∃ k r,r0=k :: r:=by cases r0 with | nil=>simp at hk1 | cons a r=>exact ⟨a,r,rfl⟩
 have hk2:2≤(k0 :: k1 :: r1).length:=by simp
 obtain ⟨b,o,rfl,hb,hm⟩:=kid_cells hEM (by simp)
 obtain ⟨qn0,dn0,qk0,dk0,hI0,a00,a01,a02,a03,a04⟩:=hm 0 k0 rfl
 obtain ⟨qn1,dn1,qk1,dk1,hI1,a10,a11,a12,a13,a14⟩:=hm 1 k1 rfl
 have hbl:=hT.lt b hb
 have hww:((k0 :: k1 :: r1).map fun k=>tw k+3).sum=(tw k0+3)+(tw k1+3)+((r1).map fun k=>tw k+3).sum:=by simp;try omega
 generalize hnk:(k0 :: k1 :: r1).length=nk at *
 have hn0:(0:Int)<nk:=by omega
 have hm0:0<nk:=by omega
 have hn1:(1:Int)<nk:=by omega
 have hm1:1<nk:=by omega
 have hw2:8+ns.length+((tw k0+3)+(tw k1+3))≤n+1:=by omega
 clear hnk hk1 hb2 hk2 hw hww
 obtain ⟨W,hW⟩:∃ W,W=w.alloc (.cells #[.int .i64 9,.string (S nm),.int .i64 nu,.slice pn ns.length cn,.slice (some ⟨b,o,none⟩) nk ck] 27):=⟨_,rfl⟩
 have hB:Below w.heap.size w W:=by rw [hW];exact (Below.refl _ w).alloc (Nat.le_refl _) _
 have hK:KP P w W:=KP.of_below hB hT.lt
 have hT1:TX (fun b=>P b∨b=w.heap.size) t st lv W:=by rw [hW];exact hT.new _
 have hG1:GP (fun b=>P b∨b=w.heap.size) W:=hG.keep hK fun b hb=>.inl hb
 have hWs:W.heap.size=w.heap.size+1:=by rw [hW];simp
 have hBd:Below W.heap.size W W.drew:=⟨rfl,rfl,rfl,Nat.le_refl _,fun _ _=>rfl⟩
 have hcc:∀ x,W.cell? ⟨b,x,none⟩=w.cell? ⟨b,x,none⟩:=fun x=>hB.cell (p:=⟨b,x,none⟩) hbl
 have hH:Hold w.heap.size #[.int .i64 9,.string (S nm),.int .i64 nu,.slice pn ns.length cn,.slice (some ⟨b,o,none⟩) nk ck] 27 W:=by rw [hW];exact Hold.new w _ 27
 have hE0:=TrIn.keep hK (Q:=fun b=>P b∨b=w.heap.size) (fun b hb=>Or.inl hb) k0 _ hI0
 have hE1:=TrIn.keep hK (Q:=fun b=>P b∨b=w.heap.size) (fun b hb=>Or.inl hb) k1 _ hI1
 have hS0:=(hSM.keep hK).mono (Q:=fun b=>P b∨b=w.heap.size) fun b hb=>Or.inl hb
 have H1:=zz (put_new IH [pAtom k0,pStr nm,pAtom k1] [.iface 219 (.agg #[.int .i64 k0.kd,.string (S k0.nm),.int .i64 k0.nu,.slice qn0 k0.ns.length dn0,.slice qk0 k0.ks.length dk0]),.iface 9 (.string (S nm)),.iface 219 (.agg #[.int .i64 k1.kd,.string (S k1.nm),.int .i64 k1.nu,.slice qn1 k1.ns.length dn1,.slice qk1 k1.ks.length dk1])] rfl
  (vs_cons ⟨_,rfl,hE0,hks k0 (by simp)⟩ (vs_cons ⟨rfl,hnm⟩ (vs_cons ⟨_,rfl,hE1,hks k1 (by simp)⟩ vs_nil))) (by simp [ptsw,ptw,pExpr,pAtom,pOpn,pStrs,pStr,p0w];omega) hlv hG1 hT1 hBd (w.heap.size+1) 3 hWs rfl (by omega))
 have A1:Hid (ptsA lv [pAtom k0,pStr nm,pAtom k1] st=ptA lv (pExpr ⟨9,nm,nu,ns,k0 :: k1 :: r1⟩) st):=ptsA_is rfl (by simp [ptW,pExpr,pAtom,pOpn,pStrs,pStr,p0W,ws_eq ⟨9,nm,nu,ns,k0 :: k1 :: r1⟩,wsF,g0]) st
 simp only [Nat.zero_mul,Nat.one_mul,Nat.add_zero] at a00 a01 a02 a03 a04 a10 a11 a12 a13 a14
 rw [← hcc] at a00 a01 a02 a03 a04 a10 a11 a12 a13 a14
 have c0:=hH.cell 0;have c1:=hH.cell 1;have c2:=hH.cell 2;have c3:=hH.cell 3;have c4:=hH.cell 4
 simp only [lGA,lGS,lGZ] at c0 c1 c2 c3 c4
 have HK:=zz hK
 have hlb:b<W.heap.size:=by omega
 have hlw:w.heap.size<W.heap.size:=by omega
 have HS:Hid (∀ w',KP (fun b=>P b∨b=w.heap.size) W w'→(w'.cell? ⟨w.heap.size,1,none⟩=some (.string (S nm))∧w'.cell? ⟨b,o,none⟩=some (.int .i64 k0.kd)∧w'.cell? ⟨b,o+1,none⟩=some (.string (S k0.nm))∧w'.cell? ⟨b,o+2,none⟩=some (.int .i64 k0.nu)∧w'.cell? ⟨b,o+3,none⟩=some (.slice qn0 k0.ns.length dn0)∧w'.cell? ⟨b,o+4,none⟩=some (.slice qk0 k0.ks.length dk0)∧w'.cell? ⟨b,o+5,none⟩=some (.int .i64 k1.kd)∧w'.cell? ⟨b,o+5+1,none⟩=some (.string (S k1.nm))∧w'.cell? ⟨b,o+5+2,none⟩=some (.int .i64 k1.nu)∧w'.cell? ⟨b,o+5+3,none⟩=some (.slice qn1 k1.ns.length dn1)∧w'.cell? ⟨b,o+5+4,none⟩=some (.slice qk1 k1.ks.length dk1))):=fun w' k=>⟨(k.cell (.inr rfl) _).trans c1,(k.cell (.inl hb) _).trans a00,(k.cell (.inl hb) _).trans a01,(k.cell (.inl hb) _).trans a02,(k.cell (.inl hb) _).trans a03,(k.cell (.inl hb) _).trans a04,(k.cell (.inl hb) _).trans a10,(k.cell (.inl hb) _).trans a11,(k.cell (.inl hb) _).trans a12,(k.cell (.inl hb) _).trans a13,(k.cell (.inl hb) _).trans a14⟩
 clear hm hE hEM hSM hT hG IH hB hBd hH hcc hsn hsk hks hT1 hG1 hK hS0 hb hnm hnu hw2 hE0 hI0 hE1 hI1
 go_enter Tryz.func207,Tryz.ntmps207
 go_wp2_with fail
 rw [← hW]
 clear hW
 go_region_held3 (fun w'=>w'.cell? ⟨w.heap.size,1,none⟩=some (.string (S nm))∧w'.cell? ⟨b,o,none⟩=some (.int .i64 k0.kd)∧w'.cell? ⟨b,o+1,none⟩=some (.string (S k0.nm))∧w'.cell? ⟨b,o+2,none⟩=some (.int .i64 k0.nu)∧w'.cell? ⟨b,o+3,none⟩=some (.slice qn0 k0.ns.length dn0)∧w'.cell? ⟨b,o+4,none⟩=some (.slice qk0 k0.ks.length dk0)∧w'.cell? ⟨b,o+5,none⟩=some (.int .i64 k1.kd)∧w'.cell? ⟨b,o+5+1,none⟩=some (.string (S k1.nm))∧w'.cell? ⟨b,o+5+2,none⟩=some (.int .i64 k1.nu)∧w'.cell? ⟨b,o+5+3,none⟩=some (.slice qn1 k1.ns.length dn1)∧w'.cell? ⟨b,o+5+4,none⟩=some (.slice qk1 k1.ks.length dk1)) (first | go_keep | (exact HS.out _ hK')) (first | (go_at_call 168;refine H1.out.mono ?_;rintro e' w' ⟨rfl,hT',hK'⟩))
 have HT':=zz hT'
 have HK':=zz hK'
 clear hT' hK'
 go_wp2_with fail
 go_end0
 exact ⟨rfl,by rw [← A1.out];exact HT'.out.weak fun b hb=>.inl hb,HK.out.trans (HK'.out.mono fun b hb=>.inl hb)⟩
theorem expr10 {n:Nat} (IH:PutOK n) {P:Nat→Prop} {t:Nat} {st:St} {lv:Nat} {w:World} {nm:List UInt8} {nu:Int} {ns:List (List UInt8)} {ks:List Tr} {cs:List Value} (hw:tw ⟨10,nm,nu,ns,ks⟩≤n+1) (hlv:lv≤30) (hG:GP P w) (hT:TX P t st lv w) (hE:TrIn P w ⟨10,nm,nu,ns,ks⟩ cs) (hs:shp ⟨10,nm,nu,ns,ks⟩=true) :
 Calls Tryz.prog 207 #[.pointer (some ⟨t,0,none⟩),.agg cs.toArray] w fun e' w'=>e'=.returned (.tuple #[])∧TX P t (ptA lv (pExpr ⟨10,nm,nu,ns,ks⟩) st) lv w'∧KP P w w':=by
 obtain ⟨pn,cn,pk,ck,rfl,hnm,hnu,hsn,hsk,hSM,hEM⟩:=(TrIn_iff _ _ _ _).1 hE
 rw [shp_eq] at hs
 simp at hs
 rw [tw_eq] at hw
 simp only at *
 obtain ⟨⟨⟨hb1,hb2⟩,hk1⟩,hks⟩:=hs
 obtain ⟨k0,r0,rfl⟩:∃ k r,ks=k :: r:=by cases ks with | nil=>simp at hk1 | cons a r=>exact ⟨a,r,rfl⟩
 obtain ⟨k1,r1,rfl⟩:∃ k r,r0=k :: r:=by cases r0 with | nil=>simp at hk1 | cons a r=>exact ⟨a,r,rfl⟩
 obtain ⟨k2,r2,rfl⟩:∃ k r,r1=k :: r:=by cases r1 with | nil=>simp at hk1 | cons a r=>exact ⟨a,r,rfl⟩
 have hk2:3≤(k0 :: k1 :: k2 :: r2).length:=by simp
 obtain ⟨b,o,rfl,hb,hm⟩:=kid_cells hEM (by simp)
 obtain ⟨qn0,dn0,qk0,dk0,hI0,a00,a01,a02,a03,a04⟩:=hm 0 k0 rfl
 obtain ⟨qn1,dn1,qk1,dk1,hI1,a10,a11,a12,a13,a14⟩:=hm 1 k1 rfl
 obtain ⟨qn2,dn2,qk2,dk2,hI2,a20,a21,a22,a23,a24⟩:=hm 2 k2 rfl
 have hbl:=hT.lt b hb
 have hww:((k0 :: k1 :: k2 :: r2).map fun k=>tw k+3).sum=(tw k0+3)+(tw k1+3)+(tw k2+3)+((r2).map fun k=>tw k+3).sum:=by simp;try omega
 generalize hnk:(k0 :: k1 :: k2 :: r2).length=nk at *
 have hn0:(0:Int)<nk:=by omega
 have hm0:0<nk:=by omega
 have hn1:(1:Int)<nk:=by omega
 have hm1:1<nk:=by omega
 have hn2:(2:Int)<nk:=by omega
 have hm2:2<nk:=by omega
 have hw2:8+ns.length+((tw k0+3)+(tw k1+3)+(tw k2+3))≤n+1:=by omega
 clear hnk hk1 hb2 hk2 hw hww
 obtain ⟨W,hW⟩:∃ W,W=w.alloc (.cells #[.int .i64 10,.string (S nm),.int .i64 nu,.slice pn ns.length cn,.slice (some ⟨b,o,none⟩) nk ck] 27):=⟨_,rfl⟩
 have hB:Below w.heap.size w W:=by rw [hW];exact (Below.refl _ w).alloc (Nat.le_refl _) _
 have hK:KP P w W:=KP.of_below hB hT.lt
 have hT1:TX (fun b=>P b∨b=w.heap.size) t st lv W:=by rw [hW];exact hT.new _
 have hG1:GP (fun b=>P b∨b=w.heap.size) W:=hG.keep hK fun b hb=>.inl hb
 have hWs:W.heap.size=w.heap.size+1:=by rw [hW];simp
 have hBd:Below W.heap.size W W.drew:=⟨rfl,rfl,rfl,Nat.le_refl _,fun _ _=>rfl⟩
 have hcc:∀ x,W.cell? ⟨b,x,none⟩=w.cell? ⟨b,x,none⟩:=fun x=>hB.cell (p:=⟨b,x,none⟩) hbl
 have hH:Hold w.heap.size #[.int .i64 10,.string (S nm),.int .i64 nu,.slice pn ns.length cn,.slice (some ⟨b,o,none⟩) nk ck] 27 W:=by rw [hW];exact Hold.new w _ 27
 have hE0:=TrIn.keep hK (Q:=fun b=>P b∨b=w.heap.size) (fun b hb=>Or.inl hb) k0 _ hI0
 have hE1:=TrIn.keep hK (Q:=fun b=>P b∨b=w.heap.size) (fun b hb=>Or.inl hb) k1 _ hI1
 have hE2:=TrIn.keep hK (Q:=fun b=>P b∨b=w.heap.size) (fun b hb=>Or.inl hb) k2 _ hI2
 have hS0:=(hSM.keep hK).mono (Q:=fun b=>P b∨b=w.heap.size) fun b hb=>Or.inl hb
 have H1:=zz (put_new IH [pStr [105,102],pExpr k0,pStr [116,104,101,110],pExpr k1,pStr [101,108,115,101],pExpr k2] [.iface 9 (.string (S [105,102])),.iface 27 (.agg #[.int .i64 k0.kd,.string (S k0.nm),.int .i64 k0.nu,.slice qn0 k0.ns.length dn0,.slice qk0 k0.ks.length dk0]),.iface 9 (.string (S [116,104,101,110])),.iface 27 (.agg #[.int .i64 k1.kd,.string (S k1.nm),.int .i64 k1.nu,.slice qn1 k1.ns.length dn1,.slice qk1 k1.ks.length dk1]),.iface 9 (.string (S [101,108,115,101])),.iface 27 (.agg #[.int .i64 k2.kd,.string (S k2.nm),.int .i64 k2.nu,.slice qn2 k2.ns.length dn2,.slice qk2 k2.ks.length dk2])] rfl
  (vs_cons ⟨rfl,by simp⟩ (vs_cons ⟨_,rfl,hE0,hks k0 (by simp)⟩ (vs_cons ⟨rfl,by simp⟩ (vs_cons ⟨_,rfl,hE1,hks k1 (by simp)⟩ (vs_cons ⟨rfl,by simp⟩ (vs_cons ⟨_,rfl,hE2,hks k2 (by simp)⟩ vs_nil)))))) (by simp [ptsw,ptw,pExpr,pAtom,pOpn,pStrs,pStr,p0w];omega) hlv hG1 hT1 hBd (w.heap.size+1) 6 hWs rfl (by omega))
 have A1:Hid (ptsA lv [pStr [105,102],pExpr k0,pStr [116,104,101,110],pExpr k1,pStr [101,108,115,101],pExpr k2] st=ptA lv (pExpr ⟨10,nm,nu,ns,k0 :: k1 :: k2 :: r2⟩) st):=ptsA_is rfl (by simp [ptW,pExpr,pAtom,pOpn,pStrs,pStr,p0W,ws_eq ⟨10,nm,nu,ns,k0 :: k1 :: k2 :: r2⟩,wsF,g0]) st
 simp only [Nat.zero_mul,Nat.one_mul,Nat.add_zero] at a00 a01 a02 a03 a04 a10 a11 a12 a13 a14 a20 a21 a22 a23 a24
 rw [← hcc] at a00 a01 a02 a03 a04 a10 a11 a12 a13 a14 a20 a21 a22 a23 a24
 have c0:=hH.cell 0;have c1:=hH.cell 1;have c2:=hH.cell 2;have c3:=hH.cell 3;have c4:=hH.cell 4
 simp only [lGA,lGS,lGZ] at c0 c1 c2 c3 c4
 have HK:=zz hK
 have hlb:b<W.heap.size:=by omega
 have hlw:w.heap.size<W.heap.size:=by omega
 have HS:Hid (∀ w',KP (fun b=>P b∨b=w.heap.size) W w'→(w'.cell? ⟨b,o,none⟩=some (.int .i64 k0.kd)∧w'.cell? ⟨b,o+1,none⟩=some (.string (S k0.nm))∧w'.cell? ⟨b,o+2,none⟩=some (.int .i64 k0.nu)∧w'.cell? ⟨b,o+3,none⟩=some (.slice qn0 k0.ns.length dn0)∧w'.cell? ⟨b,o+4,none⟩=some (.slice qk0 k0.ks.length dk0)∧w'.cell? ⟨b,o+5,none⟩=some (.int .i64 k1.kd)∧w'.cell? ⟨b,o+5+1,none⟩=some (.string (S k1.nm))∧w'.cell? ⟨b,o+5+2,none⟩=some (.int .i64 k1.nu)∧w'.cell? ⟨b,o+5+3,none⟩=some (.slice qn1 k1.ns.length dn1)∧w'.cell? ⟨b,o+5+4,none⟩=some (.slice qk1 k1.ks.length dk1)∧w'.cell? ⟨b,o+10,none⟩=some (.int .i64 k2.kd)∧w'.cell? ⟨b,o+10+1,none⟩=some (.string (S k2.nm))∧w'.cell? ⟨b,o+10+2,none⟩=some (.int .i64 k2.nu)∧w'.cell? ⟨b,o+10+3,none⟩=some (.slice qn2 k2.ns.length dn2)∧w'.cell? ⟨b,o+10+4,none⟩=some (.slice qk2 k2.ks.length dk2))):=fun w' k=>⟨(k.cell (.inl hb) _).trans a00,(k.cell (.inl hb) _).trans a01,(k.cell (.inl hb) _).trans a02,(k.cell (.inl hb) _).trans a03,(k.cell (.inl hb) _).trans a04,(k.cell (.inl hb) _).trans a10,(k.cell (.inl hb) _).trans a11,(k.cell (.inl hb) _).trans a12,(k.cell (.inl hb) _).trans a13,(k.cell (.inl hb) _).trans a14,(k.cell (.inl hb) _).trans a20,(k.cell (.inl hb) _).trans a21,(k.cell (.inl hb) _).trans a22,(k.cell (.inl hb) _).trans a23,(k.cell (.inl hb) _).trans a24⟩
 clear hm hE hEM hSM hT hG IH hB hBd hH hcc hsn hsk hks hT1 hG1 hK hS0 hb hnm hnu hw2 hE0 hI0 hE1 hI1 hE2 hI2
 go_enter Tryz.func207,Tryz.ntmps207
 go_wp2_with fail
 rw [← hW]
 clear hW
 go_region_held3 (fun w'=>w'.cell? ⟨b,o,none⟩=some (.int .i64 k0.kd)∧w'.cell? ⟨b,o+1,none⟩=some (.string (S k0.nm))∧w'.cell? ⟨b,o+2,none⟩=some (.int .i64 k0.nu)∧w'.cell? ⟨b,o+3,none⟩=some (.slice qn0 k0.ns.length dn0)∧w'.cell? ⟨b,o+4,none⟩=some (.slice qk0 k0.ks.length dk0)∧w'.cell? ⟨b,o+5,none⟩=some (.int .i64 k1.kd)∧w'.cell? ⟨b,o+5+1,none⟩=some (.string (S k1.nm))∧w'.cell? ⟨b,o+5+2,none⟩=some (.int .i64 k1.nu)∧w'.cell? ⟨b,o+5+3,none⟩=some (.slice qn1 k1.ns.length dn1)∧w'.cell? ⟨b,o+5+4,none⟩=some (.slice qk1 k1.ks.length dk1)∧w'.cell? ⟨b,o+10,none⟩=some (.int .i64 k2.kd)∧w'.cell? ⟨b,o+10+1,none⟩=some (.string (S k2.nm))∧w'.cell? ⟨b,o+10+2,none⟩=some (.int .i64 k2.nu)∧w'.cell? ⟨b,o+10+3,none⟩=some (.slice qn2 k2.ns.length dn2)∧w'.cell? ⟨b,o+10+4,none⟩=some (.slice qk2 k2.ks.length dk2)) (first | go_keep | (exact HS.out _ hK')) (first | (go_at_call 168;refine H1.out.mono ?_;rintro e' w' ⟨rfl,hT',hK'⟩))
 have HT':=zz hT'
 have HK':=zz hK'
 clear hT' hK'
 go_wp2_with fail
 go_end0
 exact ⟨rfl,by rw [← A1.out];exact HT'.out.weak fun b hb=>.inl hb,HK.out.trans (HK'.out.mono fun b hb=>.inl hb)⟩
theorem expr13 {n:Nat} (IH:PutOK n) {P:Nat→Prop} {t:Nat} {st:St} {lv:Nat} {w:World} {nm:List UInt8} {nu:Int} {ns:List (List UInt8)} {ks:List Tr} {cs:List Value} (hw:tw ⟨13,nm,nu,ns,ks⟩≤n+1) (hlv:lv≤30) (hG:GP P w) (hT:TX P t st lv w) (hE:TrIn P w ⟨13,nm,nu,ns,ks⟩ cs) (hs:shp ⟨13,nm,nu,ns,ks⟩=true) :
 Calls Tryz.prog 207 #[.pointer (some ⟨t,0,none⟩),.agg cs.toArray] w fun e' w'=>e'=.returned (.tuple #[])∧TX P t (ptA lv (pExpr ⟨13,nm,nu,ns,ks⟩) st) lv w'∧KP P w w':=by
 obtain ⟨pn,cn,pk,ck,rfl,hnm,hnu,hsn,hsk,hSM,hEM⟩:=(TrIn_iff _ _ _ _).1 hE
 rw [shp_eq] at hs
 simp at hs
 rw [tw_eq] at hw
 simp only at *
 obtain ⟨⟨⟨hb1,hb2⟩,hk1⟩,hks⟩:=hs
 obtain ⟨k0,r0,rfl⟩:∃ k r,ks=k :: r:=by cases ks with | nil=>simp at hk1 | cons a r=>exact ⟨a,r,rfl⟩
 have hk2:1≤(k0 :: r0).length:=by simp
 obtain ⟨b,o,rfl,hb,hm⟩:=kid_cells hEM (by simp)
 obtain ⟨qn0,dn0,qk0,dk0,hI0,a00,a01,a02,a03,a04⟩:=hm 0 k0 rfl
 have hbl:=hT.lt b hb
 have hww:((k0 :: r0).map fun k=>tw k+3).sum=(tw k0+3)+((r0).map fun k=>tw k+3).sum:=by simp;try omega
 generalize hnk:(k0 :: r0).length=nk at *
 have hn0:(0:Int)<nk:=by omega
 have hm0:0<nk:=by omega
 have hw2:8+ns.length+((tw k0+3))≤n+1:=by omega
 clear hnk hk1 hb2 hk2 hw hww
 obtain ⟨W,hW⟩:∃ W,W=w.alloc (.cells #[.int .i64 13,.string (S nm),.int .i64 nu,.slice pn ns.length cn,.slice (some ⟨b,o,none⟩) nk ck] 27):=⟨_,rfl⟩
 have hB:Below w.heap.size w W:=by rw [hW];exact (Below.refl _ w).alloc (Nat.le_refl _) _
 have hK:KP P w W:=KP.of_below hB hT.lt
 have hT1:TX (fun b=>P b∨b=w.heap.size) t st lv W:=by rw [hW];exact hT.new _
 have hG1:GP (fun b=>P b∨b=w.heap.size) W:=hG.keep hK fun b hb=>.inl hb
 have hWs:W.heap.size=w.heap.size+1:=by rw [hW];simp
 have hBd:Below W.heap.size W W.drew:=⟨rfl,rfl,rfl,Nat.le_refl _,fun _ _=>rfl⟩
 have hcc:∀ x,W.cell? ⟨b,x,none⟩=w.cell? ⟨b,x,none⟩:=fun x=>hB.cell (p:=⟨b,x,none⟩) hbl
 have hH:Hold w.heap.size #[.int .i64 13,.string (S nm),.int .i64 nu,.slice pn ns.length cn,.slice (some ⟨b,o,none⟩) nk ck] 27 W:=by rw [hW];exact Hold.new w _ 27
 have hE0:=TrIn.keep hK (Q:=fun b=>P b∨b=w.heap.size) (fun b hb=>Or.inl hb) k0 _ hI0
 have hS0:=(hSM.keep hK).mono (Q:=fun b=>P b∨b=w.heap.size) fun b hb=>Or.inl hb
 have H1:=zz (put_new IH [pStrs ns,pStr [60,45],pExpr k0] [.iface 24 (.slice pn ns.length cn),.iface 9 (.string (S [60,45])),.iface 27 (.agg #[.int .i64 k0.kd,.string (S k0.nm),.int .i64 k0.nu,.slice qn0 k0.ns.length dn0,.slice qk0 k0.ks.length dk0])] rfl
  (vs_cons ⟨_,_,rfl,hb1,hsn,hS0⟩ (vs_cons ⟨rfl,by simp⟩ (vs_cons ⟨_,rfl,hE0,hks k0 (by simp)⟩ vs_nil))) (by simp [ptsw,ptw,pExpr,pAtom,pOpn,pStrs,pStr,p0w];omega) hlv hG1 hT1 hBd (w.heap.size+1) 3 hWs rfl (by omega))
 have A1:Hid (ptsA lv [pStrs ns,pStr [60,45],pExpr k0] st=ptA lv (pExpr ⟨13,nm,nu,ns,k0 :: r0⟩) st):=ptsA_is rfl (by simp [ptW,pExpr,pAtom,pOpn,pStrs,pStr,p0W,ws_eq ⟨13,nm,nu,ns,k0 :: r0⟩,wsF,g0]) st
 simp only [Nat.zero_mul,Nat.one_mul,Nat.add_zero] at a00 a01 a02 a03 a04
 rw [← hcc] at a00 a01 a02 a03 a04
 have c0:=hH.cell 0;have c1:=hH.cell 1;have c2:=hH.cell 2;have c3:=hH.cell 3;have c4:=hH.cell 4
 simp only [lGA,lGS,lGZ] at c0 c1 c2 c3 c4
 have HK:=zz hK
 have hlb:b<W.heap.size:=by omega
 have hlw:w.heap.size<W.heap.size:=by omega
 have HS:Hid (∀ w',KP (fun b=>P b∨b=w.heap.size) W w'→(w'.cell? ⟨w.heap.size,3,none⟩=some (.slice pn ns.length cn)∧w'.cell? ⟨b,o,none⟩=some (.int .i64 k0.kd)∧w'.cell? ⟨b,o+1,none⟩=some (.string (S k0.nm))∧w'.cell? ⟨b,o+2,none⟩=some (.int .i64 k0.nu)∧w'.cell? ⟨b,o+3,none⟩=some (.slice qn0 k0.ns.length dn0)∧w'.cell? ⟨b,o+4,none⟩=some (.slice qk0 k0.ks.length dk0))):=fun w' k=>⟨(k.cell (.inr rfl) _).trans c3,(k.cell (.inl hb) _).trans a00,(k.cell (.inl hb) _).trans a01,(k.cell (.inl hb) _).trans a02,(k.cell (.inl hb) _).trans a03,(k.cell (.inl hb) _).trans a04⟩
 clear hm hE hEM hSM hT hG IH hB hBd hH hcc hsn hsk hks hT1 hG1 hK hS0 hb hnm hnu hw2 hE0 hI0
 go_enter Tryz.func207,Tryz.ntmps207
 go_wp2_with fail
 rw [← hW]
 clear hW
 go_region_held3 (fun w'=>w'.cell? ⟨w.heap.size,3,none⟩=some (.slice pn ns.length cn)∧w'.cell? ⟨b,o,none⟩=some (.int .i64 k0.kd)∧w'.cell? ⟨b,o+1,none⟩=some (.string (S k0.nm))∧w'.cell? ⟨b,o+2,none⟩=some (.int .i64 k0.nu)∧w'.cell? ⟨b,o+3,none⟩=some (.slice qn0 k0.ns.length dn0)∧w'.cell? ⟨b,o+4,none⟩=some (.slice qk0 k0.ks.length dk0)) (first | go_keep | (exact HS.out _ hK')) (first | (go_at_call 168;refine H1.out.mono ?_;rintro e' w' ⟨rfl,hT',hK'⟩))
 have HT':=zz hT'
 have HK':=zz hK'
 clear hT' hK'
 go_wp2_with fail
 go_end0
 exact ⟨rfl,by rw [← A1.out];exact HT'.out.weak fun b hb=>.inl hb,HK.out.trans (HK'.out.mono fun b hb=>.inl hb)⟩
end Go.Proofs.YtcnnlecjdkfdjaaGreatDoor
