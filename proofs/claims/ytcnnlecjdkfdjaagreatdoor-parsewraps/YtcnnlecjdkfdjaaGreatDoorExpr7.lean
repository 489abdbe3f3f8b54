/- Parts of the proof. -/
import Derived.Test.YtcnnlecjdkfdjaaGreatDoorExpr
import Derived.Lib.ItoaLen
set_option linter.unusedVariables false
set_option linter.unusedSimpArgs false
set_option maxRecDepth 100000
set_option maxHeartbeats 8000000
namespace Go.Proofs.YtcnnlecjdkfdjaaGreatDoor
open Go.RowKit
theorem below_grow (w:World) (k:Nat) (os:Array Obj):Below w.heap.size w (Sort.grow (w.drewN k) os):=by
 refine ⟨rfl,rfl,rfl,by simp [Sort.grow,World.drewN],fun b hb=>?_⟩
 show (w.heap ++ os)[b]?=_
 rw [Array.getElem?_append_left hb]
theorem sum31 (ks:List Tr):(ks.map fun k=>tw k+1).sum≤(ks.map fun k=>tw k+3).sum:=by
 induction ks with
 | nil=>simp
 | cons a r ih=>simp only [List.map_cons,List.sum_cons];omega
theorem itoa_any (n:Int) (h0:-9223372036854775808≤n) (h1:n≤9223372036854775807) {P:Nat→Prop} {w:World} (hg:GP P w):Calls Tryz.prog 229 #[.int .i64 n] w fun e w'=>e=.returned (.string (S (Lib.itoa n)))∧Below w.heap.size w w':=by
 refine (Tryz.strconv_Itoa n h0 h1 w hg.1).mono ?_
 rintro e w' ⟨rfl,k,os,rfl⟩
 exact ⟨rfl,below_grow w k os⟩
theorem itoa_len (n:Int) (h0:-9223372036854775808≤n) (h1:n≤9223372036854775807):(Lib.itoa n).length≤281474976710656:=by
 have:=Lib.itoa_length_le n h0 h1;omega
theorem hnw11:([100,111]:List UInt8).length≤281474976710656:=by decide
theorem hnw12:([100,111,115]:List UInt8).length≤281474976710656:=by decide
theorem row_ok (lv:Nat) (a b c:List UInt8) (ks:List Tr) (e:Tr):([pStr a,pStr b,pRow c (ks.map fun k=>.inr (.inr (.inr (.inr (.inr (.inl k)))))),pStr [125]]).all (ptOK lv)=ptOK lv (pExpr e):=by
 simp [ptOK,pStr,pRow,pExpr,p0OK]
theorem row_put {n:Nat} (IH:PutOK n) {P:Nat→Prop} {t:Nat} {st:St} {lv:Nat} {w w1:World} {ks:List Tr} {p':Option Addr} {c':Nat} {vs:List Value} (a z:List UInt8) (ha:a.length≤281474976710656) (hn:ks.length≤1000000) (hks:∀ k ∈ ks,shp k=true) (hw:4+(ks.map fun k=>tw k+1).sum≤n) (hlv:lv≤30)
 (hG:GP P w) (hT:TX P t st lv w) (hB:Below w.heap.size w w1) (ho:w1.ownsRow w.heap.size 20 1 (.slice p' ks.length c') ks.length vs) (hv:∀ (i:Nat) k,ks[i]?=some k→∃ ds:List Value,vs[i]?=some (Value.iface 27 (.agg ds.toArray))∧TrIn P w1 k ds) :
 Calls Tryz.prog 168 #[.pointer (some ⟨t,0,none⟩),.slice (some ⟨w1.heap.size,0,none⟩) 4 4] (w1.alloc (.cells #[.iface 9 (.string (S a)),.iface 9 (.string (S [123])),.iface 216 (.agg #[.string (S [59]),.slice p' ks.length c']),.iface 9 (.string (S [125]))] 20)) fun e w'=>e=.returned (.tuple #[])∧TX P t (ptsA lv [pStr a,pStr [123],pRow [59] (ks.map fun k=>.inr (.inr (.inr (.inr (.inr (.inl k)))))),pStr [125]] st) lv w'∧KP P w w':=by
 have k1:KP P w w1:=KP.of_below hB hT.lt
 obtain ⟨hs,hA,hQ⟩:=own_AM (P:=P) (R:=P0V (fun b=>P b∨p'.map Addr.block=some b) w1) (l:=ks.map fun k=>(.inr (.inr (.inr (.inr (.inr (.inl k))))):P0)) ho (by simp) (by
  intro i x hx
  rw [List.getElem?_map,Option.map_eq_some_iff] at hx
  obtain ⟨k,hk,rfl⟩:=hx
  obtain ⟨ds,h1,h2⟩:=hv i k hk
  exact ⟨_,h1,ds,rfl,TrIn.keep (KP.refl P w1) (fun b hb=>Or.inl hb) k ds h2,hks k (List.mem_of_getElem? hk)⟩)
 have hT2:=hT.more (Q:=fun b=>p'.map Addr.block=some b) hB hQ
 refine (put_new IH (P:=fun b=>P b∨p'.map Addr.block=some b) [pStr a,pStr [123],pRow [59] (ks.map fun k=>.inr (.inr (.inr (.inr (.inr (.inl k)))))),pStr [125]] [.iface 9 (.string (S a)),.iface 9 (.string (S [123])),.iface 216 (.agg #[.string (S [59]),.slice p' ks.length c']),.iface 9 (.string (S [125]))] rfl
  (vs_cons ⟨rfl,ha⟩ (vs_cons ⟨rfl,by simp⟩ (vs_cons ⟨p',c',by simp,by simp,by simpa using (by omega:ks.length≤2000000),by simpa using hs,hA⟩ (vs_cons ⟨rfl,by simp⟩ vs_nil)))) (by simp [ptsw,ptw,pStr,pRow,p0w,Function.comp_def];omega) hlv (hG.keep k1 fun b hb=>.inl hb) hT2 (Below.refl _ w1) w1.heap.size 4 rfl rfl (by omega)).mono ?_
 rintro e w' ⟨rfl,h1,h2⟩
 exact ⟨rfl,h1.weak fun b hb=>.inl hb,k1.trans (h2.mono fun b hb=>.inl hb)⟩
theorem expr2 {n:Nat} (IH:PutOK n) {P:Nat→Prop} {t:Nat} {st:St} {lv:Nat} {w:World} {nm:List UInt8} {nu:Int} {ns:List (List UInt8)} {ks:List Tr} {cs:List Value} (hw:tw ⟨2,nm,nu,ns,ks⟩≤n+1) (hlv:lv≤30) (hG:GP P w) (hT:TX P t st lv w) (hE:TrIn P w ⟨2,nm,nu,ns,ks⟩ cs) (hs:shp ⟨2,nm,nu,ns,ks⟩=true) :
 Calls Tryz.prog 207 #[.pointer (some ⟨t,0,none⟩),.agg cs.toArray] w fun e' w'=>e'=.returned (.tuple #[])∧TX P t (ptA lv (pExpr ⟨2,nm,nu,ns,ks⟩) st) lv w'∧KP P w w':=by
 obtain ⟨pn,cn,pk,ck,rfl,hnm,hnu,hsn,hsk,hSM,hEM⟩:=(TrIn_iff _ _ _ _).1 hE
 rw [shp_eq] at hs
 simp at hs
 rw [tw_eq] at hw
 simp only at *
 obtain ⟨W,hW⟩:∃ W,W=w.alloc (.cells #[.int .i64 2,.string (S nm),.int .i64 nu,.slice pn ns.length cn,.slice pk ks.length ck] 27):=⟨_,rfl⟩
 have hB:Below w.heap.size w W:=by rw [hW];exact (Below.refl _ w).alloc (Nat.le_refl _) _
 have hK:KP P w W:=KP.of_below hB hT.lt
 have hT1:TX P t st lv W:=hT.below hB
 have hG1:GP P W:=hG.keep hK fun b hb=>hb
 have hWs:W.heap.size=w.heap.size+1:=by rw [hW];simp
 have H1:=zz (put_new IH [pStr nm] [.iface 9 (.string (S nm))] rfl (vs_cons ⟨rfl,hnm⟩ vs_nil) (by simp [ptsw,ptw,pStr,p0w];omega) hlv hG1 hT1 (Below.refl _ W) (w.heap.size+1) 1 hWs rfl (by omega))
 have A1:Hid (ptsA lv [pStr nm] st=ptA lv (pExpr ⟨2,nm,nu,ns,ks⟩) st):=ptsA_is rfl (by simp [ptW,pExpr,pStr,p0W,ws_eq ⟨2,nm,nu,ns,ks⟩,wsF]) st
 have HK:=zz hK
 have HW:=zz hW
 clear hE hEM hSM hT hG IH hB hsn hsk hT1 hG1 hK hnm hnu hw hW hs
 go_enter Tryz.func207,Tryz.ntmps207
 go_wp2_with fail
 rw [← HW.out]
 refine H1.out.mono ?_
 rintro e' w' ⟨rfl,hT',hK'⟩
 have HT':=zz hT'
 have HK':=zz hK'
 clear hT' hK'
 go_wp2_with fail
 go_end0
 exact ⟨rfl,by rw [← A1.out];exact HT'.out,HK.out.trans HK'.out⟩
theorem expr3 {n:Nat} (IH:PutOK n) {P:Nat→Prop} {t:Nat} {st:St} {lv:Nat} {w:World} {nm:List UInt8} {nu:Int} {ns:List (List UInt8)} {ks:List Tr} {cs:List Value} (hw:tw ⟨3,nm,nu,ns,ks⟩≤n+1) (hlv:lv≤30) (hG:GP P w) (hT:TX P t st lv w) (hE:TrIn P w ⟨3,nm,nu,ns,ks⟩ cs) (hs:shp ⟨3,nm,nu,ns,ks⟩=true) :
 Calls Tryz.prog 207 #[.pointer (some ⟨t,0,none⟩),.agg cs.toArray] w fun e' w'=>e'=.returned (.tuple #[])∧TX P t (ptA lv (pExpr ⟨3,nm,nu,ns,ks⟩) st) lv w'∧KP P w w':=by
 obtain ⟨pn,cn,pk,ck,rfl,hnm,hnu,hsn,hsk,hSM,hEM⟩:=(TrIn_iff _ _ _ _).1 hE
 rw [shp_eq] at hs
 simp at hs
 rw [tw_eq] at hw
 simp only at *
 obtain ⟨W,hW⟩:∃ W,W=w.alloc (.cells #[.int .i64 3,.string (S nm),.int .i64 nu,.slice pn ns.length cn,.slice pk ks.length ck] 27):=⟨_,rfl⟩
 have hB:Below w.heap.size w W:=by rw [hW];exact (Below.refl _ w).alloc (Nat.le_refl _) _
 have hK:KP P w W:=KP.of_below hB hT.lt
 have hT1:TX P t st lv W:=hT.below hB
 have hG1:GP P W:=hG.keep hK fun b hb=>hb
 have hWs:W.heap.size=w.heap.size+1:=by rw [hW];simp
 have H1:=zz (put_new IH [pStr nm] [.iface 9 (.string (S nm))] rfl (vs_cons ⟨rfl,hnm⟩ vs_nil) (by simp [ptsw,ptw,pStr,p0w];omega) hlv hG1 hT1 (Below.refl _ W) (w.heap.size+1) 1 hWs rfl (by omega))
 have A1:Hid (ptsA lv [pStr nm] st=ptA lv (pExpr ⟨3,nm,nu,ns,ks⟩) st):=ptsA_is rfl (by simp [ptW,pExpr,pStr,p0W,ws_eq ⟨3,nm,nu,ns,ks⟩,wsF]) st
 have HK:=zz hK
 have HW:=zz hW
 clear hE hEM hSM hT hG IH hB hsn hsk hT1 hG1 hK hnm hnu hw hW hs
 go_enter Tryz.func207,Tryz.ntmps207
 go_wp2_with fail
 rw [← HW.out]
 refine H1.out.mono ?_
 rintro e' w' ⟨rfl,hT',hK'⟩
 have HT':=zz hT'
 have HK':=zz hK'
 clear hT' hK'
 go_wp2_with fail
 go_end0
 exact ⟨rfl,by rw [← A1.out];exact HT'.out,HK.out.trans HK'.out⟩
theorem expr1 {n:Nat} (IH:PutOK n) {P:Nat→Prop} {t:Nat} {st:St} {lv:Nat} {w:World} {nm:List UInt8} {nu:Int} {ns:List (List UInt8)} {ks:List Tr} {cs:List Value} (hw:tw ⟨1,nm,nu,ns,ks⟩≤n+1) (hlv:lv≤30) (hG:GP P w) (hT:TX P t st lv w) (hE:TrIn P w ⟨1,nm,nu,ns,ks⟩ cs) (hs:shp ⟨1,nm,nu,ns,ks⟩=true) :
 Calls Tryz.prog 207 #[.pointer (some ⟨t,0,none⟩),.agg cs.toArray] w fun e' w'=>e'=.returned (.tuple #[])∧TX P t (ptA lv (pExpr ⟨1,nm,nu,ns,ks⟩) st) lv w'∧KP P w w':=by
 obtain ⟨pn,cn,pk,ck,rfl,hnm,hnu,hsn,hsk,hSM,hEM⟩:=(TrIn_iff _ _ _ _).1 hE
 rw [shp_eq] at hs
 simp at hs
 rw [tw_eq] at hw
 simp only at *
 obtain ⟨W,hW⟩:∃ W,W=w.alloc (.cells #[.int .i64 1,.string (S nm),.int .i64 nu,.slice pn ns.length cn,.slice pk ks.length ck] 27):=⟨_,rfl⟩
 have hB:Below w.heap.size w W:=by rw [hW];exact (Below.refl _ w).alloc (Nat.le_refl _) _
 have hK:KP P w W:=KP.of_below hB hT.lt
 have hT1:TX P t st lv W:=hT.below hB
 have hG1:GP P W:=hG.keep hK fun b hb=>hb
 have hWs:W.heap.size=w.heap.size+1:=by rw [hW];simp
 have HI:=zz (itoa_any nu hnu.1 hnu.2 hG1)
 have H1:=zz (fun (w1:World) (hB1:Below W.heap.size W w1)=>put_new IH [pStr (Lib.itoa nu)] [.iface 9 (.string (S (Lib.itoa nu)))] rfl (vs_cons ⟨rfl,itoa_len nu hnu.1 hnu.2⟩ vs_nil) (by simp [ptsw,ptw,pStr,p0w];omega) hlv hG1 hT1 hB1 w1.heap.size 1 rfl rfl (by omega))
 have A1:Hid (ptsA lv [pStr (Lib.itoa nu)] st=ptA lv (pExpr ⟨1,nm,nu,ns,ks⟩) st):=ptsA_is rfl (by simp [ptW,pExpr,pStr,p0W,ws_eq ⟨1,nm,nu,ns,ks⟩,wsF]) st
 have HK:=zz hK
 have HW:=zz hW
 clear hE hEM hSM hT hG IH hB hsn hsk hT1 hG1 hK hnm hnu hw hW hs
 go_enter Tryz.func207,Tryz.ntmps207
 go_wp2_with fail
 rw [← HW.out]
 refine HI.out.mono ?_
 rintro e1 w1 ⟨rfl,hB1⟩
 have H2:=zz (H1.out w1 hB1)
 clear hB1 H1
 go_wp2_with fail
 refine H2.out.mono ?_
 rintro e' w' ⟨rfl,hT',hK'⟩
 have HT':=zz hT'
 have HK':=zz hK'
 clear hT' hK'
 go_wp2_with fail
 go_end0
 exact ⟨rfl,by rw [← A1.out];exact HT'.out,HK.out.trans HK'.out⟩
theorem expr11 {n:Nat} (IH:PutOK n) {P:Nat→Prop} {t:Nat} {st:St} {lv:Nat} {w:World} {nm:List UInt8} {nu:Int} {ns:List (List UInt8)} {ks:List Tr} {cs:List Value} (hw:tw ⟨11,nm,nu,ns,ks⟩≤n+1) (hlv:lv≤30) (hG:GP P w) (hT:TX P t st lv w) (hE:TrIn P w ⟨11,nm,nu,ns,ks⟩ cs) (hs:shp ⟨11,nm,nu,ns,ks⟩=true) :
 Calls Tryz.prog 207 #[.pointer (some ⟨t,0,none⟩),.agg cs.toArray] w fun e' w'=>e'=.returned (.tuple #[])∧TX P t (ptA lv (pExpr ⟨11,nm,nu,ns,ks⟩) st) lv w'∧KP P w w':=by
 obtain ⟨pn,cn,pk,ck,rfl,hnm,hnu,hsn,hsk,hSM,hEM⟩:=(TrIn_iff _ _ _ _).1 hE
 rw [shp_eq] at hs
 simp at hs
 rw [tw_eq] at hw
 simp only at *
 obtain ⟨W,hW⟩:∃ W,W=w.alloc (.cells #[.int .i64 11,.string (S nm),.int .i64 nu,.slice pn ns.length cn,.slice pk ks.length ck] 27):=⟨_,rfl⟩
 have hB:Below w.heap.size w W:=by rw [hW];exact (Below.refl _ w).alloc (Nat.le_refl _) _
 have hK:KP P w W:=KP.of_below hB hT.lt
 have hT1:TX P t st lv W:=hT.below hB
 have hG1:GP P W:=hG.keep hK fun b hb=>hb
 have hWs:W.heap.size=w.heap.size+1:=by rw [hW];simp
 obtain ⟨⟨hb1,hb2⟩,hks⟩:=hs
 have HBL:=zz (block_any (c:=ck) hb2 hT1.lt (EM.keep hK (fun b hb=>hb) hEM))
 have H1:=zz (fun (w1:World) (hB1:Below W.heap.size W w1) p' c' vs (ho:w1.ownsRow W.heap.size 20 1 (.slice p' ks.length c') ks.length vs) (hv:∀ (i:Nat) k,ks[i]?=some k→∃ ds:List Value,(vs:List Value)[i]?=some (Value.iface 27 (.agg ds.toArray))∧TrIn P w1 k ds)=>row_put IH [100,111] [125] hnw11 hb2 (hks) (by have:=sum31 ks;omega) hlv hG1 hT1 hB1 ho hv)
 have A1:Hid (ptsA lv [pStr [100,111],pStr [123],pRow [59] (ks.map fun k=>.inr (.inr (.inr (.inr (.inr (.inl k)))))),pStr [125]] st=ptA lv (pExpr ⟨11,nm,nu,ns,ks⟩) st):=ptsA_is (row_ok _ _ _ _ _ _) (by simp [ptW,pExpr,pStr,pRow,p0W,ws_eq ⟨11,nm,nu,ns,ks⟩,wsF,Function.comp_def,List.map_map]) st
 have HK:=zz hK
 have HW:=zz hW
 clear hE hEM hSM hT hG IH hB hsn hsk hT1 hG1 hK hnm hnu hw hW hks
 go_enter Tryz.func207,Tryz.ntmps207
 go_wp2_with fail
 rw [← HW.out]
 refine HBL.out.mono ?_
 rintro e1 w1 ⟨p',c',vs,rfl,ho,hB1,hv⟩
 have H2:=zz (H1.out w1 hB1 p' c' vs ho hv)
 clear hB1 H1 ho hv
 go_wp2_with fail
 refine H2.out.mono ?_
 rintro e' w' ⟨rfl,hT',hK'⟩
 have HT':=zz hT'
 have HK':=zz hK'
 clear hT' hK'
 go_wp2_with fail
 go_end0
 exact ⟨rfl,by rw [← A1.out];exact HT'.out,HK.out.trans HK'.out⟩
theorem expr12 {n:Nat} (IH:PutOK n) {P:Nat→Prop} {t:Nat} {st:St} {lv:Nat} {w:World} {nm:List UInt8} {nu:Int} {ns:List (List UInt8)} {ks:List Tr} {cs:List Value} (hw:tw ⟨12,nm,nu,ns,ks⟩≤n+1) (hlv:lv≤30) (hG:GP P w) (hT:TX P t st lv w) (hE:TrIn P w ⟨12,nm,nu,ns,ks⟩ cs) (hs:shp ⟨12,nm,nu,ns,ks⟩=true) :
 Calls Tryz.prog 207 #[.pointer (some ⟨t,0,none⟩),.agg cs.toArray] w fun e' w'=>e'=.returned (.tuple #[])∧TX P t (ptA lv (pExpr ⟨12,nm,nu,ns,ks⟩) st) lv w'∧KP P w w':=by
 obtain ⟨pn,cn,pk,ck,rfl,hnm,hnu,hsn,hsk,hSM,hEM⟩:=(TrIn_iff _ _ _ _).1 hE
 rw [shp_eq] at hs
 simp at hs
 rw [tw_eq] at hw
 simp only at *
 obtain ⟨W,hW⟩:∃ W,W=w.alloc (.cells #[.int .i64 12,.string (S nm),.int .i64 nu,.slice pn ns.length cn,.slice pk ks.length ck] 27):=⟨_,rfl⟩
 have hB:Below w.heap.size w W:=by rw [hW];exact (Below.refl _ w).alloc (Nat.le_refl _) _
 have hK:KP P w W:=KP.of_below hB hT.lt
 have hT1:TX P t st lv W:=hT.below hB
 have hG1:GP P W:=hG.keep hK fun b hb=>hb
 have hWs:W.heap.size=w.heap.size+1:=by rw [hW];simp
 obtain ⟨⟨hb1,hb2⟩,hks⟩:=hs
 have HBL:=zz (block_any (c:=ck) hb2 hT1.lt (EM.keep hK (fun b hb=>hb) hEM))
 have H1:=zz (fun (w1:World) (hB1:Below W.heap.size W w1) p' c' vs (ho:w1.ownsRow W.heap.size 20 1 (.slice p' ks.length c') ks.length vs) (hv:∀ (i:Nat) k,ks[i]?=some k→∃ ds:List Value,(vs:List Value)[i]?=some (Value.iface 27 (.agg ds.toArray))∧TrIn P w1 k ds)=>row_put IH [100,111,115] [125] hnw12 hb2 (hks) (by have:=sum31 ks;omega) hlv hG1 hT1 hB1 ho hv)
 have A1:Hid (ptsA lv [pStr [100,111,115],pStr [123],pRow [59] (ks.map fun k=>.inr (.inr (.inr (.inr (.inr (.inl k)))))),pStr [125]] st=ptA lv (pExpr ⟨12,nm,nu,ns,ks⟩) st):=ptsA_is (row_ok _ _ _ _ _ _) (by simp [ptW,pExpr,pStr,pRow,p0W,ws_eq ⟨12,nm,nu,ns,ks⟩,wsF,Function.comp_def,List.map_map]) st
 have HK:=zz hK
 have HW:=zz hW
 clear hE hEM hSM hT hG IH hB hsn hsk hT1 hG1 hK hnm hnu hw hW hks
 go_enter Tryz.func207,Tryz.ntmps207
 go_wp2_with fail
 rw [← HW.out]
 refine HBL.out.mono ?_
 rintro e1 w1 ⟨p',c',vs,rfl,ho,hB1,hv⟩
 have H2:=zz (H1.out w1 hB1 p' c' vs ho hv)
 clear hB1 H1 ho hv
 go_wp2_with fail
 refine H2.out.mono ?_
 rintro e' w' ⟨rfl,hT',hK'⟩
 have HT':=zz hT'
 have HK':=zz hK'
 clear hT' hK'
 go_wp2_with fail
 go_end0
 exact ⟨rfl,by rw [← A1.out];exact HT'.out,HK.out.trans HK'.out⟩
theorem EM.tail {P:Nat→Prop} {w:World} {b o:Nat} {k0:Tr} {r:List Tr} (h:EM P w (some ⟨b,o,none⟩) (k0 :: r)):EM P w (some ⟨b,o+5,none⟩) r:=by
 rcases h with h | ⟨b',o',hp,hb,hm⟩
 ·cases h
 ·cases hp
  refine .inr ⟨b,o+5,rfl,hb,fun i t ht=>?_⟩
  obtain ⟨ds,h1,h2,h3⟩:=hm (i+1) t (by simpa using ht)
  exact ⟨ds,h1,fun j d hd=>by rw [← h2 j d hd];congr 2;omega,h3⟩
theorem row_put2 {n:Nat} (IH:PutOK n) {P:Nat→Prop} {t:Nat} {st:St} {lv:Nat} {w w1:World} {k0:Tr} {r0:List Tr} {p':Option Addr} {c':Nat} {vs:List Value} {qn0 qk0:Option Addr} {dn0 dk0:Nat} (hn:r0.length≤1000000) (hks:∀ k ∈ k0 :: r0,shp k=true) (hw:5+tw k0+(r0.map fun k=>tw k+1).sum≤n) (hlv:lv≤30)
 (hG:GP P w) (hT:TX P t st lv w) (hB:Below w.heap.size w w1) (hI:TrIn P w k0 [.int .i64 k0.kd,.string (S k0.nm),.int .i64 k0.nu,.slice qn0 k0.ns.length dn0,.slice qk0 k0.ks.length dk0]) (ho:w1.ownsRow w.heap.size 20 1 (.slice p' r0.length c') r0.length vs) (hv:∀ (i:Nat) k,r0[i]?=some k→∃ ds:List Value,vs[i]?=some (Value.iface 27 (.agg ds.toArray))∧TrIn P w1 k ds) :
 Calls Tryz.prog 168 #[.pointer (some ⟨t,0,none⟩),.slice (some ⟨w1.heap.size,0,none⟩) 6 6] (w1.alloc (.cells #[.iface 9 (.string (S [99,97,115,101])),.iface 27 (.agg #[.int .i64 k0.kd,.string (S k0.nm),.int .i64 k0.nu,.slice qn0 k0.ns.length dn0,.slice qk0 k0.ks.length dk0]),.iface 9 (.string (S [111,102])),.iface 9 (.string (S [123])),.iface 216 (.agg #[.string (S [59]),.slice p' r0.length c']),.iface 9 (.string (S [125]))] 20)) fun e w'=>e=.returned (.tuple #[])∧TX P t (ptsA lv [pStr [99,97,115,101],pExpr k0,pStr [111,102],pStr [123],pRow [59] (r0.map fun k=>.inr (.inr (.inr (.inr (.inr (.inl k)))))),pStr [125]] st) lv w'∧KP P w w':=by
 have k1:KP P w w1:=KP.of_below hB hT.lt
 obtain ⟨hs,hA,hQ⟩:=own_AM (P:=P) (R:=P0V (fun b=>P b∨p'.map Addr.block=some b) w1) (l:=r0.map fun k=>(.inr (.inr (.inr (.inr (.inr (.inl k))))):P0)) ho (by simp) (by
  intro i x hx
  rw [List.getElem?_map,Option.map_eq_some_iff] at hx
  obtain ⟨k,hk,rfl⟩:=hx
  obtain ⟨ds,h1,h2⟩:=hv i k hk
  exact ⟨_,h1,ds,rfl,TrIn.keep (KP.refl P w1) (fun b hb=>Or.inl hb) k ds h2,hks k (List.mem_cons_of_mem _ (List.mem_of_getElem? hk))⟩)
 have hT2:=hT.more (Q:=fun b=>p'.map Addr.block=some b) hB hQ
 have hI2:=TrIn.keep k1 (Q:=fun b=>P b∨p'.map Addr.block=some b) (fun b hb=>Or.inl hb) k0 _ hI
 refine (put_new IH (P:=fun b=>P b∨p'.map Addr.block=some b) [pStr [99,97,115,101],pExpr k0,pStr [111,102],pStr [123],pRow [59] (r0.map fun k=>.inr (.inr (.inr (.inr (.inr (.inl k)))))),pStr [125]] [.iface 9 (.string (S [99,97,115,101])),.iface 27 (.agg #[.int .i64 k0.kd,.string (S k0.nm),.int .i64 k0.nu,.slice qn0 k0.ns.length dn0,.slice qk0 k0.ks.length dk0]),.iface 9 (.string (S [111,102])),.iface 9 (.string (S [123])),.iface 216 (.agg #[.string (S [59]),.slice p' r0.length c']),.iface 9 (.string (S [125]))] rfl
  (vs_cons ⟨rfl,by simp⟩ (vs_cons ⟨_,rfl,hI2,hks k0 (by simp)⟩ (vs_cons ⟨rfl,by simp⟩ (vs_cons ⟨rfl,by simp⟩ (vs_cons ⟨p',c',by simp,by simp,by simpa using (by omega:r0.length≤2000000),by simpa using hs,hA⟩ (vs_cons ⟨rfl,by simp⟩ vs_nil)))))) (by simp [ptsw,ptw,pStr,pExpr,pRow,p0w,Function.comp_def];omega) hlv (hG.keep k1 fun b hb=>.inl hb) hT2 (Below.refl _ w1) w1.heap.size 6 rfl rfl (by omega)).mono ?_
 rintro e w' ⟨rfl,h1,h2⟩
 exact ⟨rfl,h1.weak fun b hb=>.inl hb,k1.trans (h2.mono fun b hb=>.inl hb)⟩
theorem expr7 {n:Nat} (IH:PutOK n) {P:Nat→Prop} {t:Nat} {st:St} {lv:Nat} {w:World} {nm:List UInt8} {nu:Int} {ns:List (List UInt8)} {ks:List Tr} {cs:List Value} (hw:tw ⟨7,nm,nu,ns,ks⟩≤n+1) (hlv:lv≤30) (hG:GP P w) (hT:TX P t st lv w) (hE:TrIn P w ⟨7,nm,nu,ns,ks⟩ cs) (hs:shp ⟨7,nm,nu,ns,ks⟩=true) :
 Calls Tryz.prog 207 #[.pointer (some ⟨t,0,none⟩),.agg cs.toArray] w fun e' w'=>e'=.returned (.tuple #[])∧TX P t (ptA lv (pExpr ⟨7,nm,nu,ns,ks⟩) st) lv w'∧KP P w w':=by
 obtain ⟨pn,cn,pk,ck,rfl,hnm,hnu,hsn,hsk,hSM,hEM⟩:=(TrIn_iff _ _ _ _).1 hE
 rw [shp_eq] at hs
 simp at hs
 rw [tw_eq] at hw
 simp only at *
 obtain ⟨⟨⟨hb1,hb2⟩,hk1⟩,hks⟩:=hs
 obtain ⟨k0,r0,rfl⟩:∃ k r,ks=k :: r:=by cases ks with | nil=>simp at hk1 | cons a r=>exact ⟨a,r,rfl⟩
 obtain ⟨b,o,rfl,hb,hm⟩:=kid_cells hEM (by simp)
 obtain ⟨qn0,dn0,qk0,dk0,hI0,a00,a01,a02,a03,a04⟩:=hm 0 k0 rfl
 have hbl:=hT.lt b hb
 have hww:((k0 :: r0).map fun k=>tw k+3).sum=(tw k0+3)+(r0.map fun k=>tw k+3).sum:=by simp
 have hwr:=sum31 r0
 have hnk0:(k0 :: r0).length=r0.length+1:=rfl
 generalize hnk:(k0 :: r0).length=nk at *
 have hn0:(0:Int)<nk:=by omega
 have hm0:0<nk:=by omega
 have hn1:(1:Int)≤nk:=by omega
 have hm1:1≤nk:=by omega
 have hc1:nk≤ck:=hsk.1
 have hw2:5+tw k0+(r0.map fun k=>tw k+1).sum≤n:=by omega
 obtain ⟨W,hW⟩:∃ W,W=w.alloc (.cells #[.int .i64 7,.string (S nm),.int .i64 nu,.slice pn ns.length cn,.slice (some ⟨b,o,none⟩) nk ck] 27):=⟨_,rfl⟩
 have hB:Below w.heap.size w W:=by rw [hW];exact (Below.refl _ w).alloc (Nat.le_refl _) _
 have hK:KP P w W:=KP.of_below hB hT.lt
 have hBd:Below W.heap.size W W.drew:=⟨rfl,rfl,rfl,Nat.le_refl _,fun _ _=>rfl⟩
 have hK2:KP P w W.drew:=hK.drew
 have hT1:TX P t st lv W.drew:=(hT.below hB).below hBd
 have hG1:GP P W.drew:=hG.keep hK2 fun b hb=>hb
 have hWs:W.heap.size=w.heap.size+1:=by rw [hW];simp
 have hcc:∀ x,W.cell? ⟨b,x,none⟩=w.cell? ⟨b,x,none⟩:=fun x=>hB.cell (p:=⟨b,x,none⟩) hbl
 have hE0:=TrIn.keep hK2 (Q:=P) (fun b hb=>hb) k0 _ hI0
 have HBL:(∀ p c,p=some ⟨b,o+5,none⟩∨r0=[]→Calls Tryz.prog 231 #[.slice p r0.length c] W.drew fun e w'=>∃ p' c' vs,e=.returned (.agg #[.string (S [59]),.slice p' r0.length c'])∧w'.ownsRow W.drew.heap.size 20 1 (.slice p' r0.length c') r0.length vs∧Below W.drew.heap.size W.drew w'∧∀ (i:Nat) t,r0[i]?=some t→∃ ds:List Value,(vs:List Value)[i]?=some (Value.iface 27 (.agg ds.toArray))∧TrIn P w' t ds):=by
  intro p c hp
  refine block_any (P:=P) (by omega) hT1.lt ?_
  rcases hp with rfl | hp
  ·exact EM.keep hK2 (fun b hb=>hb) hEM.tail
  ·exact .inl hp
 have H1:=(fun (w1:World) (hB1:Below W.drew.heap.size W.drew w1) p' c' vs (ho:w1.ownsRow W.drew.heap.size 20 1 (.slice p' r0.length c') r0.length vs) (hv:∀ (i:Nat) k,r0[i]?=some k→∃ ds:List Value,(vs:List Value)[i]?=some (Value.iface 27 (.agg ds.toArray))∧TrIn P w1 k ds)=>row_put2 IH (k0:=k0) (by omega) (fun k hk=>hks k hk) hw2 hlv hG1 hT1 hB1 hE0 ho hv)
 have A1:Hid (ptsA lv [pStr [99,97,115,101],pExpr k0,pStr [111,102],pStr [123],pRow [59] (r0.map fun k=>.inr (.inr (.inr (.inr (.inr (.inl k)))))),pStr [125]] st=ptA lv (pExpr ⟨7,nm,nu,ns,k0 :: r0⟩) st):=ptsA_is (by simp [ptOK,pStr,pRow,pExpr,p0OK]) (by simp [ptW,pExpr,pStr,pRow,p0W,ws_eq ⟨7,nm,nu,ns,k0 :: r0⟩,wsF,g0,Function.comp_def,List.map_map]) st
 simp only [Nat.zero_mul,Nat.add_zero] at a00 a01 a02 a03 a04
 rw [← hcc] at a00 a01 a02 a03 a04
 have HS:Hid (∀ w',KP P W.drew w'→(w'.cell? ⟨b,o,none⟩=some (.int .i64 k0.kd)∧w'.cell? ⟨b,o+1,none⟩=some (.string (S k0.nm))∧w'.cell? ⟨b,o+2,none⟩=some (.int .i64 k0.nu)∧w'.cell? ⟨b,o+3,none⟩=some (.slice qn0 k0.ns.length dn0)∧w'.cell? ⟨b,o+4,none⟩=some (.slice qk0 k0.ks.length dk0))):=fun w' k=>⟨(k.cell hb _).trans a00,(k.cell hb _).trans a01,(k.cell hb _).trans a02,(k.cell hb _).trans a03,(k.cell hb _).trans a04⟩
 have hlP:Hid (∀ b,P b→b<W.heap.size):=fun b hb=>hT1.lt b hb
 have hlb:b<W.heap.size:=by omega
 have HK:=zz hK
 have hr:r0.length=nk - 1:=by omega
 have HP0:Hid (ck=1→r0=[]):=fun h=>List.length_eq_zero_iff.1 (by omega)
 rw [hr] at HBL H1
 clear hm hE hEM hSM hT hG IH hB hBd hcc hsn hsk hks hT1 hG1 hK hK2 hb hnm hnu hw2 hE0 hI0 hw hww hwr hnk hnk0 hb2 hk1 hr
 by_cases hck:ck=1
 ·have HP1:Hid (r0=[]):=HP0.out hck
  subst hck
  obtain rfl:nk=1:=by omega
  simp only [Nat.sub_self] at HBL H1
  have HBL:=zz HBL
  have H1:=zz H1
  go_enter Tryz.func207,Tryz.ntmps207
  go_wp2_with fail
  rw [← hW]
  clear hW
  go_region_held3 (fun w'=>w'.cell? ⟨b,o,none⟩=some (.int .i64 k0.kd)∧w'.cell? ⟨b,o+1,none⟩=some (.string (S k0.nm))∧w'.cell? ⟨b,o+2,none⟩=some (.int .i64 k0.nu)∧w'.cell? ⟨b,o+3,none⟩=some (.slice qn0 k0.ns.length dn0)∧w'.cell? ⟨b,o+4,none⟩=some (.slice qk0 k0.ks.length dk0)) (first | go_keep | (exact HS.out _ (KP.of_below HB1.out hlP.out)) | (exact HS.out _ hK')) (first | (go_at_call 231;refine (HBL.out _ _ (Or.inr HP1.out)).mono ?_;rintro e1 w1 ⟨p',c',vs,rfl,ho,hB1,hv⟩;have H2:=zz (H1.out w1 hB1 p' c' vs ho hv);have HB1:=zz hB1;clear hB1 ho hv) | (go_at_call 168;refine H2.out.mono ?_;rintro e' w' ⟨rfl,hT',hK'⟩))
  have HT':=zz hT'
  have HK':=zz hK'
  clear hT' hK'
  go_wp2_with fail
  go_end0
  exact ⟨rfl,by rw [← A1.out];exact HT'.out,HK.out.drew.trans HK'.out⟩
 ·clear HP0
  have HBL:=zz HBL
  have H1:=zz H1
  go_enter Tryz.func207,Tryz.ntmps207
  go_wp2_with fail
  rw [← hW]
  clear hW
  go_region_held3 (fun w'=>w'.cell? ⟨b,o,none⟩=some (.int .i64 k0.kd)∧w'.cell? ⟨b,o+1,none⟩=some (.string (S k0.nm))∧w'.cell? ⟨b,o+2,none⟩=some (.int .i64 k0.nu)∧w'.cell? ⟨b,o+3,none⟩=some (.slice qn0 k0.ns.length dn0)∧w'.cell? ⟨b,o+4,none⟩=some (.slice qk0 k0.ks.length dk0)) (first | go_keep | (exact HS.out _ (KP.of_below HB1.out hlP.out)) | (exact HS.out _ hK')) (first | (go_at_call 231;refine (HBL.out _ _ (Or.inl rfl)).mono ?_;rintro e1 w1 ⟨p',c',vs,rfl,ho,hB1,hv⟩;have H2:=zz (H1.out w1 hB1 p' c' vs ho hv);have HB1:=zz hB1;clear hB1 ho hv) | (go_at_call 168;refine H2.out.mono ?_;rintro e' w' ⟨rfl,hT',hK'⟩))
  have HT':=zz hT'
  have HK':=zz hK'
  clear hT' hK'
  go_wp2_with fail
  go_end0
  exact ⟨rfl,by rw [← A1.out];exact HT'.out,HK.out.drew.trans HK'.out⟩
theorem expr0 {P:Nat→Prop} {t:Nat} {st:St} {lv:Nat} {w:World} {e:Tr} {cs:List Value} (hT:TX P t st lv w) (hE:TrIn P w e cs) (h1:e.kd≠1) (h2:e.kd≠2) (h3:e.kd≠3) (h4:e.kd≠4) (h5:e.kd≠5) (h6:e.kd≠6) (h7:e.kd≠7) (h8:e.kd≠8) (h9:e.kd≠9) (h10:e.kd≠10) (h11:e.kd≠11) (h12:e.kd≠12) (h13:e.kd≠13) :
 Calls Tryz.prog 207 #[.pointer (some ⟨t,0,none⟩),.agg cs.toArray] w fun e' w'=>e'=.returned (.tuple #[])∧TX P t (ptA lv (pExpr e) st) lv w'∧KP P w w':=by
 obtain ⟨pn,cn,pk,ck,rfl⟩:=tr_cells hE
 have A1:Hid (ptA lv (pExpr e) st=st):=by
  show ptA lv (pExpr e) st=st
  have:ws e=[]:=by rw [ws_eq];simp [wsF, *]
  unfold ptA
  rw [if_pos (by rfl)]
  show runA (ws e) st=st
  rw [this];rfl
 have HT:=zz hT
 clear hT hE
 go_enter Tryz.func207,Tryz.ntmps207
 go_wp2_with fail
 go_end0
 have hB:Below w.heap.size w (w.alloc (.cells #[.int .i64 e.kd,.string (S e.nm),.int .i64 e.nu,.slice pn e.ns.length cn,.slice pk e.ks.length ck] 27)):=(Below.refl _ w).alloc (Nat.le_refl _) _
 exact ⟨rfl,by rw [A1.out];exact HT.out.below hB,KP.of_below hB HT.out.lt⟩
theorem exprT {n:Nat} (IH:PutOK n) {P:Nat→Prop} {t:Nat} {st:St} {lv:Nat} {w:World} {e:Tr} {cs:List Value} (hw:tw e≤n+1) (hlv:lv≤30) (hG:GP P w) (hT:TX P t st lv w) (hE:TrIn P w e cs) (hs:shp e=true) :
 Calls Tryz.prog 207 #[.pointer (some ⟨t,0,none⟩),.agg cs.toArray] w fun e' w'=>e'=.returned (.tuple #[])∧TX P t (ptA lv (pExpr e) st) lv w'∧KP P w w':=by
 obtain ⟨kd,nm,nu,ns,ks⟩:=e
 by_cases h1:kd=1
 ·subst h1;exact expr1 IH hw hlv hG hT hE hs
 by_cases h2:kd=2
 ·subst h2;exact expr2 IH hw hlv hG hT hE hs
 by_cases h3:kd=3
 ·subst h3;exact expr3 IH hw hlv hG hT hE hs
 by_cases h4:kd=4
 ·subst h4;exact expr4 IH hw hlv hG hT hE hs
 by_cases h5:kd=5
 ·subst h5;exact expr5 IH hw hlv hG hT hE hs
 by_cases h6:kd=6
 ·subst h6;exact expr6 IH hw hlv hG hT hE hs
 by_cases h7:kd=7
 ·subst h7;exact expr7 IH hw hlv hG hT hE hs
 by_cases h8:kd=8
 ·subst h8;exact expr8 IH hw hlv hG hT hE hs
 by_cases h9:kd=9
 ·subst h9;exact expr9 IH hw hlv hG hT hE hs
 by_cases h10:kd=10
 ·subst h10;exact expr10 IH hw hlv hG hT hE hs
 by_cases h11:kd=11
 ·subst h11;exact expr11 IH hw hlv hG hT hE hs
 by_cases h12:kd=12
 ·subst h12;exact expr12 IH hw hlv hG hT hE hs
 by_cases h13:kd=13
 ·subst h13;exact expr13 IH hw hlv hG hT hE hs
 exact expr0 hT hE h1 h2 h3 h4 h5 h6 h7 h8 h9 h10 h11 h12 h13
end Go.Proofs.YtcnnlecjdkfdjaaGreatDoor
