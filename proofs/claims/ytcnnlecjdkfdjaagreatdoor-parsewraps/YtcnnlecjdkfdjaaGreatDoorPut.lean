/- Parts of the proof. -/
import Derived.Test.YtcnnlecjdkfdjaaGreatDoorWord
import Derived.Deep.OwnRows
set_option linter.unusedVariables false
set_option linter.unusedSimpArgs false
set_option maxRecDepth 100000
set_option maxHeartbeats 8000000
namespace Go.Proofs.YtcnnlecjdkfdjaaGreatDoor
open Go.RowKit
theorem info20:(Tryz.prog.info? 20).map (fun i=>(i.zero,i.size,i.bytes))=some (some .nilIface,1,16):=by kernel_rfl
theorem own_new (w:World) (n:Nat) (h:n≤4000000):(w.alloc (.cells (madeCells #[Value.nilIface] n) 20)).ownsRow w.heap.size 20 1 (.slice (some ⟨w.heap.size,0,none⟩) 0 n) 0 []:=by
 refine ⟨rfl,.inr ⟨w.heap.size,n,madeCells #[Value.nilIface] n,rfl,Nat.le_refl _,Hold.new w _ 20,Nat.zero_le _,by unfold maxLen;omega,?_,rfl⟩⟩
 simp [madeCells]
theorem cell_one_new2 (w:World) (o:Obj) (x:Value) (t:TypeId):∀ j u,[x][j]?=some u→((w.alloc o).alloc (.cells #[x] t)).cell? ((⟨w.heap.size+1,0,none⟩:Addr).add j)=some u:=by
 have h:=cell_one_new (w.alloc o) x t
 rw [World.size_alloc] at h
 exact h
theorem make20 (m:Nat) (hm:m≤4000000) (W:World):(Instr.makeSlice 211 (.int .i64 0) (.int .i64 m)).run Tryz.prog W=.ok (.slice (some ⟨W.heap.size,0,none⟩) 0 m) (W.alloc (.cells (madeCells #[.nilIface] m) 20)):=by
 obtain ⟨i0,hi,hz0,hz1,hz2⟩:=info_parts info20
 have h:=run_make (P:=Tryz.prog) W 211 20 i0 .nilIface Tryz.underlying211 hi hz0 .i64 .i64 0 m (by omega) (by omega) (by rw [hz2];omega) (by omega)
 rw [hz1] at h
 simpa [Value.cells] using h
theorem list_str {P:Nat→Prop} {p:Option Addr} {c:Nat} {l:List (List UInt8)} {w:World} (hn:l.length≤1000000) (hP:∀ b,P b→b<w.heap.size) (hM:SM P w p l) :
 Calls Tryz.prog 204 #[.slice p l.length c] w fun e w'=>∃ p' c',e=.returned (.slice p' l.length c')∧w'.ownsRow w.heap.size 20 1 (.slice p' l.length c') l.length (l.map fun s=>.iface 9 (.string (S s)))∧Below w.heap.size w w':=by
 obtain ⟨i0,hi,hz0,hz1,hz2⟩:=info_parts info20
 generalize hm:l.length=m at *
 have hmk:=make20 m (by omega)
 have HO:=zz (own_new w m (by omega))
 have HM:=zz hM
 clear hM
 go_enter Tryz.func204,Tryz.ntmps204
 go_wp2_with fail
 go_loopg [3,11] m (fun k s3 s11 wr=>∃ (i:Nat) (p':Option Addr) (c':Nat),i≤m∧k=m - i∧s11=.int .i64 i∧s3=.slice p' i c'∧wr.ownsRow w.heap.size 20 1 (.slice p' i c') i ((l.take i).map fun s=>.iface 9 (.string (S s)))∧Below w.heap.size w wr)
 case atStart=>exact ⟨0,_,_,Nat.zero_le _,by omega,rfl,rfl,HO.out,(Below.refl _ w).alloc (Nat.le_refl _) _⟩
 case round=>
  obtain ⟨i,p',c',hi1,rfl,rfl,rfl,hown,hB⟩:=hrel
  have HB:=zz hB
  by_cases hlt:i<m
  ·have hil:i<l.length:=by omega
   rcases HM.out with he | ⟨ba,oa,rfl,hba,hma⟩
   ·rw [he] at hil;simp at hil
   have a1:wr.cell? ⟨ba,oa+i,none⟩=some (.string (S l[i])):=(hB.cell (p:=⟨ba,oa+i,none⟩) (hP ba hba)).trans (hma i l[i] (by simp)).2
   have HTK:Hid ((l.take (i+1)).map (fun s=>Value.iface 9 (.string (S s)))=(l.take i).map (fun s=>Value.iface 9 (.string (S s))) ++ [.iface 9 (.string (S l[i]))]):=by
    show _=_
    rw [List.take_succ_eq_append_getElem hil,List.map_append];rfl
   clear hma hB
   generalize S l[i]=s at *
   generalize (l.take i).map (fun s=>Value.iface 9 (.string (S s)))=xs at *
   have hBs:=HB.out.size
   go_wp2_with (at_builtin;refine wpList_append_own _ rfl _ _ 211 rfl w.heap.size 20 i0 .nilIface 1 16 Tryz.underlying211 hi hz0 hz1 hz2 rfl (by decide) _ _ _ rfl (hown.alloc _) ⟨wr.heap.size,0,none⟩ 1 1 [.iface 9 (.string s)] rfl rfl (cell_one_new _ _ _) (by simp [Value.oneCell']) (by unfold maxLen;omega) (by omega) (by simp;omega) ?_;intro v' w2 hown' hgrow0 _)
   have hgrow:(wr.alloc (.cells #[.iface 9 (.string s)] 20)).grownBy w2 (Value.slice p' i c').ownBlock:=hgrow0
   clear hgrow0
   obtain ⟨ao,cc,rfl⟩:=slice_of hown'
   have HO2:=zz hown'
   have HG2:=zz hgrow
   clear hown' hgrow
   go_roundg (m - (i+1))
   case measure=>omega
   case rel=>
    refine ⟨i+1,ao,cc,by omega,rfl,by go_num,rfl,?_,?_⟩
    ·rw [HTK.out];exact HO2.out
    ·exact (HB.out.alloc hBs _).trans (below_row (hown.alloc _) (by simp;omega) HG2.out)
  ·have HX:Hid (l.take i=l):=by show l.take i=l;rw [List.take_of_length_le (by omega)]
   obtain rfl:i=m:=by omega
   rw [HX.out] at hown
   have HOW:=zz hown
   clear hown
   go_wp2_with fail
   go_ret
   exact ⟨p',c',rfl,HOW.out,HB.out⟩
theorem list_expr {P:Nat→Prop} {p:Option Addr} {c:Nat} {l:List Tr} {w:World} (hn:l.length≤1000000) (hP:∀ b,P b→b<w.heap.size) (hM:RM 5 P w (TrIn P w) p l) :
 Calls Tryz.prog 240 #[.slice p l.length c] w fun e w'=>∃ p' c' vs,e=.returned (.slice p' l.length c')∧w'.ownsRow w.heap.size 20 1 (.slice p' l.length c') l.length vs∧Below w.heap.size w w'∧∀ (i:Nat) t,l[i]?=some t→∃ ds:List Value,(vs:List Value)[i]?=some (Value.iface 27 (.agg ds.toArray))∧TrIn P w t ds:=by
 obtain ⟨i0,hi,hz0,hz1,hz2⟩:=info_parts info20
 generalize hm:l.length=m at *
 have hmk:=make20 m (by omega)
 have HO:=zz (own_new w m (by omega))
 have HM:=zz hM
 clear hM
 go_enter Tryz.func240,Tryz.ntmps240
 go_wp2_with fail
 go_loopg [3,11] m (fun k s3 s11 wr=>∃ (i:Nat) (p':Option Addr) (c':Nat) (vs:List Value),i≤m∧k=m - i∧s11=.int .i64 i∧s3=.slice p' i c'∧wr.ownsRow w.heap.size 20 1 (.slice p' i c') i vs∧Below w.heap.size w wr∧∀ (j:Nat) t,(l.take i)[j]?=some t→∃ ds:List Value,vs[j]?=some (Value.iface 27 (.agg ds.toArray))∧TrIn P w t ds)
 case atStart=>exact ⟨0,_,_,[],Nat.zero_le _,by omega,rfl,rfl,HO.out,(Below.refl _ w).alloc (Nat.le_refl _) _,fun j t ht=>by simp at ht⟩
 case round=>
  obtain ⟨i,p',c',vs,hi1,rfl,rfl,rfl,hown,hB,hV⟩:=hrel
  have HB:=zz hB
  have HV:=zz hV
  have hvl:vs.length=i:=by have:=hown.1;omega
  clear hV
  by_cases hlt:i<m
  ·have hil:i<l.length:=by omega
   rcases HM.out with he | ⟨ba,oa,rfl,hba,hma⟩
   ·rw [he] at hil;simp at hil
   have htk:l.take (i+1)=l.take i ++ [l[i]]:=List.take_succ_eq_append_getElem hil
   have HTL:Hid ((l.take i).length=i):=by show _=_;rw [List.length_take];omega
   obtain ⟨ds,hdl,hcs,hin⟩:=hma i l[i] (by simp)
   generalize l[i]=t at *
   have HIN:=zz hin
   have HTK:=zz htk
   obtain ⟨pn,cn,pk,ck,he,hrest⟩:=(TrIn_iff P w t ds).1 hin
   subst he
   have a0:wr.cell? ⟨ba,oa+i * 5,none⟩=some (.int .i64 t.kd):=(hB.cell (p:=⟨ba,oa+i * 5,none⟩) (hP ba hba)).trans (hcs 0 _ rfl)
   have a1:wr.cell? ⟨ba,oa+i * 5+1,none⟩=some (.string (S t.nm)):=(hB.cell (p:=⟨ba,oa+i * 5+1,none⟩) (hP ba hba)).trans (hcs 1 _ rfl)
   have a2:wr.cell? ⟨ba,oa+i * 5+2,none⟩=some (.int .i64 t.nu):=(hB.cell (p:=⟨ba,oa+i * 5+2,none⟩) (hP ba hba)).trans (hcs 2 _ rfl)
   have a3:wr.cell? ⟨ba,oa+i * 5+3,none⟩=some (.slice pn t.ns.length cn):=(hB.cell (p:=⟨ba,oa+i * 5+3,none⟩) (hP ba hba)).trans (hcs 3 _ rfl)
   have a4:wr.cell? ⟨ba,oa+i * 5+4,none⟩=some (.slice pk t.ks.length ck):=(hB.cell (p:=⟨ba,oa+i * 5+4,none⟩) (hP ba hba)).trans (hcs 4 _ rfl)
   clear hma hB hcs hin htk hrest
   have hBs:=HB.out.size
   go_wp2_with (at_builtin;refine wpList_append_own _ rfl _ _ 211 rfl w.heap.size 20 i0 .nilIface 1 16 Tryz.underlying211 hi hz0 hz1 hz2 rfl (by decide) _ _ _ rfl ((hown.alloc _).alloc _) ⟨wr.heap.size+1,0,none⟩ 1 1 [.iface 27 (.agg #[.int .i64 t.kd,.string (S t.nm),.int .i64 t.nu,.slice pn t.ns.length cn,.slice pk t.ks.length ck])] rfl rfl (cell_one_new2 _ _ _ _) (by simp [Value.oneCell']) (by unfold maxLen;omega) (by omega) (by simp;omega) ?_;intro v' w2 hown' hgrow0 _)
   have hgrow:((wr.alloc (.cells #[.int .i64 t.kd,.string (S t.nm),.int .i64 t.nu,.slice pn t.ns.length cn,.slice pk t.ks.length ck] 27)).alloc (.cells #[.iface 27 (.agg #[.int .i64 t.kd,.string (S t.nm),.int .i64 t.nu,.slice pn t.ns.length cn,.slice pk t.ks.length ck])] 20)).grownBy w2 (Value.slice p' i c').ownBlock:=hgrow0
   clear hgrow0
   obtain ⟨ao,cc,rfl⟩:=slice_of hown'
   have HO2:=zz hown'
   have HG2:=zz hgrow
   clear hown' hgrow
   go_roundg (m - (i+1))
   case measure=>omega
   case rel=>
    refine ⟨i+1,ao,cc,vs ++ [.iface 27 (.agg #[.int .i64 t.kd,.string (S t.nm),.int .i64 t.nu,.slice pn t.ns.length cn,.slice pk t.ks.length ck])],by omega,rfl,by go_num,rfl,HO2.out,?_,?_⟩
    ·exact ((HB.out.alloc hBs _).alloc (by simp;omega) _).trans (below_row ((hown.alloc _).alloc _) (by simp;omega) HG2.out)
    ·intro j u hu
     rw [HTK.out] at hu
     rcases Nat.lt_or_ge j i with hj | hj
     ·rw [List.getElem?_append_left (by rw [HTL.out];exact hj)] at hu
      obtain ⟨ds,h1,h2⟩:=HV.out j u hu
      exact ⟨ds,by rw [List.getElem?_append_left (by omega)];exact h1,h2⟩
     ·rw [List.getElem?_append_right (by rw [HTL.out];exact hj),HTL.out] at hu
      have hji:j=i:=by
       rcases Nat.eq_or_lt_of_le hj with e | e
       ·exact e.symm
       ·rw [List.getElem?_eq_none (by simp;omega)] at hu;cases hu
      subst hji
      rw [Nat.sub_self] at hu
      cases hu
      exact ⟨_,by rw [List.getElem?_append_right (by omega),hvl,Nat.sub_self];rfl,HIN.out⟩
  ·have HX:Hid (l.take i=l):=by show l.take i=l;rw [List.take_of_length_le (by omega)]
   obtain rfl:i=m:=by omega
   have HOW:=zz hown
   clear hown
   go_wp2_with fail
   go_ret
   have hv:=HV.out
   rw [HX.out] at hv
   exact ⟨p',c',vs,rfl,HOW.out,HB.out,hv⟩
theorem list_form {P:Nat→Prop} {p:Option Addr} {c:Nat} {l:List Fm} {w:World} (hn:l.length≤1000000) (hP:∀ b,P b→b<w.heap.size) (hM:RM 2 P w (FmIn P w) p l) :
 Calls Tryz.prog 210 #[.slice p l.length c] w fun e w'=>∃ p' c' vs,e=.returned (.slice p' l.length c')∧w'.ownsRow w.heap.size 20 1 (.slice p' l.length c') l.length vs∧Below w.heap.size w w'∧∀ (i:Nat) t,l[i]?=some t→∃ ds:List Value,(vs:List Value)[i]?=some (Value.iface 121 (.agg ds.toArray))∧FmIn P w t ds:=by
 obtain ⟨i0,hi,hz0,hz1,hz2⟩:=info_parts info20
 generalize hm:l.length=m at *
 have hmk:=make20 m (by omega)
 have HO:=zz (own_new w m (by omega))
 have HM:=zz hM
 clear hM
 go_enter Tryz.func210,Tryz.ntmps210
 go_wp2_with fail
 go_loopg [3,11] m (fun k s3 s11 wr=>∃ (i:Nat) (p':Option Addr) (c':Nat) (vs:List Value),i≤m∧k=m - i∧s11=.int .i64 i∧s3=.slice p' i c'∧wr.ownsRow w.heap.size 20 1 (.slice p' i c') i vs∧Below w.heap.size w wr∧∀ (j:Nat) t,(l.take i)[j]?=some t→∃ ds:List Value,vs[j]?=some (Value.iface 121 (.agg ds.toArray))∧FmIn P w t ds)
 case atStart=>exact ⟨0,_,_,[],Nat.zero_le _,by omega,rfl,rfl,HO.out,(Below.refl _ w).alloc (Nat.le_refl _) _,fun j t ht=>by simp at ht⟩
 case round=>
  obtain ⟨i,p',c',vs,hi1,rfl,rfl,rfl,hown,hB,hV⟩:=hrel
  have HB:=zz hB
  have HV:=zz hV
  have hvl:vs.length=i:=by have:=hown.1;omega
  clear hV
  by_cases hlt:i<m
  ·have hil:i<l.length:=by omega
   rcases HM.out with he | ⟨ba,oa,rfl,hba,hma⟩
   ·rw [he] at hil;simp at hil
   have htk:l.take (i+1)=l.take i ++ [l[i]]:=List.take_succ_eq_append_getElem hil
   have HTL:Hid ((l.take i).length=i):=by show _=_;rw [List.length_take];omega
   obtain ⟨ds,hdl,hcs,hin⟩:=hma i l[i] (by simp)
   generalize l[i]=t at *
   have HIN:=zz hin
   have HTK:=zz htk
   obtain ⟨pk,ck,he,hrest⟩:=HIN.out
   subst he
   have a0:wr.cell? ⟨ba,oa+i * 2,none⟩=some (.string (S t.nm)):=(hB.cell (p:=⟨ba,oa+i * 2,none⟩) (hP ba hba)).trans (hcs 0 _ rfl)
   have a1:wr.cell? ⟨ba,oa+i * 2+1,none⟩=some (.slice pk t.ar.length ck):=(hB.cell (p:=⟨ba,oa+i * 2+1,none⟩) (hP ba hba)).trans (hcs 1 _ rfl)
   clear hma hB hcs hin htk hrest
   have hBs:=HB.out.size
   go_wp2_with (at_builtin;refine wpList_append_own _ rfl _ _ 211 rfl w.heap.size 20 i0 .nilIface 1 16 Tryz.underlying211 hi hz0 hz1 hz2 rfl (by decide) _ _ _ rfl ((hown.alloc _).alloc _) ⟨wr.heap.size+1,0,none⟩ 1 1 [.iface 121 (.agg #[.string (S t.nm),.slice pk t.ar.length ck])] rfl rfl (cell_one_new2 _ _ _ _) (by simp [Value.oneCell']) (by unfold maxLen;omega) (by omega) (by simp;omega) ?_;intro v' w2 hown' hgrow0 _)
   have hgrow:((wr.alloc (.cells #[.string (S t.nm),.slice pk t.ar.length ck] 121)).alloc (.cells #[.iface 121 (.agg #[.string (S t.nm),.slice pk t.ar.length ck])] 20)).grownBy w2 (Value.slice p' i c').ownBlock:=hgrow0
   clear hgrow0
   obtain ⟨ao,cc,rfl⟩:=slice_of hown'
   have HO2:=zz hown'
   have HG2:=zz hgrow
   clear hown' hgrow
   go_roundg (m - (i+1))
   case measure=>omega
   case rel=>
    refine ⟨i+1,ao,cc,vs ++ [.iface 121 (.agg #[.string (S t.nm),.slice pk t.ar.length ck])],by omega,rfl,by go_num,rfl,HO2.out,?_,?_⟩
    ·exact ((HB.out.alloc hBs _).alloc (by simp;omega) _).trans (below_row ((hown.alloc _).alloc _) (by simp;omega) HG2.out)
    ·intro j u hu
     rw [HTK.out] at hu
     rcases Nat.lt_or_ge j i with hj | hj
     ·rw [List.getElem?_append_left (by rw [HTL.out];exact hj)] at hu
      obtain ⟨ds,h1,h2⟩:=HV.out j u hu
      exact ⟨ds,by rw [List.getElem?_append_left (by omega)];exact h1,h2⟩
     ·rw [List.getElem?_append_right (by rw [HTL.out];exact hj),HTL.out] at hu
      have hji:j=i:=by
       rcases Nat.eq_or_lt_of_le hj with e | e
       ·exact e.symm
       ·rw [List.getElem?_eq_none (by simp;omega)] at hu;cases hu
      subst hji
      rw [Nat.sub_self] at hu
      cases hu
      exact ⟨_,by rw [List.getElem?_append_right (by omega),hvl,Nat.sub_self];rfl,HIN.out⟩
  ·have HX:Hid (l.take i=l):=by show l.take i=l;rw [List.take_of_length_le (by omega)]
   obtain rfl:i=m:=by omega
   have HOW:=zz hown
   clear hown
   go_wp2_with fail
   go_ret
   have hv:=HV.out
   rw [HX.out] at hv
   exact ⟨p',c',vs,rfl,HOW.out,HB.out,hv⟩
theorem list_data {P:Nat→Prop} {p:Option Addr} {c:Nat} {l:List Dt} {w:World} (hn:l.length≤1000000) (hP:∀ b,P b→b<w.heap.size) (hM:RM 3 P w (DtIn P w) p l) :
 Calls Tryz.prog 211 #[.slice p l.length c] w fun e w'=>∃ p' c' vs,e=.returned (.slice p' l.length c')∧w'.ownsRow w.heap.size 20 1 (.slice p' l.length c') l.length vs∧Below w.heap.size w w'∧∀ (i:Nat) t,l[i]?=some t→∃ ds:List Value,(vs:List Value)[i]?=some (Value.iface 77 (.agg ds.toArray))∧DtIn P w t ds:=by
 obtain ⟨i0,hi,hz0,hz1,hz2⟩:=info_parts info20
 generalize hm:l.length=m at *
 have hmk:=make20 m (by omega)
 have HO:=zz (own_new w m (by omega))
 have HM:=zz hM
 clear hM
 go_enter Tryz.func211,Tryz.ntmps211
 go_wp2_with fail
 go_loopg [3,11] m (fun k s3 s11 wr=>∃ (i:Nat) (p':Option Addr) (c':Nat) (vs:List Value),i≤m∧k=m - i∧s11=.int .i64 i∧s3=.slice p' i c'∧wr.ownsRow w.heap.size 20 1 (.slice p' i c') i vs∧Below w.heap.size w wr∧∀ (j:Nat) t,(l.take i)[j]?=some t→∃ ds:List Value,vs[j]?=some (Value.iface 77 (.agg ds.toArray))∧DtIn P w t ds)
 case atStart=>exact ⟨0,_,_,[],Nat.zero_le _,by omega,rfl,rfl,HO.out,(Below.refl _ w).alloc (Nat.le_refl _) _,fun j t ht=>by simp at ht⟩
 case round=>
  obtain ⟨i,p',c',vs,hi1,rfl,rfl,rfl,hown,hB,hV⟩:=hrel
  have HB:=zz hB
  have HV:=zz hV
  have hvl:vs.length=i:=by have:=hown.1;omega
  clear hV
  by_cases hlt:i<m
  ·have hil:i<l.length:=by omega
   rcases HM.out with he | ⟨ba,oa,rfl,hba,hma⟩
   ·rw [he] at hil;simp at hil
   have htk:l.take (i+1)=l.take i ++ [l[i]]:=List.take_succ_eq_append_getElem hil
   have HTL:Hid ((l.take i).length=i):=by show _=_;rw [List.length_take];omega
   obtain ⟨ds,hdl,hcs,hin⟩:=hma i l[i] (by simp)
   generalize l[i]=t at *
   have HIN:=zz hin
   have HTK:=zz htk
   obtain ⟨pn,cn,pk,ck,he,hrest⟩:=HIN.out
   subst he
   have a0:wr.cell? ⟨ba,oa+i * 3,none⟩=some (.string (S t.nm)):=(hB.cell (p:=⟨ba,oa+i * 3,none⟩) (hP ba hba)).trans (hcs 0 _ rfl)
   have a1:wr.cell? ⟨ba,oa+i * 3+1,none⟩=some (.slice pn t.ps.length cn):=(hB.cell (p:=⟨ba,oa+i * 3+1,none⟩) (hP ba hba)).trans (hcs 1 _ rfl)
   have a2:wr.cell? ⟨ba,oa+i * 3+2,none⟩=some (.slice pk t.fs.length ck):=(hB.cell (p:=⟨ba,oa+i * 3+2,none⟩) (hP ba hba)).trans (hcs 2 _ rfl)
   clear hma hB hcs hin htk hrest
   have hBs:=HB.out.size
   go_wp2_with (at_builtin;refine wpList_append_own _ rfl _ _ 211 rfl w.heap.size 20 i0 .nilIface 1 16 Tryz.underlying211 hi hz0 hz1 hz2 rfl (by decide) _ _ _ rfl ((hown.alloc _).alloc _) ⟨wr.heap.size+1,0,none⟩ 1 1 [.iface 77 (.agg #[.string (S t.nm),.slice pn t.ps.length cn,.slice pk t.fs.length ck])] rfl rfl (cell_one_new2 _ _ _ _) (by simp [Value.oneCell']) (by unfold maxLen;omega) (by omega) (by simp;omega) ?_;intro v' w2 hown' hgrow0 _)
   have hgrow:((wr.alloc (.cells #[.string (S t.nm),.slice pn t.ps.length cn,.slice pk t.fs.length ck] 77)).alloc (.cells #[.iface 77 (.agg #[.string (S t.nm),.slice pn t.ps.length cn,.slice pk t.fs.length ck])] 20)).grownBy w2 (Value.slice p' i c').ownBlock:=hgrow0
   clear hgrow0
   obtain ⟨ao,cc,rfl⟩:=slice_of hown'
   have HO2:=zz hown'
   have HG2:=zz hgrow
   clear hown' hgrow
   go_roundg (m - (i+1))
   case measure=>omega
   case rel=>
    refine ⟨i+1,ao,cc,vs ++ [.iface 77 (.agg #[.string (S t.nm),.slice pn t.ps.length cn,.slice pk t.fs.length ck])],by omega,rfl,by go_num,rfl,HO2.out,?_,?_⟩
    ·exact ((HB.out.alloc hBs _).alloc (by simp;omega) _).trans (below_row ((hown.alloc _).alloc _) (by simp;omega) HG2.out)
    ·intro j u hu
     rw [HTK.out] at hu
     rcases Nat.lt_or_ge j i with hj | hj
     ·rw [List.getElem?_append_left (by rw [HTL.out];exact hj)] at hu
      obtain ⟨ds,h1,h2⟩:=HV.out j u hu
      exact ⟨ds,by rw [List.getElem?_append_left (by omega)];exact h1,h2⟩
     ·rw [List.getElem?_append_right (by rw [HTL.out];exact hj),HTL.out] at hu
      have hji:j=i:=by
       rcases Nat.eq_or_lt_of_le hj with e | e
       ·exact e.symm
       ·rw [List.getElem?_eq_none (by simp;omega)] at hu;cases hu
      subst hji
      rw [Nat.sub_self] at hu
      cases hu
      exact ⟨_,by rw [List.getElem?_append_right (by omega),hvl,Nat.sub_self];rfl,HIN.out⟩
  ·have HX:Hid (l.take i=l):=by show l.take i=l;rw [List.take_of_length_le (by omega)]
   obtain rfl:i=m:=by omega
   have HOW:=zz hown
   clear hown
   go_wp2_with fail
   go_ret
   have hv:=HV.out
   rw [HX.out] at hv
   exact ⟨p',c',vs,rfl,HOW.out,HB.out,hv⟩
theorem list_def {P:Nat→Prop} {p:Option Addr} {c:Nat} {l:List Df} {w:World} (hn:l.length≤1000000) (hP:∀ b,P b→b<w.heap.size) (hM:RM 6 P w (DfIn P w) p l) :
 Calls Tryz.prog 212 #[.slice p l.length c] w fun e w'=>∃ p' c' vs,e=.returned (.slice p' l.length c')∧w'.ownsRow w.heap.size 20 1 (.slice p' l.length c') l.length vs∧Below w.heap.size w w'∧∀ (i:Nat) t,l[i]?=some t→∃ ds:List Value,(vs:List Value)[i]?=some (Value.iface 79 (.agg ds.toArray))∧DfIn P w t ds:=by
 obtain ⟨i0,hi,hz0,hz1,hz2⟩:=info_parts info20
 generalize hm:l.length=m at *
 have hmk:=make20 m (by omega)
 have HO:=zz (own_new w m (by omega))
 have HM:=zz hM
 clear hM
 go_enter Tryz.func212,Tryz.ntmps212
 go_wp2_with fail
 go_loopg [3,11] m (fun k s3 s11 wr=>∃ (i:Nat) (p':Option Addr) (c':Nat) (vs:List Value),i≤m∧k=m - i∧s11=.int .i64 i∧s3=.slice p' i c'∧wr.ownsRow w.heap.size 20 1 (.slice p' i c') i vs∧Below w.heap.size w wr∧∀ (j:Nat) t,(l.take i)[j]?=some t→∃ ds:List Value,vs[j]?=some (Value.iface 79 (.agg ds.toArray))∧DfIn P w t ds)
 case atStart=>exact ⟨0,_,_,[],Nat.zero_le _,by omega,rfl,rfl,HO.out,(Below.refl _ w).alloc (Nat.le_refl _) _,fun j t ht=>by simp at ht⟩
 case round=>
  obtain ⟨i,p',c',vs,hi1,rfl,rfl,rfl,hown,hB,hV⟩:=hrel
  have HB:=zz hB
  have HV:=zz hV
  have hvl:vs.length=i:=by have:=hown.1;omega
  clear hV
  by_cases hlt:i<m
  ·have hil:i<l.length:=by omega
   rcases HM.out with he | ⟨ba,oa,rfl,hba,hma⟩
   ·rw [he] at hil;simp at hil
   have htk:l.take (i+1)=l.take i ++ [l[i]]:=List.take_succ_eq_append_getElem hil
   have HTL:Hid ((l.take i).length=i):=by show _=_;rw [List.length_take];omega
   obtain ⟨ds,hdl,hcs,hin⟩:=hma i l[i] (by simp)
   generalize l[i]=t at *
   have HIN:=zz hin
   have HTK:=zz htk
   obtain ⟨ds0,hds,hnm,hin0⟩:=HIN.out
   obtain ⟨pn,cn,pk,ck,he0,hrest⟩:=(TrIn_iff P w t.bd ds0).1 hin0
   have he:ds=[.string (S t.nm),.int .i64 t.bd.kd,.string (S t.bd.nm),.int .i64 t.bd.nu,.slice pn t.bd.ns.length cn,.slice pk t.bd.ks.length ck]:=by rw [hds,he0]
   clear hds he0 hin0
   subst he
   have a0:wr.cell? ⟨ba,oa+i * 6,none⟩=some (.string (S t.nm)):=(hB.cell (p:=⟨ba,oa+i * 6,none⟩) (hP ba hba)).trans (hcs 0 _ rfl)
   have a1:wr.cell? ⟨ba,oa+i * 6+1,none⟩=some (.int .i64 t.bd.kd):=(hB.cell (p:=⟨ba,oa+i * 6+1,none⟩) (hP ba hba)).trans (hcs 1 _ rfl)
   have a2:wr.cell? ⟨ba,oa+i * 6+2,none⟩=some (.string (S t.bd.nm)):=(hB.cell (p:=⟨ba,oa+i * 6+2,none⟩) (hP ba hba)).trans (hcs 2 _ rfl)
   have a3:wr.cell? ⟨ba,oa+i * 6+3,none⟩=some (.int .i64 t.bd.nu):=(hB.cell (p:=⟨ba,oa+i * 6+3,none⟩) (hP ba hba)).trans (hcs 3 _ rfl)
   have a4:wr.cell? ⟨ba,oa+i * 6+4,none⟩=some (.slice pn t.bd.ns.length cn):=(hB.cell (p:=⟨ba,oa+i * 6+4,none⟩) (hP ba hba)).trans (hcs 4 _ rfl)
   have a5:wr.cell? ⟨ba,oa+i * 6+5,none⟩=some (.slice pk t.bd.ks.length ck):=(hB.cell (p:=⟨ba,oa+i * 6+5,none⟩) (hP ba hba)).trans (hcs 5 _ rfl)
   clear hma hB hcs hin htk hrest
   have hBs:=HB.out.size
   go_wp2_with (at_builtin;refine wpList_append_own _ rfl _ _ 211 rfl w.heap.size 20 i0 .nilIface 1 16 Tryz.underlying211 hi hz0 hz1 hz2 rfl (by decide) _ _ _ rfl ((hown.alloc _).alloc _) ⟨wr.heap.size+1,0,none⟩ 1 1 [.iface 79 (.agg #[.string (S t.nm),.int .i64 t.bd.kd,.string (S t.bd.nm),.int .i64 t.bd.nu,.slice pn t.bd.ns.length cn,.slice pk t.bd.ks.length ck])] rfl rfl (cell_one_new2 _ _ _ _) (by simp [Value.oneCell']) (by unfold maxLen;omega) (by omega) (by simp;omega) ?_;intro v' w2 hown' hgrow0 _)
   have hgrow:((wr.alloc (.cells #[.string (S t.nm),.int .i64 t.bd.kd,.string (S t.bd.nm),.int .i64 t.bd.nu,.slice pn t.bd.ns.length cn,.slice pk t.bd.ks.length ck] 79)).alloc (.cells #[.iface 79 (.agg #[.string (S t.nm),.int .i64 t.bd.kd,.string (S t.bd.nm),.int .i64 t.bd.nu,.slice pn t.bd.ns.length cn,.slice pk t.bd.ks.length ck])] 20)).grownBy w2 (Value.slice p' i c').ownBlock:=hgrow0
   clear hgrow0
   obtain ⟨ao,cc,rfl⟩:=slice_of hown'
   have HO2:=zz hown'
   have HG2:=zz hgrow
   clear hown' hgrow
   go_roundg (m - (i+1))
   case measure=>omega
   case rel=>
    refine ⟨i+1,ao,cc,vs ++ [.iface 79 (.agg #[.string (S t.nm),.int .i64 t.bd.kd,.string (S t.bd.nm),.int .i64 t.bd.nu,.slice pn t.bd.ns.length cn,.slice pk t.bd.ks.length ck])],by omega,rfl,by go_num,rfl,HO2.out,?_,?_⟩
    ·exact ((HB.out.alloc hBs _).alloc (by simp;omega) _).trans (below_row ((hown.alloc _).alloc _) (by simp;omega) HG2.out)
    ·intro j u hu
     rw [HTK.out] at hu
     rcases Nat.lt_or_ge j i with hj | hj
     ·rw [List.getElem?_append_left (by rw [HTL.out];exact hj)] at hu
      obtain ⟨ds,h1,h2⟩:=HV.out j u hu
      exact ⟨ds,by rw [List.getElem?_append_left (by omega)];exact h1,h2⟩
     ·rw [List.getElem?_append_right (by rw [HTL.out];exact hj),HTL.out] at hu
      have hji:j=i:=by
       rcases Nat.eq_or_lt_of_le hj with e | e
       ·exact e.symm
       ·rw [List.getElem?_eq_none (by simp;omega)] at hu;cases hu
      subst hji
      rw [Nat.sub_self] at hu
      cases hu
      exact ⟨_,by rw [List.getElem?_append_right (by omega),hvl,Nat.sub_self];rfl,HIN.out⟩
  ·have HX:Hid (l.take i=l):=by show l.take i=l;rw [List.take_of_length_le (by omega)]
   obtain rfl:i=m:=by omega
   have HOW:=zz hown
   clear hown
   go_wp2_with fail
   go_ret
   have hv:=HV.out
   rw [HX.out] at hv
   exact ⟨p',c',vs,rfl,HOW.out,HB.out,hv⟩
def btw (s:Value):List Value→List Value
 | []=>[]
 | v :: r=>v :: r.flatMap fun u=>[s,u]
theorem btw_snoc (s:Value) (l:List Value) (v:Value):btw s (l ++ [v])=if l=[] then [v] else btw s l ++ [s,v]:=by
 cases l with
 | nil=>rfl
 | cons a r=>simp [btw]
theorem btw_len (s:Value) (l:List Value):(btw s l).length≤2 * l.length:=by
 cases l with
 | nil=>simp [btw]
 | cons a r=>
  have:(r.flatMap fun u=>[s,u]).length=2 * r.length:=by
   induction r with
   | nil=>rfl
   | cons b r ih=>simp only [List.flatMap_cons,List.length_append,ih,List.length_cons,List.length_nil];omega
  simp only [btw,List.length_cons,this];omega
def VM (w:World) (p:Option Addr) (vs:List Value):Prop:=vs=[]∨∃ b o,p=some ⟨b,o,none⟩∧b<w.heap.size∧∀ i v,vs[i]?=some v→w.cell? ⟨b,o+i,none⟩=some v
theorem between_any {p:Option Addr} {c:Nat} {vs:List Value} {w:World} (s:List UInt8) (hn:vs.length≤2000000) (hM:VM w p vs) (h1:∀ v ∈ vs,∃ t x,v=.iface t x) :
 Calls Tryz.prog 205 #[.agg #[.string (S s),.slice p vs.length c]] w fun e w'=>∃ p' c',e=.returned (.slice p' (btw (.iface 9 (.string (S s))) vs).length c')∧w'.ownsRow w.heap.size 20 1 (.slice p' (btw (.iface 9 (.string (S s))) vs).length c') (btw (.iface 9 (.string (S s))) vs).length (btw (.iface 9 (.string (S s))) vs)∧Below w.heap.size w w':=by
 obtain ⟨i0,hi,hz0,hz1,hz2⟩:=info_parts info20
 generalize hm:vs.length=m at *
 generalize S s=sb at *
 have HM:=zz hM
 have H1:=zz h1
 clear hM h1
 have hW:Hold w.heap.size #[.string sb,.slice p m c] 216 (w.alloc (.cells #[.string sb,.slice p m c] 216)):=Hold.new w _ 216
 have c0:=hW.cell 0
 have c1:=hW.cell 1
 simp only [lGA,lGS,lGZ] at c0 c1
 go_enter Tryz.func205,Tryz.ntmps205
 go_wp2_with fail
 generalize hsv:Value.iface 9 (.string sb)=sv at *
 have HSV:=zz hsv
 clear hsv
 go_loopg [3,9] m (fun k s3 s9 wr=>∃ (i:Nat) (p':Option Addr) (c':Nat),i≤m∧k=m - i∧s9=.int .i64 i∧s3=.slice p' (btw sv (vs.take i)).length c'∧wr.ownsRow (w.heap.size+1) 20 1 (.slice p' (btw sv (vs.take i)).length c') (btw sv (vs.take i)).length (btw sv (vs.take i))∧Below (w.heap.size+1) (w.alloc (.cells #[.string sb,.slice p m c] 216)) wr)
 case atStart=>exact ⟨0,none,0,Nat.zero_le _,by omega,rfl,rfl,World.ownsRow_nil _ _ _ _,Below.refl _ _⟩
 case round=>
  obtain ⟨i,p',c',hi1,rfl,rfl,rfl,hown,hB⟩:=hrel
  have hBs:w.heap.size+1≤wr.heap.size:=by have:=hB.size;simpa using this
  have d0:wr.cell? ⟨w.heap.size,0,none⟩=some (.string sb):=(hB.cell (p:=⟨w.heap.size,0,none⟩) (Nat.lt_succ_self _)).trans c0
  have HB:=zz hB
  have hln:=btw_len sv (vs.take i)
  rw [List.length_take,Nat.min_eq_left (by omega)] at hln
  by_cases hlt:i<m
  ·have hil:i<vs.length:=by omega
   rcases HM.out with he | ⟨ba,oa,rfl,hba,hma⟩
   ·rw [he] at hil;simp at hil
   have a1:wr.cell? ⟨ba,oa+i,none⟩=some vs[i]:=(hB.cell (p:=⟨ba,oa+i,none⟩) (Nat.lt_succ_of_lt hba)).trans (((Below.refl _ w).alloc (Nat.le_refl _) _).cell (p:=⟨ba,oa+i,none⟩) hba |>.trans (hma i vs[i] (by simp)))
   obtain ⟨ti,xi,hvi⟩:=H1.out vs[i] (by simp)
   have htk:vs.take (i+1)=vs.take i ++ [vs[i]]:=List.take_succ_eq_append_getElem hil
   have hbt:=btw_snoc sv (vs.take i) vs[i]
   rw [← htk] at hbt
   rw [hvi] at a1 hbt
   by_cases hi0:i=0
   ·subst hi0
    rw [if_pos (by rfl)] at hbt
    have HBT:=zz hbt
    clear hma hB htk hbt hvi
    have e0:btw sv (vs.take 0)=[]:=rfl
    rw [e0] at hown hln
    rw [e0]
    simp only [List.length_nil] at *
    simp only [Nat.add_zero] at a1
    go_wp2_with (at_builtin;refine wpList_append_own _ rfl _ _ 211 rfl (w.heap.size+1) 20 i0 .nilIface 1 16 Tryz.underlying211 hi hz0 hz1 hz2 rfl (by decide) _ _ _ rfl (hown.alloc _) ⟨wr.heap.size,0,none⟩ 1 1 [.iface ti xi] rfl rfl (cell_one_new _ _ _) (by simp [Value.oneCell']) (by unfold maxLen;omega) (by omega) (by simp;omega) ?_;intro v' w2 hown' hgrow0 _;have hgrow:(wr.alloc (.cells #[.iface ti xi] 20)).grownBy w2 (Value.slice p' 0 c').ownBlock:=hgrow0;clear hgrow0;obtain ⟨ao,cc,rfl⟩:=slice_of hown')
    have HO2:=zz hown'
    have HG2:=zz hgrow
    clear hown' hgrow
    go_roundg (m - 1)
    case measure=>omega
    case rel=>
     refine ⟨1,ao,cc,by omega,rfl,rfl,?_,?_,?_⟩
     ·rw [HBT.out];rfl
     ·rw [HBT.out];exact HO2.out
     ·exact (HB.out.alloc hBs _).trans (below_row (hown.alloc _) (by simp;omega) HG2.out)
   ·rw [if_neg (fun h=>by have:=congrArg List.length h;rw [List.length_take,Nat.min_eq_left (by omega)] at this;simp at this;omega)] at hbt
    have HBT:=zz hbt
    clear hma hB htk hbt hvi
    generalize hL:btw sv (vs.take i)=xs at *
    generalize hl2:xs.length=L at *
    have hi2:(0:Int)<i:=by omega
    go_wp2_with (at_builtin;first | (refine wpList_append_own _ rfl _ _ 211 rfl (w.heap.size+1) 20 i0 .nilIface 1 16 Tryz.underlying211 hi hz0 hz1 hz2 rfl (by decide) _ _ _ rfl (hownA.alloc _) ⟨w2.heap.size,0,none⟩ 1 1 [.iface ti xi] rfl rfl (cell_one_new _ _ _) (by simp [Value.oneCell']) (by unfold maxLen;omega) (by omega) (by simp;omega) ?_;intro v3 w3 hownB hgrow0 _;have hgrowB:(w2.alloc (.cells #[.iface ti xi] 20)).grownBy w3 (Value.slice ao (L+1) cc).ownBlock:=hgrow0;clear hgrow0;obtain ⟨ao3,cc3,rfl⟩:=slice_of hownB;have HG3:=zz hgrowB;clear hgrowB) | (refine wpList_append_own _ rfl _ _ 211 rfl (w.heap.size+1) 20 i0 .nilIface 1 16 Tryz.underlying211 hi hz0 hz1 hz2 rfl (by decide) _ _ _ rfl (hown.alloc _) ⟨wr.heap.size,0,none⟩ 1 1 [.iface 9 (.string sb)] rfl rfl (cell_one_new _ _ _) (by simp [Value.oneCell']) (by unfold maxLen;omega) (by omega) (by simp;omega) ?_;intro v' w2 hownA hgrow0 _;have hgrow:(wr.alloc (.cells #[.iface 9 (.string sb)] 20)).grownBy w2 (Value.slice p' L c').ownBlock:=hgrow0;clear hgrow0;obtain ⟨ao,cc,rfl⟩:=slice_of hownA;have hw2:wr.heap.size+1≤w2.heap.size:=(by have:=hgrow.size;simpa using this);have HG2:=zz hgrow;clear hgrow))
    have HO3:=zz hownB
    clear hownB
    go_roundg (m - (i+1))
    case measure=>omega
    case rel=>
     have hx:btw sv (vs.take (i+1))=xs ++ [.iface 9 (.string sb)] ++ [.iface ti xi]:=by rw [HBT.out,HSV.out];simp
     have hxl:(btw sv (vs.take (i+1))).length=L+1+1:=by rw [hx];simp [hl2]
     refine ⟨i+1,ao3,cc3,by omega,rfl,by go_num,?_,?_,?_⟩
     ·rw [hxl]
     ·rw [hxl,hx];exact HO3.out
     ·exact (((HB.out.alloc hBs _).trans (below_row (hown.alloc _) (by simp;omega) HG2.out)).alloc (by omega) _).trans (below_row (hownA.alloc _) (by simp;omega) HG3.out)
  ·have HX:Hid (vs.take i=vs):=by show vs.take i=vs;rw [List.take_of_length_le (by omega)]
   rw [HX.out] at hown
   rw [HX.out]
   have HOW:=zz hown
   clear hown
   go_wp2_with fail
   go_ret
   obtain rfl:=HSV.out
   refine ⟨p',c',rfl,?_,?_⟩
   ·obtain ⟨h1,h2⟩:=HOW.out
    refine ⟨h1,?_⟩
    rcases h2 with h2 | ⟨g,cap,cur,e1,e2,e3⟩
    ·exact .inl h2
    ·exact .inr ⟨g,cap,cur,e1,by omega,e3⟩
   ·exact ((Below.refl _ w).alloc (Nat.le_refl _) _).trans (HB.out.mono (by omega))
theorem block_any {P:Nat→Prop} {p:Option Addr} {c:Nat} {l:List Tr} {w:World} (hn:l.length≤1000000) (hP:∀ b,P b→b<w.heap.size) (hM:EM P w p l) :
 Calls Tryz.prog 231 #[.slice p l.length c] w fun e w'=>∃ p' c' vs,e=.returned (.agg #[.string (S [59]),.slice p' l.length c'])∧w'.ownsRow w.heap.size 20 1 (.slice p' l.length c') l.length vs∧Below w.heap.size w w'∧∀ (i:Nat) t,l[i]?=some t→∃ ds:List Value,(vs:List Value)[i]?=some (Value.iface 27 (.agg ds.toArray))∧TrIn P w' t ds:=by
 have hW:Hold w.heap.size #[.string ⟨#[]⟩,.slice none 0 0] 216 (w.alloc (.cells #[.string ⟨#[]⟩,.slice none 0 0] 216)):=Hold.new w _ 216
 have hK:KP P w (w.alloc (.cells #[.string ⟨#[]⟩,.slice none 0 0] 216)):=KP.alloc w _ hP
 have hL:=list_expr (c:=c) hn (fun b hb=>by rw [World.size_alloc];exact Nat.lt_succ_of_lt (hP b hb)) (EM.keep hK (fun b hb=>hb) hM)
 have HW:=zz hW
 have HL:=zz hL
 clear hW hK hL
 go_enter Tryz.func231,Tryz.ntmps231
 go_wp2_with fail
 refine HL.out.mono ?_
 rintro e w1 ⟨p',c',vs,rfl,hown,hB,hV⟩
 have hH1:=HW.out.below hB HW.out.lt
 have f0:=hH1.frozen 0
 have f1:=hH1.frozen 1
 have c0:=hH1.cell 0
 have c1:=hH1.cell 1
 simp only [lGA,lGS,lGZ] at c0 c1
 have HH1:=zz hH1
 have HO:=zz hown
 have HB:=zz hB
 have HV:=zz hV
 clear hH1 hown hB hV
 go_wp2_with fail
 have hH2:=(HH1.out.set 0 (.string ⟨#[59]⟩)).set 1 (.slice p' l.length c')
 have d0:=hH2.cell 0
 have d1:=hH2.cell 1
 simp at d0 d1
 refine bodyPost_ret (v:=.agg #[.string (S [59]),.slice p' l.length c']) (by simp only [results,Tryz.results231];go_simp;rfl) rfl ?_
 have hP2:¬ P w.heap.size:=fun h=>Nat.lt_irrefl _ (hP _ h)
 have k1:KP P (w.alloc (.cells #[.string ⟨#[]⟩,.slice none 0 0] 216)) ((w1.setCell ⟨w.heap.size,0,none⟩ (.string ⟨#[59]⟩)).setCell ⟨w.heap.size,1,none⟩ (.slice p' l.length c')):=
  ((KP.of_below HB.out fun b hb=>by rw [World.size_alloc];exact Nat.lt_succ_of_lt (hP b hb)).trans (KP.setCell _ _ _ _ hP2)).trans (KP.setCell _ _ _ _ hP2)
 refine ⟨p',c',vs,rfl,?_,?_,?_⟩
 ·have h1:=row_other (row_other HO.out HH1.out (by decide) 0 (.string ⟨#[59]⟩)) (HH1.out.set 0 _) (by decide) 1 (.slice p' l.length c')
  obtain ⟨g1,g2⟩:=h1
  refine ⟨g1,?_⟩
  rcases g2 with h2 | ⟨g,cap,cur,e1,e2,e3⟩
  ·exact .inl h2
  ·exact .inr ⟨g,cap,cur,e1,by rw [World.size_alloc] at e2;omega,e3⟩
 ·exact ((below_next HB.out).setCell (p:=⟨w.heap.size,0,none⟩) (Nat.le_refl _) _).setCell (p:=⟨w.heap.size,1,none⟩) (Nat.le_refl _) _
 ·intro i t ht
  obtain ⟨ds,h1,h2⟩:=HV.out i t ht
  exact ⟨ds,h1,TrIn.keep k1 (fun b hb=>hb) t ds h2⟩
theorem TXs.below {P:Nat→Prop} {t:Nat} {a0:Value} {pa:Option Addr} {ca:Nat} {o:List UInt8} {r:Int} {tg:Bool} {l:Int} {nn:Bool} {w w':World} (h:TXs P t a0 pa ca o r tg l nn w) (hb:Below w.heap.size w w'):TXs P t a0 pa ca o r tg l nn w':=by
 refine ⟨h.hold.below hb h.hold.lt,row_keep h.own fun g _ hg=>hb.block g hg,h.self,h.room,fun b hP=>?_⟩
 obtain ⟨h1,h2,h3⟩:=h.apart b hP
 exact ⟨Nat.lt_of_lt_of_le h1 hb.size,h2,h3⟩
theorem TX.below {P:Nat→Prop} {t:Nat} {st:St} {lv:Nat} {w w':World} (h:TX P t st lv w) (hb:Below w.heap.size w w'):TX P t st lv w':=by
 obtain ⟨a0,pa,ca,o,r,tg,l,nn,hT,hS⟩:=h
 exact ⟨a0,pa,ca,o,r,tg,l,nn,hT.below hb,hS⟩
theorem TX.weak {P Q:Nat→Prop} {t:Nat} {st:St} {lv:Nat} {w:World} (h:TX P t st lv w) (hq:∀ b,Q b→P b):TX Q t st lv w:=by
 obtain ⟨a0,pa,ca,o,r,tg,l,nn,hT,hS⟩:=h
 exact ⟨a0,pa,ca,o,r,tg,l,nn,⟨hT.hold,hT.own,hT.self,hT.room,fun b hb=>hT.apart b (hq b hb)⟩,hS⟩
theorem TX.lt {P:Nat→Prop} {t:Nat} {st:St} {lv:Nat} {w:World} (h:TX P t st lv w):∀ b,P b→b<w.heap.size:=by
 obtain ⟨a0,pa,ca,o,r,tg,l,nn,hT,hS⟩:=h
 exact fun b hb=>(hT.apart b hb).1
theorem TX.new {P:Nat→Prop} {t:Nat} {st:St} {lv:Nat} {w:World} (h:TX P t st lv w) (o:Obj):TX (fun b=>P b∨b=w.heap.size) t st lv (w.alloc o):=by
 have hb:Below w.heap.size w (w.alloc o):=(Below.refl _ w).alloc (Nat.le_refl _) o
 obtain ⟨a0,pa,ca,o',r,tg,l,nn,hT,hS⟩:=h
 have h2:=hT.below hb
 refine ⟨a0,pa,ca,o',r,tg,l,nn,⟨h2.hold,h2.own,h2.self,h2.room,fun b hb=>?_⟩,hS⟩
 rcases hb with hb | rfl
 ·exact h2.apart b hb
 ·exact ⟨by simp,fun e=>by have:=hT.hold.lt;omega,row_lt hT.own⟩
def GP (P : Nat → Prop) (w : World) : Prop := Lib.TabIs Tryz.prog w "internal/strconv.uint64pow10" .u64 Lib.pow10Tab ∧ ∀ g, Tryz.prog.globalNamed "internal/strconv.uint64pow10" = some g → P g
theorem GP.keep {P Q:Nat→Prop} {w w':World} (h:GP P w) (k:KP P w w') (hq:∀ b,P b→Q b):GP Q w':=by
 refine ⟨?_,fun g hg=>hq g (h.2 g hg)⟩
 have h1:=h.1
 unfold Lib.TabIs World.var? at h1 ⊢
 cases hg : Tryz.prog.globalNamed "internal/strconv.uint64pow10" with
 | none=>rw [hg] at h1;cases h1
 | some g=>
  rw [hg] at h1
  simp only [Option.bind_some] at h1 ⊢
  rw [show w'.heap[g]?=w.heap[g]? from k.block g (h.2 g hg)]
  exact h1
def PutOK (n:Nat):Prop:=∀ (P:Nat→Prop) (t:Nat) (st:St) (lv:Nat) (ps:List Pt) (p:Option Addr) (c:Nat) (w:World),ptsw ps≤n→lv≤30→SlOK p ps.length c→AM (PV P w) P w p ps→GP P w→TX P t st lv w →
 Calls Tryz.prog 168 #[.pointer (some ⟨t,0,none⟩),.slice p ps.length c] w fun e w'=>e=.returned (.tuple #[])∧TX P t (ptsA lv ps st) lv w'∧KP P w w'
theorem put_new {n:Nat} (IH:PutOK n) {P:Nat→Prop} {t:Nat} {st:St} {lv:Nat} {w W:World} (ps:List Pt) (vs:List Value) (hl:vs.length=ps.length) (hv:∀ (i:Nat) p,ps[i]?=some p→∃ v,vs[i]?=some v∧PV P w p v) (hw:ptsw ps≤n) (hlv:lv≤30) (hG:GP P w) (hT:TX P t st lv w) (hB:Below w.heap.size w W) (g k:Nat) (hg:W.heap.size=g) (hk:ps.length=k) (hk2:k≤1000000) :
 Calls Tryz.prog 168 #[.pointer (some ⟨t,0,none⟩),.slice (some ⟨g,0,none⟩) k k] (W.alloc (.cells vs.toArray 20)) fun e w'=>e=.returned (.tuple #[])∧TX P t (ptsA lv ps st) lv w'∧KP P w w':=by
 subst hg hk
 have hT1:=(hT.below hB).new (.cells vs.toArray 20)
 have k1:KP P w W:=KP.of_below hB hT.lt
 have k2:KP P W (W.alloc (.cells vs.toArray 20)):=KP.alloc W _ fun b hb=>Nat.lt_of_lt_of_le (hT.lt b hb) hB.size
 have kk:=k1.trans k2
 refine (IH _ t st lv ps (some ⟨W.heap.size,0,none⟩) ps.length _ hw hlv ⟨Nat.le_refl _,by omega,fun h=>by cases h⟩ ?_ (hG.keep kk fun b hb=>Or.inl hb) hT1).mono ?_
 ·refine .inr ⟨W.heap.size,0,rfl,.inr rfl,fun i p hp=>?_⟩
  obtain ⟨v,h1,h2⟩:=hv i p hp
  refine ⟨v,?_,PV.keep kk (fun b hb=>Or.inl hb) p v h2⟩
  rw [Nat.zero_add,(Hold.new W vs.toArray 20).cell i]
  simpa using h1
 ·rintro e w' ⟨rfl,h1,h2⟩
  exact ⟨rfl,h1.weak fun b hb=>.inl hb,kk.trans (h2.mono fun b hb=>.inl hb)⟩
theorem TX.more {P Q:Nat→Prop} {t:Nat} {st:St} {lv:Nat} {w W:World} (h:TX P t st lv w) (hB:Below w.heap.size w W) (hq:∀ b,Q b→w.heap.size≤b∧b<W.heap.size):TX (fun b=>P b∨Q b) t st lv W:=by
 obtain ⟨a0,pa,ca,o',r,tg,l,nn,hT,hS⟩:=h
 have h2:=hT.below hB
 refine ⟨a0,pa,ca,o',r,tg,l,nn,⟨h2.hold,h2.own,h2.self,h2.room,fun b hb=>?_⟩,hS⟩
 rcases hb with hb | hb
 ·exact h2.apart b hb
 ·obtain ⟨q1,q2⟩:=hq b hb
  refine ⟨q2,fun e=>by have:=hT.hold.lt;omega,fun e=>?_⟩
  rcases hT.own.2 with ⟨hv,_⟩ | ⟨g,cap,cur,hv,_,hg,_⟩
  ·rw [hv] at e;simp [Value.ownBlock] at e
  ·rw [hv] at e
   have e2:b=g:=by simpa [Value.ownBlock] using e
   have:=(Array.getElem?_eq_some_iff.1 hg).1
   omega
theorem own_AM {α:Type} {R:α→Value→Prop} {P:Nat→Prop} {w:World} {B n c:Nat} {p:Option Addr} {vs:List Value} {l:List α} (h:w.ownsRow B 20 1 (.slice p n c) n vs) (hl:l.length=n) (hR:∀ (i:Nat) x,l[i]?=some x→∃ v,vs[i]?=some v∧R x v) :
 SlOK p n c∧AM R (fun b=>P b∨p.map Addr.block=some b) w p l∧∀ b,p.map Addr.block=some b→B≤b∧b<w.heap.size:=by
 rcases h.2 with ⟨hv,h0⟩ | ⟨g,cap,cur,hv,hb,hg,h1,h2,h3,h4⟩
 ·cases hv
  refine ⟨⟨Nat.le_refl _,by omega,fun _=>rfl⟩,.inl (List.length_eq_zero_iff.1 (by omega)),fun b hb=>by cases hb⟩
 ·cases hv
  refine ⟨⟨h1,by unfold maxLen at h2;omega,fun h=>by cases h⟩,.inr ⟨g,0,rfl,.inr rfl,fun i x hx=>?_⟩,fun b hb'=>?_⟩
  ·obtain ⟨v,e1,e2⟩:=hR i x hx
   exact ⟨v,by rw [Nat.zero_add];exact row_cell h e1,e2⟩
  ·cases hb'
   exact ⟨hb,(Array.getElem?_eq_some_iff.1 hg).1⟩
theorem ptsA_one (lv:Nat) (p:Pt) (st:St):ptsA lv [p] st=ptA lv p st:=rfl
theorem ptsA_is {lv:Nat} {ps:List Pt} {p:Pt} (h1:ps.all (ptOK lv)=ptOK lv p) (h2:ps.flatMap ptW=ptW p) (st:St):ptsA lv ps st=ptA lv p st:=by
 rw [ptsA_eq,h1,h2];rfl
def pStr (s:List UInt8):Pt:=.inl (.inl s)
def pOpn (s:List UInt8):Pt:=.inl (.inr (.inl s))
def pCls (s:List UInt8):Pt:=.inl (.inr (.inr (.inl s)))
def pStrs (l:List (List UInt8)):Pt:=.inl (.inr (.inr (.inr (.inl l))))
def pAtom (e:Tr):Pt:=.inl (.inr (.inr (.inr (.inr (.inl e)))))
def pExpr (e:Tr):Pt:=.inl (.inr (.inr (.inr (.inr (.inr (.inl e))))))
def pSigs (l:List Sg):Pt:=.inl (.inr (.inr (.inr (.inr (.inr (.inr (.inl l)))))))
def pSig (s:Sg):Pt:=.inl (.inr (.inr (.inr (.inr (.inr (.inr (.inr (.inl s))))))))
def pForm (f:Fm):Pt:=.inl (.inr (.inr (.inr (.inr (.inr (.inr (.inr (.inr (.inl f)))))))))
def pData (d:Dt):Pt:=.inl (.inr (.inr (.inr (.inr (.inr (.inr (.inr (.inr (.inr (.inl d))))))))))
def pDef (d:Df):Pt:=.inl (.inr (.inr (.inr (.inr (.inr (.inr (.inr (.inr (.inr (.inr (.inl d)))))))))))
def pProg (p:Pg):Pt:=.inl (.inr (.inr (.inr (.inr (.inr (.inr (.inr (.inr (.inr (.inr (.inr p)))))))))))
def pRow (s:List UInt8) (l:List P0):Pt:=.inr (s,l)
theorem vs_cons {P:Nat→Prop} {w:World} {p0:Pt} {ps:List Pt} {v0:Value} {vs:List Value} (h:PV P w p0 v0) (ht:∀ (i:Nat) p,ps[i]?=some p→∃ v,vs[i]?=some v∧PV P w p v):∀ (i:Nat) p,(p0 :: ps)[i]?=some p→∃ v,(v0 :: vs)[i]?=some v∧PV P w p v:=by
 intro i p hp
 cases i with
 | zero=>cases hp;exact ⟨v0,rfl,h⟩
 | succ i=>exact ht i p hp
theorem vs_nil {P:Nat→Prop} {w:World}:∀ (i:Nat) p,([]:List Pt)[i]?=some p→∃ v,([]:List Value)[i]?=some v∧PV P w p v:=by
 intro i p hp;simp at hp
theorem tr_cells {P:Nat→Prop} {w:World} {e:Tr} {cs:List Value} (h:TrIn P w e cs):∃ pn cn pk ck,cs=[.int .i64 e.kd,.string (S e.nm),.int .i64 e.nu,.slice pn e.ns.length cn,.slice pk e.ks.length ck]:=by
 obtain ⟨pn,cn,pk,ck,h1,_⟩:=(TrIn_iff P w e cs).1 h
 exact ⟨pn,cn,pk,ck,h1⟩
theorem atomT {n:Nat} (IH:PutOK n) {P:Nat→Prop} {t:Nat} {st:St} {lv:Nat} {w:World} {e:Tr} {cs:List Value} (hw:tw e+2≤n) (hlv:lv≤30) (hG:GP P w) (hT:TX P t st lv w) (hE:TrIn P w e cs) (hs:shp e=true) :
 Calls Tryz.prog 206 #[.pointer (some ⟨t,0,none⟩),.agg cs.toArray] w fun e' w'=>e'=.returned (.tuple #[])∧TX P t (ptA lv (pAtom e) st) lv w'∧KP P w w':=by
 obtain ⟨pn,cn,pk,ck,rfl⟩:=tr_cells hE
 have hH:Hold w.heap.size #[.int .i64 e.kd,.string (S e.nm),.int .i64 e.nu,.slice pn e.ns.length cn,.slice pk e.ks.length ck] 27 (w.alloc (.cells #[.int .i64 e.kd,.string (S e.nm),.int .i64 e.nu,.slice pn e.ns.length cn,.slice pk e.ks.length ck] 27)):=Hold.new w _ 27
 have c0:=hH.cell 0;have c1:=hH.cell 1;have c2:=hH.cell 2;have c3:=hH.cell 3;have c4:=hH.cell 4
 simp only [lGA,lGS,lGZ] at c0 c1 c2 c3 c4
 have hB:Below w.heap.size w (w.alloc (.cells #[.int .i64 e.kd,.string (S e.nm),.int .i64 e.nu,.slice pn e.ns.length cn,.slice pk e.ks.length ck] 27)):=(Below.refl _ w).alloc (Nat.le_refl _) _
 have hPE:PV P w (pExpr e) (.iface 27 (.agg #[.int .i64 e.kd,.string (S e.nm),.int .i64 e.nu,.slice pn e.ns.length cn,.slice pk e.ks.length ck])):=⟨_,rfl,hE,hs⟩
 have H1:=zz (put_new IH [pExpr e] [.iface 27 (.agg #[.int .i64 e.kd,.string (S e.nm),.int .i64 e.nu,.slice pn e.ns.length cn,.slice pk e.ks.length ck])] rfl (vs_cons hPE vs_nil) (by simp [ptsw,ptw,pExpr,p0w];omega) hlv hG hT hB (w.heap.size+1) 1 (by simp) rfl (by omega))
 have H2:=zz (put_new IH [pOpn [40],pExpr e,pCls [41]] [.iface 212 (.string (S [40])),.iface 27 (.agg #[.int .i64 e.kd,.string (S e.nm),.int .i64 e.nu,.slice pn e.ns.length cn,.slice pk e.ks.length ck]),.iface 213 (.string (S [41]))] rfl (vs_cons ⟨rfl,by simp⟩ (vs_cons hPE (vs_cons ⟨rfl,by simp⟩ vs_nil))) (by simp [ptsw,ptw,pExpr,pOpn,pCls,p0w];omega) hlv hG hT hB (w.heap.size+1) 3 (by simp) rfl (by omega))
 have A1:Hid (isAt e.kd=true→ptsA lv [pExpr e] st=ptA lv (pAtom e) st):=fun h=>ptsA_is rfl (by simp [ptW,pExpr,pAtom,p0W,atW,h]) st
 have A2:Hid (isAt e.kd=false→ptsA lv [pOpn [40],pExpr e,pCls [41]] st=ptA lv (pAtom e) st):=fun h=>ptsA_is rfl (by simp [ptW,pExpr,pOpn,pCls,pAtom,p0W,atW,brW,h]) st
 clear hH hPE hT hG hE IH hB
 cases ha:isAt e.kd
 ·have HA:=zz (A2.out ha)
  simp only [isAt,Bool.or_eq_false_iff,beq_eq_false_iff_ne,ne_eq] at ha
  obtain ⟨⟨h1,h2⟩,h3⟩:=ha
  go_enter Tryz.func206,Tryz.ntmps206
  go_wp2_with fail
  refine H2.out.mono ?_
  rintro e' w' ⟨rfl,hT',hK'⟩
  have HT':=zz hT'
  have HK':=zz hK'
  clear hT' hK'
  go_wp2_with fail
  go_end0
  exact ⟨rfl,by rw [← HA.out];exact HT'.out,HK'.out⟩
 ·have HA:=zz (A1.out ha)
  simp only [isAt,Bool.or_eq_true,beq_iff_eq] at ha
  rcases ha with (h1 | h1) | h1
  ·go_enter Tryz.func206,Tryz.ntmps206
   go_wp2_with fail
   have K:=H1.out
   rw [h1] at K
   refine K.mono ?_
   clear K
   rintro e' w' ⟨rfl,hT',hK'⟩
   have HT':=zz hT'
   have HK':=zz hK'
   clear hT' hK'
   go_wp2_with fail
   go_end0
   exact ⟨rfl,by rw [← HA.out];exact HT'.out,HK'.out⟩
  ·go_enter Tryz.func206,Tryz.ntmps206
   go_wp2_with fail
   have K:=H1.out
   rw [h1] at K
   refine K.mono ?_
   clear K
   rintro e' w' ⟨rfl,hT',hK'⟩
   have HT':=zz hT'
   have HK':=zz hK'
   clear hT' hK'
   go_wp2_with fail
   go_end0
   exact ⟨rfl,by rw [← HA.out];exact HT'.out,HK'.out⟩
  ·go_enter Tryz.func206,Tryz.ntmps206
   go_wp2_with fail
   have K:=H1.out
   rw [h1] at K
   refine K.mono ?_
   clear K
   rintro e' w' ⟨rfl,hT',hK'⟩
   have HT':=zz hT'
   have HK':=zz hK'
   clear hT' hK'
   go_wp2_with fail
   go_end0
   exact ⟨rfl,by rw [← HA.out];exact HT'.out,HK'.out⟩
end Go.Proofs.YtcnnlecjdkfdjaaGreatDoor
