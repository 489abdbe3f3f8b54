/- Parts of the proof. -/
import Derived.Test.YtcnnlecjdkfdjaaGreatDoorTell
set_option linter.unusedVariables false
set_option linter.unusedSimpArgs false
set_option maxRecDepth 100000
set_option maxHeartbeats 8000000
namespace Go.Proofs.YtcnnlecjdkfdjaaGreatDoor
open Go.RowKit
theorem po_kid {e k:Tr} {n:Nat} {x:Nat × Tr} (hk:k ∈ e.ks) (hx:x ∈ po k (n+1)):x ∈ po e n:=by
 rw [po_eq];exact List.mem_cons_of_mem _ (List.mem_flatMap.2 ⟨k,hk,hx⟩)
theorem po_self (e:Tr) (n:Nat):(n,e) ∈ po e n:=by rw [po_eq];simp
theorem goC_mem {l:List (Nat × Tr)}:∀ {z:Nat},goC z l=true→∀ x ∈ l,x.1≤30∧x.2.ks.length≤1000∧soundM x.2=true:=by
 induction l with
 | nil=>intro z _ x hx;cases hx
 | cons y r ih=>
  intro z h x hx
  simp only [goC,Bool.and_eq_true,decide_eq_true_eq] at h
  rcases List.mem_cons.1 hx with rfl | hx
  ·exact ⟨h.1.1.1,by omega,h.1.2⟩
  ·exact ih h.2 x hx
theorem check_mem {e:Tr} (h:checkM e=true):∀ x ∈ po e 1,x.1≤30∧x.2.ks.length≤1000∧soundM x.2=true:=by
 unfold checkM at h
 rw [Bool.and_eq_true] at h
 exact goC_mem h.2
theorem shp_of (e:Tr):∀ n,(∀ x ∈ po e n,x.2.ks.length≤1000000∧x.2.ns.length≤1000000∧soundM x.2=true)→shp e=true:=by
 induction e using Tr.ind with
 | _ e ih=>
  intro n h
  obtain ⟨h1,h2,h3⟩:=h (n,e) (po_self e n)
  rw [shp_eq]
  have hk:e.ks.all shp=true:=List.all_eq_true.2 fun k hk=>ih k hk (n+1) fun x hx=>h x (po_kid hk hx)
  have hkk:hasKidsM e=true:=by
   unfold soundM at h3
   simp only [Bool.and_eq_true] at h3
   exact h3.1.2
  rw [hk]
  simp only [decide_eq_true h1,decide_eq_true h2,Bool.and_true,Bool.true_and]
  unfold hasKidsM at hkk
  split
  ·rename_i hc
   rcases hc with hc | hc | hc | hc <;> rw [hc] at hkk <;> simp at hkk ⊢ <;> omega
  ·split
   ·rename_i hc
    rcases hc with hc | hc | hc <;> rw [hc] at hkk <;> simp at hkk ⊢ <;> omega
   ·split
    ·rename_i hc
     rw [hc] at hkk;simp at hkk ⊢;omega
    ·rfl
def outN:St→Nat
 | none=>1
 | some (o,_)=>o.length
theorem wdA_out (s o:List UInt8) (t:Bool):outN (wdA s (some (o,t)))=1∨o.length+s.length≤outN (wdA s (some (o,t))):=by
 simp only [wdA]
 generalize (if t=true then ([]:List UInt8) else [32])=g
 by_cases h:(o ++ (g ++ s)).length≤2147483647
 ·rw [if_pos h];right;simp [outN]
 ·rw [if_neg h];left;rfl
theorem tightA_out (st:St):outN (tightA st)=outN st:=by
 rcases st with _ | ⟨o,t⟩ <;> rfl
theorem oneA_out (x:Wd) (st:St):outN (oneA x st)=1∨outN st+x.2.length≤outN (oneA x st):=by
 rcases st with _ | ⟨o,t⟩
 ·left;rw [oneA_none];rfl
 ·unfold oneA
  split
  ·exact wdA_out x.2 o t
  ·split
   ·rw [tightA_out];exact wdA_out x.2 o t
   ·exact wdA_out x.2 o true
theorem oneA_pos (x:Wd) (st:St) (h:x.2≠[]):1≤outN (oneA x st):=by
 have hl:1≤x.2.length:=by cases hx:x.2 with | nil=>exact absurd hx h | cons a r=>simp
 rcases oneA_out x st with h1 | h1 <;> omega
theorem runA_pos (l:List Wd):∀ st,1≤outN st→1≤outN (runA l st):=by
 induction l with
 | nil=>intro st h;exact h
 | cons x r ih=>
  intro st h
  rw [runA_cons]
  refine ih _ ?_
  rcases oneA_out x st with h1 | h1 <;> omega
theorem runA_some (l:List Wd):∀ st,(∃ x ∈ l,x.2≠[])→1≤outN (runA l st):=by
 induction l with
 | nil=>intro st h;obtain ⟨x,hx,_⟩:=h;cases hx
 | cons y r ih=>
  intro st h
  rw [runA_cons]
  obtain ⟨x,hx,hne⟩:=h
  rcases List.mem_cons.1 hx with rfl | hx
  ·exact runA_pos r _ (oneA_pos x st hne)
  ·exact ih _ ⟨x,hx,hne⟩
theorem itoa_ne (n:Int):Lib.itoa n≠[]:=by
 unfold Lib.itoa
 split
 ·simp
 ·intro h
  have:=congrArg List.length h
  rw [Lib.decDigits_length] at this
  have:=Lib.nDigits_pos n.toNat
  simp at *;omega
theorem leaf_ne {e:Tr} (h:soundM e=true) (ha:isAt e.kd=true):∃ x ∈ ws e,x.2≠[]:=by
 unfold soundM at h
 simp only [Bool.and_eq_true] at h
 have hn:=h.1.1.1.2
 rw [ws_eq]
 unfold hasNameM at hn
 simp only [isAt,Bool.or_eq_true,beq_iff_eq] at ha
 rcases ha with (ha | ha) | ha
 ·exact ⟨pw (Lib.itoa e.nu),by simp [wsF,ha],itoa_ne _⟩
 ·rw [ha] at hn
  refine ⟨pw e.nm,by simp [wsF,ha],?_⟩
  intro h0
  have h0:e.nm=[]:=h0
  rw [h0] at hn;simp [nm,wd] at hn
 ·rw [ha] at hn
  refine ⟨pw e.nm,by simp [wsF,ha],?_⟩
  intro h0
  have h0:e.nm=[]:=h0
  rw [h0] at hn;simp [cn,wd] at hn
theorem atW_ne {e:Tr} (h:soundM e=true):∃ x ∈ atW (e,ws e),x.2≠[]:=by
 unfold atW
 split
 ·rename_i ha;exact leaf_ne h ha
 ·exact ⟨(1,[40]),by simp [brW],by simp⟩
theorem ws_ne {e:Tr} (h:∀ x ∈ po e 1,soundM x.2=true):∃ x ∈ ws e,x.2≠[]:=by
 have hs:=h _ (po_self e 1)
 by_cases ha:isAt e.kd=true
 ·exact leaf_ne hs ha
 have h2:=hs
 unfold soundM at h2
 simp only [Bool.and_eq_true] at h2
 have hk:=h2.1.2
 have hnn:=h2.1.1.2
 unfold hasKidsM at hk
 unfold hasNamesM at hnn
 have hks:∀ k ∈ e.ks,soundM k=true:=fun k hk=>h (2,k) (po_kid hk (po_self k 2))
 rw [ws_eq]
 simp only [isAt,Bool.or_eq_true,beq_iff_eq,not_or] at ha
 obtain ⟨⟨n1,n2⟩,n3⟩:=ha
 by_cases h4:e.kd=4
 ·exact ⟨(1,[92]),by simp [wsF,h4],by simp⟩
 by_cases h6:e.kd=6
 ·exact ⟨pw [108,101,116],by simp [wsF,h6],by simp [pw]⟩
 by_cases h7:e.kd=7
 ·exact ⟨pw [99,97,115,101],by simp [wsF,h7],by simp [pw]⟩
 by_cases h8:e.kd=8
 ·exact ⟨pw [45,62],by simp [wsF,h8],by simp [pw]⟩
 by_cases h10:e.kd=10
 ·exact ⟨pw [105,102],by simp [wsF,h10],by simp [pw]⟩
 by_cases h11:e.kd=11
 ·exact ⟨pw [100,111],by simp [wsF,h11],by simp [pw]⟩
 by_cases h12:e.kd=12
 ·exact ⟨pw [100,111,115],by simp [wsF,h12],by simp [pw]⟩
 by_cases h13:e.kd=13
 ·exact ⟨pw [60,45],by simp [wsF,h13],by simp [pw]⟩
 by_cases h5:e.kd=5∨e.kd=9
 ·have hl:e.ks.length=2:=by rcases h5 with h5 | h5 <;> rw [h5] at hk <;> simpa using hk
  obtain ⟨k0,r,hr⟩:∃ k0 r,e.ks=k0 :: r:=by cases hq:e.ks with | nil=>rw [hq] at hl;simp at hl | cons a r=>exact ⟨a,r,rfl⟩
  obtain ⟨x,hx,hne⟩:=atW_ne (hks k0 (by rw [hr];simp))
  refine ⟨x,?_,hne⟩
  rcases h5 with h5 | h5 <;> simp [wsF,h5,g0,hr,hx]
 ·exfalso
  rw [not_or] at h5
  simp [n1,n2,n3,h4,h5.1,h5.2,h6,h7,h8,h10,h11,h12,h13] at hk
theorem text_ne {e:Tr} (h:∀ x ∈ po e 1,soundM x.2=true) (tg:Bool):ptA 0 (pExpr e) (some ([],true))≠some ([],tg):=by
 intro hx
 have h1:=runA_some (ws e) (some ([],true)) (ws_ne h)
 have h2:ptA 0 (pExpr e) (some ([],true))=runA (ws e) (some ([],true)):=rfl
 rw [← h2,hx] at h1
 simp [outN] at h1
def exprV (e:Tr):Value:=if checkM e then wholeV (ptA 0 (pExpr e) (some ([],true))) else wholeV none
theorem expr_any {w:World} {e:Tr} {pn:Option Addr} {cn:Nat} {pk:Option Addr} {ck:Nat} (hG:GP (fun b=>b<w.heap.size) w) (hE:TrIn (fun b=>b<w.heap.size) w e [.int .i64 e.kd,.string (S e.nm),.int .i64 e.nu,.slice pn e.ns.length cn,.slice pk e.ks.length ck]) (hD:∀ x ∈ po e 1,x.1≤1000000∧x.2.ks.length≤1000000) (hN:∀ x ∈ po e 1,x.2.ns.length≤1000000) :
 Calls Tryz.prog 22 #[.agg (cs5 e pn cn pk ck)] w fun r w'=>r=.returned (exprV e)∧Below w.heap.size w w':=by
 obtain ⟨W,hW⟩:∃ W,W=w.alloc (.cells (cs5 e pn cn pk ck) 27):=⟨_,rfl⟩
 have hB:Below w.heap.size w W:=by rw [hW];exact (Below.refl _ w).alloc (Nat.le_refl _) _
 have hBd:Below w.heap.size w W.drew:=⟨hB.os,hB.tape,hB.output,hB.size,hB.block⟩
 have hH:Hold w.heap.size (cs5 e pn cn pk ck) 27 W:=by rw [hW];exact Hold.new w _ 27
 have hWs:W.heap.size=w.heap.size+1:=by rw [hW];simp
 have hKd:KP (fun b=>b<w.heap.size) w W.drew:=KP.of_below hBd fun b hb=>hb
 have hE1:=TrIn.keep hKd (Q:=fun b=>b<w.heap.size) (fun b hb=>hb) e _ hE
 have HC:=zz (check_tree (fun b hb=>Nat.lt_of_lt_of_le hb hBd.size) hE1 hD)
 have HWH:=zz fun (W2:World) (hb:Below w.heap.size w W2) (hc:checkM e=true)=>wholeT (w:=W2) (x:=pExpr e) (ty:=27) (y:=.agg #[.int .i64 e.kd,.string (S e.nm),.int .i64 e.nu,.slice pn e.ns.length cn,.slice pk e.ks.length ck]) (hG.keep (KP.of_below hb fun b hb=>hb) (fun b hb'=>Nat.lt_of_lt_of_le hb' hb.size))
  ⟨_,rfl,TrIn.keep (KP.of_below hb fun b hb=>hb) (fun b hb'=>Nat.lt_of_lt_of_le hb' hb.size) e _ hE,shp_of e 1 fun x hx=>⟨(hD x hx).2,hN x hx,(check_mem hc x hx).2.2⟩⟩ (text_ne fun x hx=>(check_mem hc x hx).2.2)
 have HS:Hid (∀ W2,Below W.drew.heap.size W.drew W2→(W2.cell? ⟨w.heap.size,0,none⟩=some (.int .i64 e.kd)∧W2.cell? ⟨w.heap.size,1,none⟩=some (.string (S e.nm))∧W2.cell? ⟨w.heap.size,2,none⟩=some (.int .i64 e.nu)∧W2.cell? ⟨w.heap.size,3,none⟩=some (.slice pn e.ns.length cn)∧W2.cell? ⟨w.heap.size,4,none⟩=some (.slice pk e.ks.length ck))):=fun W2 hb=>by
  have hl:w.heap.size<W.drew.heap.size:=by show w.heap.size<W.heap.size;omega
  have h:Hold w.heap.size (cs5 e pn cn pk ck) 27 W2:=Hold.below (W:=W.drew) (show Hold w.heap.size _ 27 W.drew from hH) hb hl
  exact ⟨h.cell 0,h.cell 1,h.cell 2,h.cell 3,h.cell 4⟩
 have h00:=HS.out W.drew (Below.refl _ _)
 obtain ⟨c0,c1,c2,c3,c4⟩:=h00
 have HBd:=zz hBd
 clear hE hE1 hG hD hN hB hBd hKd hH
 unfold cs5 at *
 cases hck:checkM e
 ·have HV:Hid (exprV e=wholeV none):=by show exprV e=_;unfold exprV;rw [hck];rfl
  rw [hck] at HC
  clear hck
  go_enter Tryz.func22,Tryz.ntmps22
  go_wp2_with fail
  rw [← hW]
  clear hW
  go_region_held3 (fun w'=>w'.cell? ⟨w.heap.size,0,none⟩=some (.int .i64 e.kd)∧w'.cell? ⟨w.heap.size,1,none⟩=some (.string (S e.nm))∧w'.cell? ⟨w.heap.size,2,none⟩=some (.int .i64 e.nu)∧w'.cell? ⟨w.heap.size,3,none⟩=some (.slice pn e.ns.length cn)∧w'.cell? ⟨w.heap.size,4,none⟩=some (.slice pk e.ks.length ck)) (first | go_keep | (exact HS.out _ HB2.out) | (exact HS.out _ HB1.out)) (first | (go_at_call 28;refine HC.out.mono ?_;rintro r w1 ⟨rfl,hb1⟩;have HB1:=zz hb1;clear hb1) | (go_at_call 53;refine whole_no.mono ?_;rintro r w2 ⟨rfl,rfl⟩;have HB2:=zz HB1.out;unfold wholeV))
  go_wp2_with fail
  go_ret2
  exact ⟨by rw [HV.out];rfl,HBd.out.trans (HB1.out.mono HBd.out.size)⟩
 ·have HV:Hid (exprV e=wholeV (ptA 0 (pExpr e) (some ([],true)))):=by show exprV e=_;unfold exprV;rw [hck];rfl
  rw [hck] at HC
  have HWW:=zz fun W2 hb=>HWH.out W2 hb hck
  clear hck HWH
  generalize ptA 0 (pExpr e) (some ([],true))=st at *
  obtain ⟨sv,nv,hsv⟩:∃ sv nv,wholeV st=.tuple #[.string sv,.int .i64 nv]:=by
   rcases st with _ | ⟨o,t⟩
   ·exact ⟨_,_,rfl⟩
   ·exact ⟨_,_,rfl⟩
  rw [hsv] at HWW HV
  clear hsv
  go_enter Tryz.func22,Tryz.ntmps22
  go_wp2_with fail
  rw [← hW]
  clear hW
  go_region_held3 (fun w'=>w'.cell? ⟨w.heap.size,0,none⟩=some (.int .i64 e.kd)∧w'.cell? ⟨w.heap.size,1,none⟩=some (.string (S e.nm))∧w'.cell? ⟨w.heap.size,2,none⟩=some (.int .i64 e.nu)∧w'.cell? ⟨w.heap.size,3,none⟩=some (.slice pn e.ns.length cn)∧w'.cell? ⟨w.heap.size,4,none⟩=some (.slice pk e.ks.length ck)) (first | go_keep | (exact HS.out _ HB2.out) | (exact HS.out _ HB1.out)) (first | (go_at_call 28;refine HC.out.mono ?_;rintro r w1 ⟨rfl,hb1⟩;have HB1:=zz hb1;have HW2:=zz (HWW.out w1 (HBd.out.trans (hb1.mono HBd.out.size)));clear hb1) | (go_at_call 53;refine HW2.out.mono ?_;rintro r w2 ⟨rfl,hb2⟩;have HB2:=zz (HB1.out.trans (hb2.mono HB1.out.size));clear hb2))
  go_wp2_with fail
  go_ret2
  exact ⟨by rw [HV.out];rfl,HBd.out.trans (HB2.out.mono HBd.out.size)⟩
end Go.Proofs.YtcnnlecjdkfdjaaGreatDoor
namespace Go.Proofs.YtcnnlecjdkfdjaaGreatDoor
open Go.RowKit Go.Shelf
theorem ptext_ne (p:Pg) (tg:Bool):ptA 0 (pProg p) (some ([],true))≠some ([],tg):=by
 intro hx
 unfold ptA at hx
 split at hx
 ·have h1:=runA_some (ptW (pProg p)) (some ([],true)) ⟨pw [123],by show _ ∈ pgW p;simp [pgW],by simp [pw]⟩
  rw [hx] at h1
  simp [outN] at h1
 ·cases hx
def progV (p:Pg):Value:=if progM p then wholeV (ptA 0 (pProg p) (some ([],true))) else wholeV none
theorem prog_any2 {Q P:Nat→Prop} {w:World} {p:Pg} {pd:Option Addr} {cd:Nat} {pf:Option Addr} {cf:Nat} (hG:GP (fun b=>b<w.heap.size) w) (hQ:PL Q w) (hP:∀ b,P b→b<w.heap.size) (hE:PgIn2 Q P w p [.slice pd p.ds.length cd,.slice pf p.fs.length cf]) (hD:∀ d ∈ p.fs,∀ x ∈ po d.bd 1,x.1≤1000000∧x.2.ks.length≤1000000) (hN:∀ d ∈ p.fs,∀ x ∈ po d.bd 1,x.2.ns.length≤1000000) (hS:∀ d ∈ p.ds,d.ps.length≤1000000) :
 Calls Tryz.prog 21 #[.agg #[.slice pd p.ds.length cd,.slice pf p.fs.length cf]] w fun r w'=>r=.returned (progV p)∧Below w.heap.size w w':=by
 obtain ⟨W,hW⟩:∃ W,W=w.alloc (.cells #[.slice pd p.ds.length cd,.slice pf p.fs.length cf] 38):=⟨_,rfl⟩
 have hB:Below w.heap.size w W:=by rw [hW];exact (Below.refl _ w).alloc (Nat.le_refl _) _
 have hBd:Below w.heap.size w W.drew:=⟨hB.os,hB.tape,hB.output,hB.size,hB.block⟩
 have hH:Hold w.heap.size #[.slice pd p.ds.length cd,.slice pf p.fs.length cf] 38 W:=by rw [hW];exact Hold.new w _ 38
 have hWs:W.heap.size=w.heap.size+1:=by rw [hW];simp
 have hE1:=PgIn2.keep (KP.of_below hBd hQ.lt) (KP.of_below hBd hP) p _ hE
 have HC:=zz (tprog_any2 (hQ.below (Nat.le_refl _) hBd) (fun b hb=>Nat.lt_of_lt_of_le (hP b hb) hBd.size) hE1 hD)
 have HWH:=zz fun (W2:World) (hb:Below w.heap.size w W2) (hc:progM p=true)=>wholeT (w:=W2) (x:=pProg p) (ty:=38) (y:=.agg #[.slice pd p.ds.length cd,.slice pf p.fs.length cf]) (hG.keep (KP.of_below hb fun b hb=>hb) (fun b hb'=>Nat.lt_of_lt_of_le hb' hb.size))
  (by
   unfold progM at hc
   simp only [Bool.and_eq_true,decide_eq_true_eq,List.all_eq_true] at hc
   obtain ⟨⟨⟨h1,h2⟩,h3⟩,h4⟩:=hc
   refine ⟨_,rfl,PgIn2.join (KP.of_below hb hQ.lt) (KP.of_below hb hP) (fun b hb'=>Nat.lt_of_lt_of_le (hQ.lt b hb') hb.size) (fun b hb'=>Nat.lt_of_lt_of_le (hP b hb') hb.size) p _ hE,by omega,by omega,fun d hd=>⟨hS d hd,?_⟩,fun d hd=>?_⟩
   ·have:=h3 d hd
    unfold dataM at this
    simp only [Bool.and_eq_true,decide_eq_true_eq] at this
    have:=this.1.2
    omega
   ·have:=h4 d hd
    unfold defM at this
    rw [Bool.and_eq_true] at this
    exact shp_of d.bd 1 fun x hx=>⟨(hD d hd x hx).2,hN d hd x hx,(check_mem this.2 x hx).2.2⟩) (ptext_ne p)
 have HS:Hid (∀ W2,Below W.drew.heap.size W.drew W2→(W2.cell? ⟨w.heap.size,0,none⟩=some (.slice pd p.ds.length cd)∧W2.cell? ⟨w.heap.size,1,none⟩=some (.slice pf p.fs.length cf))):=fun W2 hb=>by
  have hl:w.heap.size<W.drew.heap.size:=by show w.heap.size<W.heap.size;omega
  have h:Hold w.heap.size #[.slice pd p.ds.length cd,.slice pf p.fs.length cf] 38 W2:=Hold.below (W:=W.drew) (show Hold w.heap.size _ 38 W.drew from hH) hb hl
  exact ⟨h.cell 0,h.cell 1⟩
 have h00:=HS.out W.drew (Below.refl _ _)
 obtain ⟨c0,c1⟩:=h00
 have HBd:=zz hBd
 clear hE hE1 hG hD hN hB hBd hH hP hQ hS
 cases hck:progM p
 ·have HV:Hid (progV p=wholeV none):=by show progV p=_;unfold progV;rw [hck];rfl
  rw [hck] at HC
  clear hck
  go_enter Tryz.func21,Tryz.ntmps21
  go_wp2_with fail
  rw [← hW]
  clear hW
  go_region_held3 (fun w'=>w'.cell? ⟨w.heap.size,0,none⟩=some (.slice pd p.ds.length cd)∧w'.cell? ⟨w.heap.size,1,none⟩=some (.slice pf p.fs.length cf)) (first | go_keep | (exact HS.out _ HB2.out) | (exact HS.out _ HB1.out)) (first | (go_at_call 35;refine HC.out.mono ?_;rintro r w1 ⟨rfl,hb1⟩;have HB1:=zz hb1;clear hb1) | (go_at_call 53;refine whole_no.mono ?_;rintro r w2 ⟨rfl,rfl⟩;have HB2:=zz HB1.out;unfold wholeV))
  go_wp2_with fail
  go_ret2
  exact ⟨by rw [HV.out];rfl,HBd.out.trans (HB1.out.mono HBd.out.size)⟩
 ·have HV:Hid (progV p=wholeV (ptA 0 (pProg p) (some ([],true)))):=by show progV p=_;unfold progV;rw [hck];rfl
  rw [hck] at HC
  have HWW:=zz fun W2 hb=>HWH.out W2 hb hck
  clear hck HWH
  generalize ptA 0 (pProg p) (some ([],true))=st at *
  obtain ⟨sv,nv,hsv⟩:∃ sv nv,wholeV st=.tuple #[.string sv,.int .i64 nv]:=by
   rcases st with _ | ⟨o,t⟩
   ·exact ⟨_,_,rfl⟩
   ·exact ⟨_,_,rfl⟩
  rw [hsv] at HWW HV
  clear hsv
  go_enter Tryz.func21,Tryz.ntmps21
  go_wp2_with fail
  rw [← hW]
  clear hW
  go_region_held3 (fun w'=>w'.cell? ⟨w.heap.size,0,none⟩=some (.slice pd p.ds.length cd)∧w'.cell? ⟨w.heap.size,1,none⟩=some (.slice pf p.fs.length cf)) (first | go_keep | (exact HS.out _ HB2.out) | (exact HS.out _ HB1.out)) (first | (go_at_call 35;refine HC.out.mono ?_;rintro r w1 ⟨rfl,hb1⟩;have HB1:=zz hb1;have HW2:=zz (HWW.out w1 (HBd.out.trans (hb1.mono HBd.out.size)));clear hb1) | (go_at_call 53;refine HW2.out.mono ?_;rintro r w2 ⟨rfl,hb2⟩;have HB2:=zz (HB1.out.trans (hb2.mono HB1.out.size));clear hb2))
  go_wp2_with fail
  go_ret2
  exact ⟨by rw [HV.out];rfl,HBd.out.trans (HB2.out.mono HBd.out.size)⟩
end Go.Proofs.YtcnnlecjdkfdjaaGreatDoor
namespace Go.Proofs.YtcnnlecjdkfdjaaGreatDoor
open Go.RowKit
def b1:List UInt8:=[102,32,120,32,43,32,49]
def b2:List UInt8:=[102,32,120,32,61,32,120,10,103,32,61,32,100,111,10,32,32,102,32,49,10]
def b3:List UInt8:=[102,32,61,32,61]
def l1:List Ly.Tok:=[⟨2,[102],0,1,1⟩,⟨2,[120],0,1,3⟩,⟨4,[43],0,1,5⟩,⟨1,[49],1,1,7⟩]
def tX:Tr:=⟨2,[120],0,[],[]⟩
def tF:Tr:=⟨2,[102],0,[],[]⟩
def tI:Tr:=⟨1,[],1,[],[]⟩
def tA:Tr:=⟨5,[],0,[],[tF,tX]⟩
def tP:Tr:=⟨9,[43],0,[],[tA,tI]⟩
def tL:Tr:=⟨4,[],0,[[120]],[tX]⟩
def tQ:Tr:=⟨5,[],0,[],[tF,tI]⟩
def tD:Tr:=⟨11,[],0,[],[tQ]⟩
def pG:Pg:=⟨[],[⟨[102],tL⟩,⟨[103],tD⟩]⟩
theorem b1_lex:Ly.lexM b1=(l1,none):=by kernel_rfl
theorem b1_expr:exprM (l1.map tkOf)=(tP,(0,0),0):=by kernel_rfl
theorem b1_cut:exprM ((l1.take 3).map tkOf)=(t0,(1,5),60):=by kernel_rfl
theorem b2_text:textOut b2=(pG,(0,0),0):=by kernel_rfl
theorem b3_text:textOut b3=(⟨[],[]⟩,(1,5),60):=by kernel_rfl
theorem po_X (n:Nat):po tX n=[(n,tX)]:=by rw [po_eq];rfl
theorem po_F (n:Nat):po tF n=[(n,tF)]:=by rw [po_eq];rfl
theorem po_I (n:Nat):po tI n=[(n,tI)]:=by rw [po_eq];rfl
theorem po_A (n:Nat):po tA n=[(n,tA),(n+1,tF),(n+1,tX)]:=by rw [po_eq];simp [tA,po_X,po_F]
theorem po_P (n:Nat):po tP n=[(n,tP),(n+1,tA),(n+2,tF),(n+2,tX),(n+1,tI)]:=by rw [po_eq];simp [tP,po_A,po_I]
theorem po_L (n:Nat):po tL n=[(n,tL),(n+1,tX)]:=by rw [po_eq];simp [tL,po_X]
theorem po_Q (n:Nat):po tQ n=[(n,tQ),(n+1,tF),(n+1,tI)]:=by rw [po_eq];simp [tQ,po_F,po_I]
theorem po_D (n:Nat):po tD n=[(n,tD),(n+1,tQ),(n+2,tF),(n+2,tI)]:=by rw [po_eq];simp [tD,po_Q]
theorem s_X:soundM tX=true:=by decide
theorem s_F:soundM tF=true:=by decide
theorem s_I:soundM tI=true:=by decide
theorem s_A:soundM tA=true:=by decide
theorem s_P:soundM tP=true:=by decide
theorem s_L:soundM tL=true:=by decide
theorem s_Q:soundM tQ=true:=by decide
theorem s_D:soundM tD=true:=by decide
theorem ck_P:checkM tP=true:=by
 unfold checkM
 rw [po_P]
 simp only [goC,s_X,s_F,s_A,s_P,s_I]
 decide
theorem ck_L:checkM tL=true:=by
 unfold checkM
 rw [po_L]
 simp only [goC,s_X,s_L]
 decide
theorem ck_D:checkM tD=true:=by
 unfold checkM
 rw [po_D]
 simp only [goC,s_D,s_Q,s_F,s_I]
 decide
theorem ws_X:ws tX=[pw [120]]:=by rw [ws_eq];rfl
theorem ws_F:ws tF=[pw [102]]:=by rw [ws_eq];rfl
theorem itoa_1:Lib.itoa 1=[49]:=by kernel_rfl
theorem ws_I:ws tI=[pw [49]]:=by
 rw [ws_eq]
 show [pw (Lib.itoa 1)]=_
 rw [itoa_1]
theorem ws_A:ws tA=[pw [102],pw [120]]:=by
 rw [ws_eq]
 show wsF tA [(tF,ws tF),(tX,ws tX)]=_
 rw [ws_X,ws_F]
 rfl
theorem ws_Q:ws tQ=[pw [102],pw [49]]:=by
 rw [ws_eq]
 show wsF tQ [(tF,ws tF),(tI,ws tI)]=_
 rw [ws_I,ws_F]
 rfl
theorem ws_P:ws tP=[(1,[40]),pw [102],pw [120],(2,[41]),pw [43],pw [49]]:=by
 rw [ws_eq]
 show wsF tP [(tA,ws tA),(tI,ws tI)]=_
 rw [ws_A,ws_I]
 rfl
theorem ws_L:ws tL=[(1,[92]),pw [120],pw [45,62],pw [120]]:=by
 rw [ws_eq]
 show wsF tL [(tX,ws tX)]=_
 rw [ws_X]
 rfl
theorem ws_D:ws tD=[pw [100,111],pw [123],pw [102],pw [49],pw [125]]:=by
 rw [ws_eq]
 show wsF tD [(tQ,ws tQ)]=_
 rw [ws_Q]
 rfl
theorem av1:exprV tP=.tuple #[.string ⟨#[40,102,32,120,41,32,43,32,49]⟩,.int .i64 0]:=by
 unfold exprV
 rw [ck_P]
 show wholeV (runA (ws tP) _)=_
 rw [ws_P]
 rfl
theorem pg_G:pgW pG=[pw [123],pw [102],pw [61],(1,[92]),pw [120],pw [45,62],pw [120],pw [59],pw [103],pw [61],pw [100,111],pw [123],pw [102],pw [49],pw [125],pw [125]]:=by
 show pw [123] :: (sepW [59] ([] ++ [pw [102] :: pw [61] :: ws tL,pw [103] :: pw [61] :: ws tD]) ++ [pw [125]])=_
 rw [ws_L,ws_D]
 rfl
theorem pm_G:progM pG=true:=by
 unfold progM
 simp only [pG,List.all_cons,List.all_nil,Bool.and_true]
 have h1:defM ⟨[102],tL⟩=true:=by
  unfold defM
  simp only [ck_L]
  decide
 have h2:defM ⟨[103],tD⟩=true:=by
  unfold defM
  simp only [ck_D]
  decide
 rw [h1,h2]
 decide
theorem av2:progV pG=.tuple #[.string ⟨#[123,32,102,32,61,32,92,120,32,45,62,32,120,32,59,32,103,32,61,32,100,111,32,123,32,102,32,49,32,125,32,125]⟩,.int .i64 0]:=by
 unfold progV
 rw [pm_G]
 unfold ptA
 rw [show ptOK 0 (pProg pG)=true from by
  show [].all (fun d=>dtOK d 0)=true
  rfl,show ptW (pProg pG)=pgW pG from rfl,pg_G]
 rfl
theorem mem_const (w:World) (l:List UInt8) (C:Array Value) (t:TypeId) (fr:Nat × Nat) (hC:C=(l.map Ly.cl).toArray):Ly.Mem (w.alloc (.cells C t fr)) (some ⟨w.heap.size,0,none⟩) l:=by
 refine .inr ⟨w.heap.size,0,rfl,by simp,fun i x hx=>?_⟩
 rw [Nat.zero_add,World.cell?_alloc_mark,hC]
 simp [hx,Ly.cl]
theorem lexC (w:World) (hg:Ly.Glob w):Calls Tryz.prog 19 #[.slice (some ⟨w.heap.size,0,none⟩) 7 7] (w.alloc (.cells #[.int .u8 102,.int .u8 32,.int .u8 120,.int .u8 32,.int .u8 43,.int .u8 32,.int .u8 49] 5 (7,8))) fun e W'=>∃ pa cp,e=.returned (.tuple #[.slice (some pa) 4 cp,.agg #[.int .i64 0,.int .i64 0],.int .i64 0])∧Ly.TMem W' (some pa) l1∧4≤cp∧Below w.heap.size w W':=by
 have h:=Ly.lex_told (some ⟨w.heap.size,0,none⟩) 7 7 b1 _ rfl (by omega) (by omega) (mem_const w b1 #[.int .u8 102,.int .u8 32,.int .u8 120,.int .u8 32,.int .u8 43,.int .u8 32,.int .u8 49] 5 (7,8) rfl) (fun h=>by cases h) (hg.below (Nat.le_refl _) ((Below.refl _ w).alloc (Nat.le_refl _) _))
 have e1:Ly.plc b1=(0,0):=by unfold Ly.plc;rw [b1_lex];rfl
 have e2:Ly.ern b1=0:=by unfold Ly.ern;rw [b1_lex];rfl
 rw [e1,e2,b1_lex] at h
 refine h.mono ?_
 rintro e W' ⟨pa,cp,rfl,hT,hc,hb⟩
 obtain ⟨b,o,rfl⟩:∃ b o,pa=some ⟨b,o,none⟩:=by
  rcases hT with h | ⟨b,o,h,_⟩
  ·cases h
  ·exact ⟨b,o,h⟩
 exact ⟨_,cp,rfl,hT,hc,((Below.refl _ w).alloc (Nat.le_refl _) _).trans (hb.mono (by simp))⟩
theorem l1_ok:∀ t ∈ l1,Ly.OkT 8 t:=by
 intro t ht
 have:=Ly.lex_ok b1 t (by rw [b1_lex];exact ht)
 exact ⟨Nat.le_trans this.1 (by decide),this.2⟩
theorem exprC (w:World) {pa:Option Addr} {cp:Nat} (hT:Ly.TMem w pa l1):Calls Tryz.prog 11 #[.slice pa 4 cp] w fun r w'=>∃ pn cn pk ck,r=.returned (.tuple #[.agg #[.int .i64 9,.string ⟨#[43]⟩,.int .i64 0,.slice pn 0 cn,.slice pk 2 ck],.agg #[.int .i64 0,.int .i64 0],.int .i64 0])∧TrIn (fun b=>b<w'.heap.size) w' tP [.int .i64 9,.string ⟨#[43]⟩,.int .i64 0,.slice pn 0 cn,.slice pk 2 ck]∧Below w.heap.size w w':=by
 have h:=pexpr_any (P:=fun b=>b<w.heap.size) (l:=l1.map tkOf) (n:=4) (tc:=cp) (fun b hb=>hb) rfl (km_of hT l1_ok (by omega)) (by omega)
 rw [b1_expr] at h
 exact h
theorem exprC3 (w:World) {pa:Option Addr} {cp:Nat} (hT:Ly.TMem w pa l1):Calls Tryz.prog 11 #[.slice pa 3 cp] w fun r w'=>∃ pn cn pk ck,r=.returned (.tuple #[.agg #[.int .i64 0,.string ⟨#[]⟩,.int .i64 0,.slice pn 0 cn,.slice pk 0 ck],.agg #[.int .i64 1,.int .i64 5],.int .i64 60])∧Below w.heap.size w w':=by
 have h:=pexpr_any (P:=fun b=>b<w.heap.size) (l:=(l1.take 3).map tkOf) (n:=3) (tc:=cp) (fun b hb=>hb) rfl (km_of (hT.take 3) (fun t ht=>l1_ok t (List.mem_of_mem_take ht)) (by omega)) (by omega)
 rw [b1_cut] at h
 refine h.mono ?_
 rintro r w' ⟨pn,cn,pk,ck,rfl,_,hb⟩
 exact ⟨pn,cn,pk,ck,rfl,hb⟩
theorem textC (w:World) (hg:Ly.Glob w):Calls Tryz.prog 17 #[.slice (some ⟨w.heap.size,0,none⟩) 21 21] (w.alloc (.cells #[.int .u8 102,.int .u8 32,.int .u8 120,.int .u8 32,.int .u8 61,.int .u8 32,.int .u8 120,.int .u8 10,.int .u8 103,.int .u8 32,.int .u8 61,.int .u8 32,.int .u8 100,.int .u8 111,.int .u8 10,.int .u8 32,.int .u8 32,.int .u8 102,.int .u8 32,.int .u8 49,.int .u8 10] 5 (21,22))) fun r w'=>∃ pd cd pf cf,r=.returned (.tuple #[.agg #[.slice pd 0 cd,.slice pf 2 cf],.agg #[.int .i64 0,.int .i64 0],.int .i64 0])∧PgIn2 (QU w') (fun b=>b<w'.heap.size) w' pG [.slice pd 0 cd,.slice pf 2 cf]∧Below w.heap.size w w':=by
 have h:=ptext_any (p:=some ⟨w.heap.size,0,none⟩) (m:=21) (c:=21) (src:=b2) rfl (by omega) (by omega) (mem_const w b2 #[.int .u8 102,.int .u8 32,.int .u8 120,.int .u8 32,.int .u8 61,.int .u8 32,.int .u8 120,.int .u8 10,.int .u8 103,.int .u8 32,.int .u8 61,.int .u8 32,.int .u8 100,.int .u8 111,.int .u8 10,.int .u8 32,.int .u8 32,.int .u8 102,.int .u8 32,.int .u8 49,.int .u8 10] 5 (21,22) rfl) (fun h=>by cases h) (hg.below (Nat.le_refl _) ((Below.refl _ w).alloc (Nat.le_refl _) _))
 rw [b2_text] at h
 refine h.mono ?_
 rintro r w' ⟨pd,cd,pf,cf,rfl,hE,hb⟩
 exact ⟨pd,cd,pf,cf,rfl,PgIn2.mono2 (KP.refl _ _) (KP.refl _ _) (fun b hb=>hb) (fun b hb=>hb.1) _ _ hE,((Below.refl _ w).alloc (Nat.le_refl _) _).trans (hb.mono (by simp))⟩
theorem textC3 (w:World) (hg:Ly.Glob w):Calls Tryz.prog 17 #[.slice (some ⟨w.heap.size,0,none⟩) 5 5] (w.alloc (.cells #[.int .u8 102,.int .u8 32,.int .u8 61,.int .u8 32,.int .u8 61] 5 (5,6))) fun r w'=>∃ pd cd pf cf,r=.returned (.tuple #[.agg #[.slice pd 0 cd,.slice pf 0 cf],.agg #[.int .i64 1,.int .i64 5],.int .i64 60])∧Below w.heap.size w w':=by
 have h:=ptext_any (p:=some ⟨w.heap.size,0,none⟩) (m:=5) (c:=5) (src:=b3) rfl (by omega) (by omega) (mem_const w b3 #[.int .u8 102,.int .u8 32,.int .u8 61,.int .u8 32,.int .u8 61] 5 (5,6) rfl) (fun h=>by cases h) (hg.below (Nat.le_refl _) ((Below.refl _ w).alloc (Nat.le_refl _) _))
 rw [b3_text] at h
 refine h.mono ?_
 rintro r w' ⟨pd,cd,pf,cf,rfl,_,hb⟩
 exact ⟨pd,cd,pf,cf,rfl,((Below.refl _ w).alloc (Nat.le_refl _) _).trans (hb.mono (by simp))⟩
theorem printC (w:World) (hG:GP (fun b=>b<w.heap.size) w) {pn pk:Option Addr} {cn ck:Nat} (hE:TrIn (fun b=>b<w.heap.size) w tP [.int .i64 9,.string ⟨#[43]⟩,.int .i64 0,.slice pn 0 cn,.slice pk 2 ck]):Calls Tryz.prog 22 #[.agg #[.int .i64 9,.string ⟨#[43]⟩,.int .i64 0,.slice pn 0 cn,.slice pk 2 ck]] w fun r w'=>r=.returned (.tuple #[.string ⟨#[40,102,32,120,41,32,43,32,49]⟩,.int .i64 0])∧Below w.heap.size w w':=by
 have h:=expr_any (e:=tP) (pn:=pn) (cn:=cn) (pk:=pk) (ck:=ck) hG hE (by rw [po_P];simp [tP,tA,tF,tX,tI]) (by rw [po_P];simp [tP,tA,tF,tX,tI])
 rw [av1] at h
 exact h
theorem pG_po (d:Df) (hd:d ∈ pG.fs):(∀ x ∈ po d.bd 1,x.1≤1000000∧x.2.ks.length≤1000000)∧∀ x ∈ po d.bd 1,x.2.ns.length≤1000000:=by
 rcases List.mem_cons.1 hd with rfl | hd
 ·show (∀ x ∈ po tL 1,_)∧∀ x ∈ po tL 1,_
  rw [po_L]
  simp [tL,tX]
 ·rcases List.mem_cons.1 hd with rfl | hd
  ·show (∀ x ∈ po tD 1,_)∧∀ x ∈ po tD 1,_
   rw [po_D]
   simp [tD,tQ,tF,tI]
  ·cases hd
theorem printG (w:World) (hG:GP (fun b=>b<w.heap.size) w) {pd pf:Option Addr} {cd cf:Nat} (hE:PgIn2 (QU w) (fun b=>b<w.heap.size) w pG [.slice pd 0 cd,.slice pf 2 cf]):Calls Tryz.prog 21 #[.agg #[.slice pd 0 cd,.slice pf 2 cf]] w fun r w'=>r=.returned (.tuple #[.string ⟨#[123,32,102,32,61,32,92,120,32,45,62,32,120,32,59,32,103,32,61,32,100,111,32,123,32,102,32,49,32,125,32,125]⟩,.int .i64 0])∧Below w.heap.size w w':=by
 have h:=prog_any2 (p:=pG) (pd:=pd) (cd:=cd) (pf:=pf) (cf:=cf) hG (qu_pl w) (fun b hb=>hb) hE (fun d hd=>(pG_po d hd).1) (fun d hd=>(pG_po d hd).2) (by simp [pG])
 rw [av2] at h
 exact h
theorem gp_below {w W:World} (hG:GP (fun b=>b<w.heap.size) w) (hb:Below w.heap.size w W):GP (fun b=>b<W.heap.size) W:=hG.keep (KP.of_below hb fun b hb=>hb) (fun b hb'=>Nat.lt_of_lt_of_le hb' hb.size)
theorem two_new (w:World) (A B:Array Value) (t s:TypeId):Below w.heap.size w ((w.alloc (.cells A t)).alloc (.cells B s))∧Hold w.heap.size A t ((w.alloc (.cells A t)).alloc (.cells B s))∧Hold (w.heap.size+1) B s ((w.alloc (.cells A t)).alloc (.cells B s))∧((w.alloc (.cells A t)).alloc (.cells B s)).heap.size=w.heap.size+2:=by
 refine ⟨((Below.refl _ w).alloc (Nat.le_refl _) _).alloc (by simp) _,(Hold.new w A t).alloc _,?_,by simp⟩
 have:=Hold.new (w.alloc (.cells A t)) B s
 simpa using this
theorem trin_to {w W:World} {e:Tr} {cs:List Value} (h:TrIn (fun b=>b<w.heap.size) w e cs) (hb:Below w.heap.size w W):TrIn (fun b=>b<W.heap.size) W e cs:=TrIn.keep (KP.of_below hb fun b hb=>hb) (fun b hb'=>Nat.lt_of_lt_of_le hb' hb.size) _ _ h
theorem pgin_to {w W:World} {e:Pg} {cs:List Value} (h:PgIn2 (QU w) (fun b=>b<w.heap.size) w e cs) (hb:Below w.heap.size w W):PgIn2 (QU W) (fun b=>b<W.heap.size) W e cs:=PgIn2.mono2 (KP.of_below hb fun b hb=>hb.1) (KP.of_below hb fun b hb=>hb) (fun b hb'=>hb'.keep hb.size (hb.block b hb'.1)) (fun b hb'=>Nat.lt_of_lt_of_le hb' hb.size) _ _ h
theorem awake_any (w:World) (hg:Ly.Glob w) (hG:GP (fun b=>b<w.heap.size) w):Calls Tryz.prog 10 #[] w fun e w'=>e=.returned (.bool true)∧Below w.heap.size w w':=by
 have kc:=fun (w:World) (C:Array Value) (n c:Nat)=>Lib.run_convert_bytes_const (P:=Tryz.prog) w 42 5 C n c Tryz.underlying42 Tryz.underlying5
 have HG:=zz hG
 have HL:=zz hg
 clear hG hg
 go_enter Tryz.func10,Tryz.ntmps10
 go_wp2_with fail
 refine (lexC w HL.out).mono ?_
 rintro r w1 ⟨pa,cp,rfl,hT,hcp,hb1⟩
 have HB1:=zz hb1
 clear hb1
 go_wp2_with fail
 refine (exprC _ (hT.below (Nat.le_refl _) ((Below.refl _ w1).alloc (Nat.le_refl _) _))).mono ?_
 rintro r w2 ⟨pn,cn,pk,ck,rfl,hE2,hb2⟩
 have hb2':Below w1.heap.size w1 w2:=((Below.refl _ w1).alloc (Nat.le_refl _) _).trans (hb2.mono (by simp))
 have hT2:=hT.below (Nat.le_refl _) hb2'
 have HB2:=zz (HB1.out.trans (hb2'.mono HB1.out.size))
 clear hb2 hb2' hT HB1
 go_wp2_with fail
 obtain ⟨nB,n0,n1,nS⟩:=two_new w2 #[.int .i64 9,.string ⟨#[43]⟩,.int .i64 0,.slice pn 0 cn,.slice pk 2 ck] #[.int .i64 0,.int .i64 0] 27 29
 generalize (w2.alloc (.cells #[.int .i64 9,.string ⟨#[43]⟩,.int .i64 0,.slice pn 0 cn,.slice pk 2 ck] 27)).alloc (.cells #[.int .i64 0,.int .i64 0] 29)=W2 at *
 refine (exprC3 W2 (hT2.below (Nat.le_refl _) nB)).mono ?_
 rintro r w3 ⟨qn,dn,qk,dk,rfl,hb3⟩
 have HE3:=zz (trin_to (trin_to hE2 nB) hb3)
 have HB3:=zz ((HB2.out.trans (nB.mono HB2.out.size)).trans (hb3.mono (HB2.out.trans (nB.mono HB2.out.size)).size))
 have HX3:=zz (n0.below hb3 n0.lt)
 have HY3:=zz (n1.below hb3 n1.lt)
 have hs3:=hb3.size
 clear hT2 hE2 hb3 nB n0 n1 HB2
 go_upto_region 6 with fail
 obtain ⟨nB,n0,n1,nS3⟩:=two_new w3 #[.int .i64 0,.string ⟨#[]⟩,.int .i64 0,.slice qn 0 dn,.slice qk 0 dk] #[.int .i64 1,.int .i64 5] 27 29
 generalize hW3:(w3.alloc (.cells #[.int .i64 0,.string ⟨#[]⟩,.int .i64 0,.slice qn 0 dn,.slice qk 0 dk] 27)).alloc (.cells #[.int .i64 1,.int .i64 5] 29)=W3 at *
 have HB4:=zz (HB3.out.trans (nB.mono HB3.out.size))
 have HE4:=zz (trin_to HE3.out nB)
 have HX4:=zz (HX3.out.below nB HX3.out.lt)
 have HY4:=zz (HY3.out.below nB HY3.out.lt)
 have HZ4:=zz n1
 have HS3:=zz nS3
 clear hW3 nB n0 n1 HB3 HE3 HX3 HY3 nS3
 go_wp2_with fail
 refine (textC W3 (HL.out.below (Nat.le_refl _) HB4.out)).mono ?_
 rintro r w4 ⟨pd,cd,pf,cf,rfl,hG5,hb5⟩
 have HG5:=zz hG5
 have HB5:=zz (HB4.out.trans (hb5.mono HB4.out.size))
 have HE5:=zz (trin_to HE4.out hb5)
 have HX5:=zz (HX4.out.below hb5 HX4.out.lt)
 have HY5:=zz (HY4.out.below hb5 HY4.out.lt)
 have HZ5:=zz (HZ4.out.below hb5 HZ4.out.lt)
 have hs5:=hb5.size
 clear hG5 hb5 HB4 HE4 HX4 HY4 HZ4
 go_upto_region 7 with fail
 obtain ⟨nB,n0,n1,nS5⟩:=two_new w4 #[.slice pd 0 cd,.slice pf 2 cf] #[.int .i64 0,.int .i64 0] 38 29
 generalize hW5:(w4.alloc (.cells #[.slice pd 0 cd,.slice pf 2 cf] 38)).alloc (.cells #[.int .i64 0,.int .i64 0] 29)=W5 at *
 have HB6:=zz (HB5.out.trans (nB.mono HB5.out.size))
 have HG6:=zz (pgin_to HG5.out nB)
 have HE6:=zz (trin_to HE5.out nB)
 have HX6:=zz (HX5.out.below nB HX5.out.lt)
 have HY6:=zz (HY5.out.below nB HY5.out.lt)
 have HZ6:=zz (HZ5.out.below nB HZ5.out.lt)
 have HU6:=zz n0
 have HV6:=zz n1
 have HS5:=zz nS5
 clear hW5 nB n0 n1 HB5 HG5 HE5 HX5 HY5 HZ5 nS5
 go_wp2_with fail
 refine (textC3 W5 (HL.out.below (Nat.le_refl _) HB6.out)).mono ?_
 rintro r w6 ⟨qd,ed,qf,ef,rfl,hb7⟩
 have HG7:=zz (pgin_to HG6.out hb7)
 have HB7:=zz (HB6.out.trans (hb7.mono HB6.out.size))
 have HE7:=zz (trin_to HE6.out hb7)
 have HX7:=zz (HX6.out.below hb7 HX6.out.lt)
 have HY7:=zz (HY6.out.below hb7 HY6.out.lt)
 have HZ7:=zz (HZ6.out.below hb7 HZ6.out.lt)
 have HU7:=zz (HU6.out.below hb7 HU6.out.lt)
 have HV7:=zz (HV6.out.below hb7 HV6.out.lt)
 have hs7:=hb7.size
 clear hb7 HB6 HE6 HX6 HY6 HZ6 HU6 HV6 HG6
 go_upto_region 8 with fail
 obtain ⟨nB,n0,n1,nS7⟩:=two_new w6 #[.slice qd 0 ed,.slice qf 0 ef] #[.int .i64 1,.int .i64 5] 38 29
 generalize hW7:(w6.alloc (.cells #[.slice qd 0 ed,.slice qf 0 ef] 38)).alloc (.cells #[.int .i64 1,.int .i64 5] 29)=W7 at *
 have HB8:=zz (HB7.out.trans (nB.mono HB7.out.size))
 have HG8:=zz (pgin_to HG7.out nB)
 have HE8:=zz (trin_to HE7.out nB)
 have HX8:=zz (HX7.out.below nB HX7.out.lt)
 have HY8:=zz (HY7.out.below nB HY7.out.lt)
 have HZ8:=zz (HZ7.out.below nB HZ7.out.lt)
 have HU8:=zz (HU7.out.below nB HU7.out.lt)
 have HV8:=zz (HV7.out.below nB HV7.out.lt)
 have HW8:=zz n1
 have HS7:=zz nS7
 clear hW7 nB n0 n1 HB7 HE7 HX7 HY7 HZ7 HU7 HV7 HG7 nS7 kc HS5 HS3 hs7 hs5 hs3 nS
 have u1:=HU8.out.cell 1
 have x0:=HX8.out.cell 0
 have x1:=HX8.out.cell 1
 have x2:=HX8.out.cell 2
 have x3:=HX8.out.cell 3
 have x4:=HX8.out.cell 4
 simp only [lGA,lGS,lGZ] at u1 x0 x1 x2 x3 x4
 go_wp2_with fail
 refine (printC W7 (gp_below HG.out HB8.out) HE8.out).mono ?_
 rintro r w9 ⟨rfl,hb9⟩
 have HG9:=zz (pgin_to HG8.out hb9)
 have HB9:=zz (HB8.out.trans (hb9.mono HB8.out.size))
 have HY9:=zz (HY8.out.below hb9 HY8.out.lt)
 have HZ9:=zz (HZ8.out.below hb9 HZ8.out.lt)
 have HV9:=zz (HV8.out.below hb9 HV8.out.lt)
 have HW9:=zz (HW8.out.below hb9 HW8.out.lt)
 have hU9:=HU8.out.below hb9 HU8.out.lt
 clear u1 x0 x1 x2 x3 x4 hb9 HG8 HB8 HY8 HZ8 HV8 HW8 HX8 HE8
 have u0:=hU9.cell 0
 have u1:=hU9.cell 1
 simp only [lGA,lGS,lGZ] at u0 u1
 clear hU9 HU8
 go_wp2_with fail
 refine (printG w9 (gp_below HG.out HB9.out) HG9.out).mono ?_
 rintro r wx ⟨rfl,hbx⟩
 have HBx:=zz (HB9.out.trans (hbx.mono HB9.out.size))
 have hYx:=HY9.out.below hbx HY9.out.lt
 have hZx:=HZ9.out.below hbx HZ9.out.lt
 have hVx:=HV9.out.below hbx HV9.out.lt
 have hWx:=HW9.out.below hbx HW9.out.lt
 have y0:=hYx.cell 0
 have y1:=hYx.cell 1
 have z0:=hZx.cell 0
 have z1:=hZx.cell 1
 have v0:=hVx.cell 0
 have v1:=hVx.cell 1
 have t0:=hWx.cell 0
 have t1:=hWx.cell 1
 simp only [lGA,lGS,lGZ] at y0 y1 z0 z1 v0 v1 t0 t1
 clear u0 u1 hbx HG9 HB9 HY9 HZ9 HV9 HW9 hYx hZx hVx hWx
 go_wp2_with fail
 go_ret
 exact ⟨rfl,HBx.out⟩
end Go.Proofs.YtcnnlecjdkfdjaaGreatDoor
