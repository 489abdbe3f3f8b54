/- ExprP ProgP Aw: the texts of these names, of which the claim is made. -/
import Derived.Test.YtcnnlecjdkfdjaaGreatDoorTell
import Derived.Test.YtcnnlecjdkfdjaaGreatDoorTopT
set_option linter.unusedVariables false
set_option linter.unusedSimpArgs false
set_option maxRecDepth 100000
set_option maxHeartbeats 8000000
namespace Go.Proofs.YtcnnlecjdkfdjaaGreatDoor
open Go.RowKit
theorem po_kid {e k:Tr} {n:Nat} {x:Nat × Tr} (hk:k ∈ e.ks) (hx:x ∈ po k (n+1)):x ∈ po e n:=by
 rw [po_eq];exact List.mem_cons_of_mem _ (List.mem_flatMap.2 ⟨k,hk,hx⟩)
theorem po_self (e:Tr) (n:Nat):(n,e) ∈ po e n:=by rw [po_eq];simp
theorem goC_mem {l:List (Nat × Tr)}:∀ {z:Nat},goC z l=true→∀ x ∈ l,x.1≤30∧x.2.ks.length≤1000∧soundM x.2=true:=by
 induction l with
 | nil=>intro z _ x hx;cases hx
 | cons y r ih=>
  intro z h x hx
  simp only [goC,Bool.and_eq_true,decide_eq_true_eq] at h
  rcases List.mem_cons.1 hx with rfl | hx
  ·exact ⟨h.1.1.1,by omega,h.1.2⟩
  ·exact ih h.2 x hx
theorem check_mem {e:Tr} (h:checkM e=true):∀ x ∈ po e 1,x.1≤30∧x.2.ks.length≤1000∧soundM x.2=true:=by
 unfold checkM at h
 rw [Bool.and_eq_true] at h
 exact goC_mem h.2
theorem shp_of (e:Tr):∀ n,(∀ x ∈ po e n,x.2.ks.length≤1000000∧x.2.ns.length≤1000000∧soundM x.2=true)→shp e=true:=by
 induction e using Tr.ind with
 | _ e ih=>
  intro n h
  obtain ⟨h1,h2,h3⟩:=h (n,e) (po_self e n)
  rw [shp_eq]
  have hk:e.ks.all shp=true:=List.all_eq_true.2 fun k hk=>ih k hk (n+1) fun x hx=>h x (po_kid hk hx)
  have hkk:hasKidsM e=true:=by
   unfold soundM at h3
   simp only [Bool.and_eq_true] at h3
   exact h3.1.2
  rw [hk]
  simp only [decide_eq_true h1,decide_eq_true h2,Bool.and_true,Bool.true_and]
  unfold hasKidsM at hkk
  split
  ·rename_i hc
   rcases hc with hc | hc | hc | hc <;> rw [hc] at hkk <;> simp at hkk ⊢ <;> omega
  ·split
   ·rename_i hc
    rcases hc with hc | hc | hc <;> rw [hc] at hkk <;> simp at hkk ⊢ <;> omega
   ·split
    ·rename_i hc
     rw [hc] at hkk;simp at hkk ⊢;omega
    ·rfl
def outN:St→Nat
 | none=>1
 | some (o,_)=>o.length
theorem wdA_out (s o:List UInt8) (t:Bool):outN (wdA s (some (o,t)))=1∨o.length+s.length≤outN (wdA s (some (o,t))):=by
 simp only [wdA]
 generalize (if t=true then ([]:List UInt8) else [32])=g
 by_cases h:(o ++ (g ++ s)).length≤2147483647
 ·rw [if_pos h];right;simp [outN]
 ·rw [if_neg h];left;rfl
theorem tightA_out (st:St):outN (tightA st)=outN st:=by
 rcases st with _ | ⟨o,t⟩ <;> rfl
theorem oneA_out (x:Wd) (st:St):outN (oneA x st)=1∨outN st+x.2.length≤outN (oneA x st):=by
 rcases st with _ | ⟨o,t⟩
 ·left;rw [oneA_none];rfl
 ·unfold oneA
  split
  ·exact wdA_out x.2 o t
  ·split
   ·rw [tightA_out];exact wdA_out x.2 o t
   ·exact wdA_out x.2 o true
theorem oneA_pos (x:Wd) (st:St) (h:x.2≠[]):1≤outN (oneA x st):=by
 have hl:1≤x.2.length:=by cases hx:x.2 with | nil=>exact absurd hx h | cons a r=>simp
 rcases oneA_out x st with h1 | h1 <;> omega
theorem runA_pos (l:List Wd):∀ st,1≤outN st→1≤outN (runA l st):=by
 induction l with
 | nil=>intro st h;exact h
 | cons x r ih=>
  intro st h
  rw [runA_cons]
  refine ih _ ?_
  rcases oneA_out x st with h1 | h1 <;> omega
theorem runA_some (l:List Wd):∀ st,(∃ x ∈ l,x.2≠[])→1≤outN (runA l st):=by
 induction l with
 | nil=>intro st h;obtain ⟨x,hx,_⟩:=h;cases hx
 | cons y r ih=>
  intro st h
  rw [runA_cons]
  obtain ⟨x,hx,hne⟩:=h
  rcases List.mem_cons.1 hx with rfl | hx
  ·exact runA_pos r _ (oneA_pos x st hne)
  ·exact ih _ ⟨x,hx,hne⟩
theorem itoa_ne (n:Int):Lib.itoa n≠[]:=by
 unfold Lib.itoa
 split
 ·simp
 ·intro h
  have:=congrArg List.length h
  rw [Lib.decDigits_length] at this
  have:=Lib.nDigits_pos n.toNat
  simp at *;omega
theorem leaf_ne {e:Tr} (h:soundM e=true) (ha:isAt e.kd=true):∃ x ∈ ws e,x.2≠[]:=by
 unfold soundM at h
 simp only [Bool.and_eq_true] at h
 have hn:=h.1.1.1.2
 rw [ws_eq]
 unfold hasNameM at hn
 simp only [isAt,Bool.or_eq_true,beq_iff_eq] at ha
 rcases ha with (ha | ha) | ha
 ·exact ⟨pw (Lib.itoa e.nu),by simp [wsF,ha],itoa_ne _⟩
 ·rw [ha] at hn
  refine ⟨pw e.nm,by simp [wsF,ha],?_⟩
  intro h0
  have h0:e.nm=[]:=h0
  rw [h0] at hn;simp [nm,wd] at hn
 ·rw [ha] at hn
  refine ⟨pw e.nm,by simp [wsF,ha],?_⟩
  intro h0
  have h0:e.nm=[]:=h0
  rw [h0] at hn;simp [cn,wd] at hn
theorem atW_ne {e:Tr} (h:soundM e=true):∃ x ∈ atW (e,ws e),x.2≠[]:=by
 unfold atW
 split
 ·rename_i ha;exact leaf_ne h ha
 ·exact ⟨(1,[40]),by simp [brW],by simp⟩
theorem ws_ne {e:Tr} (h:∀ x ∈ po e 1,soundM x.2=true):∃ x ∈ ws e,x.2≠[]:=by
 have hs:=h _ (po_self e 1)
 by_cases ha:isAt e.kd=true
 ·exact leaf_ne hs ha
 have h2:=hs
 unfold soundM at h2
 simp only [Bool.and_eq_true] at h2
 have hk:=h2.1.2
 have hnn:=h2.1.1.2
 unfold hasKidsM at hk
 unfold hasNamesM at hnn
 have hks:∀ k ∈ e.ks,soundM k=true:=fun k hk=>h (2,k) (po_kid hk (po_self k 2))
 rw [ws_eq]
 simp only [isAt,Bool.or_eq_true,beq_iff_eq,not_or] at ha
 obtain ⟨⟨n1,n2⟩,n3⟩:=ha
 by_cases h4:e.kd=4
 ·exact ⟨(1,[92]),by simp [wsF,h4],by simp⟩
 by_cases h6:e.kd=6
 ·exact ⟨pw [108,101,116],by simp [wsF,h6],by simp [pw]⟩
 by_cases h7:e.kd=7
 ·exact ⟨pw [99,97,115,101],by simp [wsF,h7],by simp [pw]⟩
 by_cases h8:e.kd=8
 ·exact ⟨pw [45,62],by simp [wsF,h8],by simp [pw]⟩
 by_cases h10:e.kd=10
 ·exact ⟨pw [105,102],by simp [wsF,h10],by simp [pw]⟩
 by_cases h11:e.kd=11
 ·exact ⟨pw [100,111],by simp [wsF,h11],by simp [pw]⟩
 by_cases h12:e.kd=12
 ·exact ⟨pw [100,111,115],by simp [wsF,h12],by simp [pw]⟩
 by_cases h13:e.kd=13
 ·exact ⟨pw [60,45],by simp [wsF,h13],by simp [pw]⟩
 by_cases h5:e.kd=5∨e.kd=9
 ·have hl:e.ks.length=2:=by rcases h5 with h5 | h5 <;> rw [h5] at hk <;> simpa using hk
  obtain ⟨k0,r,hr⟩:∃ k0 r,e.ks=k0 :: r:=by cases hq:e.ks with | nil=>rw [hq] at hl;simp at hl | cons a r=>exact ⟨a,r,rfl⟩
  obtain ⟨x,hx,hne⟩:=atW_ne (hks k0 (by rw [hr];simp))
  refine ⟨x,?_,hne⟩
  rcases h5 with h5 | h5 <;> simp [wsF,h5,g0,hr,hx]
 ·exfalso
  rw [not_or] at h5
  simp [n1,n2,n3,h4,h5.1,h5.2,h6,h7,h8,h10,h11,h12,h13] at hk
theorem text_ne {e:Tr} (h:∀ x ∈ po e 1,soundM x.2=true) (tg:Bool):ptA 0 (pExpr e) (some ([],true))≠some ([],tg):=by
 intro hx
 have h1:=runA_some (ws e) (some ([],true)) (ws_ne h)
 have h2:ptA 0 (pExpr e) (some ([],true))=runA (ws e) (some ([],true)):=rfl
 rw [← h2,hx] at h1
 simp [outN] at h1
def exprV (e:Tr):Value:=if checkM e then wholeV (ptA 0 (pExpr e) (some ([],true))) else wholeV none
theorem expr_any {w:World} {e:Tr} {pn:Option Addr} {cn:Nat} {pk:Option Addr} {ck:Nat} (hG:GP (fun b=>b<w.heap.size) w) (hE:TrIn (fun b=>b<w.heap.size) w e [.int .i64 e.kd,.string (S e.nm),.int .i64 e.nu,.slice pn e.ns.length cn,.slice pk e.ks.length ck]) (hD:∀ x ∈ po e 1,x.1≤1000000∧x.2.ks.length≤1000000) (hN:∀ x ∈ po e 1,x.2.ns.length≤1000000) :
 Calls Tryz.prog 22 #[.agg (cs5 e pn cn pk ck)] w fun r w'=>r=.returned (exprV e)∧Below w.heap.size w w':=by
 obtain ⟨W,hW⟩:∃ W,W=w.alloc (.cells (cs5 e pn cn pk ck) 27):=⟨_,rfl⟩
 have hB:Below w.heap.size w W:=by rw [hW];exact (Below.refl _ w).alloc (Nat.le_refl _) _
 have hBd:Below w.heap.size w W.drew:=⟨hB.os,hB.tape,hB.output,hB.size,hB.block⟩
 have hH:Hold w.heap.size (cs5 e pn cn pk ck) 27 W:=by rw [hW];exact Hold.new w _ 27
 have hWs:W.heap.size=w.heap.size+1:=by rw [hW];simp
 have hKd:KP (fun b=>b<w.heap.size) w W.drew:=KP.of_below hBd fun b hb=>hb
 have hE1:=TrIn.keep hKd (Q:=fun b=>b<w.heap.size) (fun b hb=>hb) e _ hE
 have HC:=hide (check_tree (fun b hb=>Nat.lt_of_lt_of_le hb hBd.size) hE1 hD)
 have HWH:=hide fun (W2:World) (hb:Below w.heap.size w W2) (hc:checkM e=true)=>wholeT (w:=W2) (x:=pExpr e) (ty:=27) (y:=.agg #[.int .i64 e.kd,.string (S e.nm),.int .i64 e.nu,.slice pn e.ns.length cn,.slice pk e.ks.length ck]) (hG.keep (KP.of_below hb fun b hb=>hb) (fun b hb'=>Nat.lt_of_lt_of_le hb' hb.size))
  ⟨_,rfl,TrIn.keep (KP.of_below hb fun b hb=>hb) (fun b hb'=>Nat.lt_of_lt_of_le hb' hb.size) e _ hE,shp_of e 1 fun x hx=>⟨(hD x hx).2,hN x hx,(check_mem hc x hx).2.2⟩⟩ (text_ne fun x hx=>(check_mem hc x hx).2.2)
 have HS:Hid (∀ W2,Below W.drew.heap.size W.drew W2→(W2.cell? ⟨w.heap.size,0,none⟩=some (.int .i64 e.kd)∧W2.cell? ⟨w.heap.size,1,none⟩=some (.string (S e.nm))∧W2.cell? ⟨w.heap.size,2,none⟩=some (.int .i64 e.nu)∧W2.cell? ⟨w.heap.size,3,none⟩=some (.slice pn e.ns.length cn)∧W2.cell? ⟨w.heap.size,4,none⟩=some (.slice pk e.ks.length ck))):=fun W2 hb=>by
  have hl:w.heap.size<W.drew.heap.size:=by show w.heap.size<W.heap.size;omega
  have h:Hold w.heap.size (cs5 e pn cn pk ck) 27 W2:=Hold.below (W:=W.drew) (show Hold w.heap.size _ 27 W.drew from hH) hb hl
  exact ⟨h.cell 0,h.cell 1,h.cell 2,h.cell 3,h.cell 4⟩
 have h00:=HS.out W.drew (Below.refl _ _)
 obtain ⟨c0,c1,c2,c3,c4⟩:=h00
 have HBd:=hide hBd
 clear hE hE1 hG hD hN hB hBd hKd hH
 unfold cs5 at *
 cases hck:checkM e
 ·have HV:Hid (exprV e=wholeV none):=by show exprV e=_;unfold exprV;rw [hck];rfl
  rw [hck] at HC
  clear hck
  go_enter Tryz.func22,Tryz.ntmps22
  go_wp2_with fail
  rw [← hW]
  clear hW
  go_region_held3 (fun w'=>w'.cell? ⟨w.heap.size,0,none⟩=some (.int .i64 e.kd)∧w'.cell? ⟨w.heap.size,1,none⟩=some (.string (S e.nm))∧w'.cell? ⟨w.heap.size,2,none⟩=some (.int .i64 e.nu)∧w'.cell? ⟨w.heap.size,3,none⟩=some (.slice pn e.ns.length cn)∧w'.cell? ⟨w.heap.size,4,none⟩=some (.slice pk e.ks.length ck)) (first | go_keep | (exact HS.out _ HB2.out) | (exact HS.out _ HB1.out)) (first | (go_at_call 28;refine HC.out.mono ?_;rintro r w1 ⟨rfl,hb1⟩;have HB1:=hide hb1;clear hb1) | (go_at_call 53;refine whole_no.mono ?_;rintro r w2 ⟨rfl,rfl⟩;have HB2:=hide HB1.out;unfold wholeV))
  go_wp2_with fail
  go_ret2
  exact ⟨by rw [HV.out];rfl,HBd.out.trans (HB1.out.mono HBd.out.size)⟩
 ·have HV:Hid (exprV e=wholeV (ptA 0 (pExpr e) (some ([],true)))):=by show exprV e=_;unfold exprV;rw [hck];rfl
  rw [hck] at HC
  have HWW:=hide fun W2 hb=>HWH.out W2 hb hck
  clear hck HWH
  generalize ptA 0 (pExpr e) (some ([],true))=st at *
  obtain ⟨sv,nv,hsv⟩:∃ sv nv,wholeV st=.tuple #[.string sv,.int .i64 nv]:=by
   rcases st with _ | ⟨o,t⟩
   ·exact ⟨_,_,rfl⟩
   ·exact ⟨_,_,rfl⟩
  rw [hsv] at HWW HV
  clear hsv
  go_enter Tryz.func22,Tryz.ntmps22
  go_wp2_with fail
  rw [← hW]
  clear hW
  go_region_held3 (fun w'=>w'.cell? ⟨w.heap.size,0,none⟩=some (.int .i64 e.kd)∧w'.cell? ⟨w.heap.size,1,none⟩=some (.string (S e.nm))∧w'.cell? ⟨w.heap.size,2,none⟩=some (.int .i64 e.nu)∧w'.cell? ⟨w.heap.size,3,none⟩=some (.slice pn e.ns.length cn)∧w'.cell? ⟨w.heap.size,4,none⟩=some (.slice pk e.ks.length ck)) (first | go_keep | (exact HS.out _ HB2.out) | (exact HS.out _ HB1.out)) (first | (go_at_call 28;refine HC.out.mono ?_;rintro r w1 ⟨rfl,hb1⟩;have HB1:=hide hb1;have HW2:=hide (HWW.out w1 (HBd.out.trans (hb1.mono HBd.out.size)));clear hb1) | (go_at_call 53;refine HW2.out.mono ?_;rintro r w2 ⟨rfl,hb2⟩;have HB2:=hide (HB1.out.trans (hb2.mono HB1.out.size));clear hb2))
  go_wp2_with fail
  go_ret2
  exact ⟨by rw [HV.out];rfl,HBd.out.trans (HB2.out.mono HBd.out.size)⟩
end Go.Proofs.YtcnnlecjdkfdjaaGreatDoor
namespace Go.Proofs.YtcnnlecjdkfdjaaGreatDoor
open Go.RowKit Go.Shelf
theorem ptext_ne (p:Pg) (tg:Bool):ptA 0 (pProg p) (some ([],true))≠some ([],tg):=by
 intro hx
 unfold ptA at hx
 split at hx
 ·have h1:=runA_some (ptW (pProg p)) (some ([],true)) ⟨pw [123],by show _ ∈ pgW p;simp [pgW],by simp [pw]⟩
  rw [hx] at h1
  simp [outN] at h1
 ·cases hx
def progV (p:Pg):Value:=if progM p then wholeV (ptA 0 (pProg p) (some ([],true))) else wholeV none
theorem prog_any2 {Q P:Nat→Prop} {w:World} {p:Pg} {pd:Option Addr} {cd:Nat} {pf:Option Addr} {cf:Nat} (hG:GP (fun b=>b<w.heap.size) w) (hQ:PL Q w) (hP:∀ b,P b→b<w.heap.size) (hE:PgIn2 Q P w p [.slice pd p.ds.length cd,.slice pf p.fs.length cf]) (hD:∀ d ∈ p.fs,∀ x ∈ po d.bd 1,x.1≤1000000∧x.2.ks.length≤1000000) (hN:∀ d ∈ p.fs,∀ x ∈ po d.bd 1,x.2.ns.length≤1000000) (hS:∀ d ∈ p.ds,d.ps.length≤1000000) :
 Calls Tryz.prog 21 #[.agg #[.slice pd p.ds.length cd,.slice pf p.fs.length cf]] w fun r w'=>r=.returned (progV p)∧Below w.heap.size w w':=by
 obtain ⟨W,hW⟩:∃ W,W=w.alloc (.cells #[.slice pd p.ds.length cd,.slice pf p.fs.length cf] 38):=⟨_,rfl⟩
 have hB:Below w.heap.size w W:=by rw [hW];exact (Below.refl _ w).alloc (Nat.le_refl _) _
 have hBd:Below w.heap.size w W.drew:=⟨hB.os,hB.tape,hB.output,hB.size,hB.block⟩
 have hH:Hold w.heap.size #[.slice pd p.ds.length cd,.slice pf p.fs.length cf] 38 W:=by rw [hW];exact Hold.new w _ 38
 have hWs:W.heap.size=w.heap.size+1:=by rw [hW];simp
 have hE1:=PgIn2.keep (KP.of_below hBd hQ.lt) (KP.of_below hBd hP) p _ hE
 have HC:=hide (tprog_any2 (hQ.below (Nat.le_refl _) hBd) (fun b hb=>Nat.lt_of_lt_of_le (hP b hb) hBd.size) hE1 hD)
 have HWH:=hide fun (W2:World) (hb:Below w.heap.size w W2) (hc:progM p=true)=>wholeT (w:=W2) (x:=pProg p) (ty:=38) (y:=.agg #[.slice pd p.ds.length cd,.slice pf p.fs.length cf]) (hG.keep (KP.of_below hb fun b hb=>hb) (fun b hb'=>Nat.lt_of_lt_of_le hb' hb.size))
  (by
   unfold progM at hc
   simp only [Bool.and_eq_true,decide_eq_true_eq,List.all_eq_true] at hc
   obtain ⟨⟨⟨h1,h2⟩,h3⟩,h4⟩:=hc
   refine ⟨_,rfl,PgIn2.join (KP.of_below hb hQ.lt) (KP.of_below hb hP) (fun b hb'=>Nat.lt_of_lt_of_le (hQ.lt b hb') hb.size) (fun b hb'=>Nat.lt_of_lt_of_le (hP b hb') hb.size) p _ hE,by omega,by omega,fun d hd=>⟨hS d hd,?_⟩,fun d hd=>?_⟩
   ·have:=h3 d hd
    unfold dataM at this
    simp only [Bool.and_eq_true,decide_eq_true_eq] at this
    have:=this.1.2
    omega
   ·have:=h4 d hd
    unfold defM at this
    rw [Bool.and_eq_true] at this
    exact shp_of d.bd 1 fun x hx=>⟨(hD d hd x hx).2,hN d hd x hx,(check_mem this.2 x hx).2.2⟩) (ptext_ne p)
 have HS:Hid (∀ W2,Below W.drew.heap.size W.drew W2→(W2.cell? ⟨w.heap.size,0,none⟩=some (.slice pd p.ds.length cd)∧W2.cell? ⟨w.heap.size,1,none⟩=some (.slice pf p.fs.length cf))):=fun W2 hb=>by
  have hl:w.heap.size<W.drew.heap.size:=by show w.heap.size<W.heap.size;omega
  have h:Hold w.heap.size #[.slice pd p.ds.length cd,.slice pf p.fs.length cf] 38 W2:=Hold.below (W:=W.drew) (show Hold w.heap.size _ 38 W.drew from hH) hb hl
  exact ⟨h.cell 0,h.cell 1⟩
 have h00:=HS.out W.drew (Below.refl _ _)
 obtain ⟨c0,c1⟩:=h00
 have HBd:=hide hBd
 clear hE hE1 hG hD hN hB hBd hH hP hQ hS
 cases hck:progM p
 ·have HV:Hid (progV p=wholeV none):=by show progV p=_;unfold progV;rw [hck];rfl
  rw [hck] at HC
  clear hck
  go_enter Tryz.func21,Tryz.ntmps21
  go_wp2_with fail
  rw [← hW]
  clear hW
  go_region_held3 (fun w'=>w'.cell? ⟨w.heap.size,0,none⟩=some (.slice pd p.ds.length cd)∧w'.cell? ⟨w.heap.size,1,none⟩=some (.slice pf p.fs.length cf)) (first | go_keep | (exact HS.out _ HB2.out) | (exact HS.out _ HB1.out)) (first | (go_at_call 35;refine HC.out.mono ?_;rintro r w1 ⟨rfl,hb1⟩;have HB1:=hide hb1;clear hb1) | (go_at_call 53;refine whole_no.mono ?_;rintro r w2 ⟨rfl,rfl⟩;have HB2:=hide HB1.out;unfold wholeV))
  go_wp2_with fail
  go_ret2
  exact ⟨by rw [HV.out];rfl,HBd.out.trans (HB1.out.mono HBd.out.size)⟩
 ·have HV:Hid (progV p=wholeV (ptA 0 (pProg p) (some ([],true)))):=by show progV p=_;unfold progV;rw [hck];rfl
  rw [hck] at HC
  have HWW:=hide fun W2 hb=>HWH.out W2 hb hck
  clear hck HWH
  generalize ptA 0 (pProg p) (some ([],true))=st at *
  obtain ⟨sv,nv,hsv⟩:∃ sv nv,wholeV st=.tuple #[.string sv,.int .i64 nv]:=by
   rcases st with _ | ⟨o,t⟩
   ·exact ⟨_,_,rfl⟩
   ·exact ⟨_,_,rfl⟩
  rw [hsv] at HWW HV
  clear hsv
  go_enter Tryz.func21,Tryz.ntmps21
  go_wp2_with fail
  rw [← hW]
  clear hW
  go_region_held3 (fun w'=>w'.cell? ⟨w.heap.size,0,none⟩=some (.slice pd p.ds.length cd)∧w'.cell? ⟨w.heap.size,1,none⟩=some (.slice pf p.fs.length cf)) (first | go_keep | (exact HS.out _ HB2.out) | (exact HS.out _ HB1.out)) (first | (go_at_call 35;refine HC.out.mono ?_;rintro r w1 ⟨rfl,hb1⟩;have HB1:=hide hb1;have HW2:=hide (HWW.out w1 (HBd.out.trans (hb1.mono HBd.out.size)));clear hb1) | (go_at_call 53;refine HW2.out.mono ?_;rintro r w2 ⟨rfl,hb2⟩;have HB2:=hide (HB1.out.trans (hb2.mono HB1.out.size));clear hb2))
  go_wp2_with fail
  go_ret2
  exact ⟨by rw [HV.out];rfl,HBd.out.trans (HB2.out.mono HBd.out.size)⟩
end Go.Proofs.YtcnnlecjdkfdjaaGreatDoor
namespace Go.Proofs.YtcnnlecjdkfdjaaGreatDoor
open Go.RowKit
def b1:List UInt8:=[102,32,120,32,43,32,49]
def b2:List UInt8:=[102,32,120,32,61,32,120,10,103,32,61,32,100,111,10,32,32,102,32,49,10]
def b3:List UInt8:=[102,32,61,32,61]
def l1:List Ly.Tok:=[⟨2,[102],0,1,1⟩,⟨2,[120],0,1,3⟩,⟨4,[43],0,1,5⟩,⟨1,[49],1,1,7⟩]
def tX:Tr:=⟨2,[120],0,[],[]⟩
def tF:Tr:=⟨2,[102],0,[],[]⟩
def tI:Tr:=⟨1,[],1,[],[]⟩
def tA:Tr:=⟨5,[],0,[],[tF,tX]⟩
def tP:Tr:=⟨9,[43],0,[],[tA,tI]⟩
def tL:Tr:=⟨4,[],0,[[120]],[tX]⟩
def tQ:Tr:=⟨5,[],0,[],[tF,tI]⟩
def tD:Tr:=⟨11,[],0,[],[tQ]⟩
def pG:Pg:=⟨[],[⟨[102],tL⟩,⟨[103],tD⟩]⟩
theorem b1_lex:Ly.lexM b1=(l1,none):=by kernel_rfl
theorem b1_expr:exprM (l1.map tkOf)=(tP,(0,0),0):=by kernel_rfl
theorem b1_cut:exprM ((l1.take 3).map tkOf)=(t0,(1,5),60):=by kernel_rfl
theorem b2_text:textOut b2=(pG,(0,0),0):=by kernel_rfl
theorem b3_text:textOut b3=(⟨[],[]⟩,(1,5),60):=by kernel_rfl
theorem po_X (n:Nat):po tX n=[(n,tX)]:=by rw [po_eq];rfl
theorem po_F (n:Nat):po tF n=[(n,tF)]:=by rw [po_eq];rfl
theorem po_I (n:Nat):po tI n=[(n,tI)]:=by rw [po_eq];rfl
theorem po_A (n:Nat):po tA n=[(n,tA),(n+1,tF),(n+1,tX)]:=by rw [po_eq];simp [tA,po_X,po_F]
theorem po_P (n:Nat):po tP n=[(n,tP),(n+1,tA),(n+2,tF),(n+2,tX),(n+1,tI)]:=by rw [po_eq];simp [tP,po_A,po_I]
theorem po_L (n:Nat):po tL n=[(n,tL),(n+1,tX)]:=by rw [po_eq];simp [tL,po_X]
theorem po_Q (n:Nat):po tQ n=[(n,tQ),(n+1,tF),(n+1,tI)]:=by rw [po_eq];simp [tQ,po_F,po_I]
theorem po_D (n:Nat):po tD n=[(n,tD),(n+1,tQ),(n+2,tF),(n+2,tI)]:=by rw [po_eq];simp [tD,po_Q]
theorem s_X:soundM tX=true:=by decide
theorem s_F:soundM tF=true:=by decide
theorem s_I:soundM tI=true:=by decide
theorem s_A:soundM tA=true:=by decide
theorem s_P:soundM tP=true:=by decide
theorem s_L:soundM tL=true:=by decide
theorem s_Q:soundM tQ=true:=by decide
theorem s_D:soundM tD=true:=by decide
theorem ck_P:checkM tP=true:=by
 unfold checkM
 rw [po_P]
 simp only [goC,s_X,s_F,s_A,s_P,s_I]
 decide
theorem ck_L:checkM tL=true:=by
 unfold checkM
 rw [po_L]
 simp only [goC,s_X,s_L]
 decide
theorem ck_D:checkM tD=true:=by
 unfold checkM
 rw [po_D]
 simp only [goC,s_D,s_Q,s_F,s_I]
 decide
theorem ws_X:ws tX=[pw [120]]:=by rw [ws_eq];rfl
theorem ws_F:ws tF=[pw [102]]:=by rw [ws_eq];rfl
theorem itoa_1:Lib.itoa 1=[49]:=by kernel_rfl
theorem ws_I:ws tI=[pw [49]]:=by
 rw [ws_eq]
 show [pw (Lib.itoa 1)]=_
 rw [itoa_1]
theorem ws_A:ws tA=[pw [102],pw [120]]:=by
 rw [ws_eq]
 show wsF tA [(tF,ws tF),(tX,ws tX)]=_
 rw [ws_X,ws_F]
 rfl
theorem ws_Q:ws tQ=[pw [102],pw [49]]:=by
 rw [ws_eq]
 show wsF tQ [(tF,ws tF),(tI,ws tI)]=_
 rw [ws_I,ws_F]
 rfl
theorem ws_P:ws tP=[(1,[40]),pw [102],pw [120],(2,[41]),pw [43],pw [49]]:=by
 rw [ws_eq]
 show wsF tP [(tA,ws tA),(tI,ws tI)]=_
 rw [ws_A,ws_I]
 rfl
theorem ws_L:ws tL=[(1,[92]),pw [120],pw [45,62],pw [120]]:=by
 rw [ws_eq]
 show wsF tL [(tX,ws tX)]=_
 rw [ws_X]
 rfl
theorem ws_D:ws tD=[pw [100,111],pw [123],pw [102],pw [49],pw [125]]:=by
 rw [ws_eq]
 show wsF tD [(tQ,ws tQ)]=_
 rw [ws_Q]
 rfl
theorem av1:exprV tP=.tuple #[.string ⟨#[40,102,32,120,41,32,43,32,49]⟩,.int .i64 0]:=by
 unfold exprV
 rw [ck_P]
 show wholeV (runA (ws tP) _)=_
 rw [ws_P]
 rfl
theorem pg_G:pgW pG=[pw [123],pw [102],pw [61],(1,[92]),pw [120],pw [45,62],pw [120],pw [59],pw [103],pw [61],pw [100,111],pw [123],pw [102],pw [49],pw [125],pw [125]]:=by
 show pw [123] :: (sepW [59] ([] ++ [pw [102] :: pw [61] :: ws tL,pw [103] :: pw [61] :: ws tD]) ++ [pw [125]])=_
 rw [ws_L,ws_D]
 rfl
theorem pm_G:progM pG=true:=by
 unfold progM
 simp only [pG,List.all_cons,List.all_nil,Bool.and_true]
 have h1:defM ⟨[102],tL⟩=true:=by
  unfold defM
  simp only [ck_L]
  decide
 have h2:defM ⟨[103],tD⟩=true:=by
  unfold defM
  simp only [ck_D]
  decide
 rw [h1,h2]
 decide
theorem av2:progV pG=.tuple #[.string ⟨#[123,32,102,32,61,32,92,120,32,45,62,32,120,32,59,32,103,32,61,32,100,111,32,123,32,102,32,49,32,125,32,125]⟩,.int .i64 0]:=by
 unfold progV
 rw [pm_G]
 unfold ptA
 rw [show ptOK 0 (pProg pG)=true from by
  show [].all (fun d=>dtOK d 0)=true
  rfl,show ptW (pProg pG)=pgW pG from rfl,pg_G]
 rfl
end Go.Proofs.YtcnnlecjdkfdjaaGreatDoor
