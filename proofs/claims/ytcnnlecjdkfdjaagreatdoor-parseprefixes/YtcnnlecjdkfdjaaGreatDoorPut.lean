/- Put: the texts of these names, of which the claim is made. -/
import Derived.Test.YtcnnlecjdkfdjaaGreatDoorBetween
import Derived.Test.YtcnnlecjdkfdjaaGreatDoorLyEnd
set_option linter.unusedVariables false
set_option linter.unusedSimpArgs false
set_option maxRecDepth 100000
set_option maxHeartbeats 8000000
namespace Go.Proofs.YtcnnlecjdkfdjaaGreatDoor
open Go.RowKit
theorem TXs.below {P:Nat→Prop} {t:Nat} {a0:Value} {pa:Option Addr} {ca:Nat} {o:List UInt8} {r:Int} {tg:Bool} {l:Int} {nn:Bool} {w w':World} (h:TXs P t a0 pa ca o r tg l nn w) (hb:Below w.heap.size w w'):TXs P t a0 pa ca o r tg l nn w':=by
 refine ⟨h.hold.below hb h.hold.lt,row_keep h.own fun g _ hg=>hb.block g hg,h.self,h.room,fun b hP=>?_⟩
 obtain ⟨h1,h2,h3⟩:=h.apart b hP
 exact ⟨Nat.lt_of_lt_of_le h1 hb.size,h2,h3⟩
theorem TX.below {P:Nat→Prop} {t:Nat} {st:St} {lv:Nat} {w w':World} (h:TX P t st lv w) (hb:Below w.heap.size w w'):TX P t st lv w':=by
 obtain ⟨a0,pa,ca,o,r,tg,l,nn,hT,hS⟩:=h
 exact ⟨a0,pa,ca,o,r,tg,l,nn,hT.below hb,hS⟩
theorem TX.weak {P Q:Nat→Prop} {t:Nat} {st:St} {lv:Nat} {w:World} (h:TX P t st lv w) (hq:∀ b,Q b→P b):TX Q t st lv w:=by
 obtain ⟨a0,pa,ca,o,r,tg,l,nn,hT,hS⟩:=h
 exact ⟨a0,pa,ca,o,r,tg,l,nn,⟨hT.hold,hT.own,hT.self,hT.room,fun b hb=>hT.apart b (hq b hb)⟩,hS⟩
theorem TX.lt {P:Nat→Prop} {t:Nat} {st:St} {lv:Nat} {w:World} (h:TX P t st lv w):∀ b,P b→b<w.heap.size:=by
 obtain ⟨a0,pa,ca,o,r,tg,l,nn,hT,hS⟩:=h
 exact fun b hb=>(hT.apart b hb).1
theorem TX.new {P:Nat→Prop} {t:Nat} {st:St} {lv:Nat} {w:World} (h:TX P t st lv w) (o:Obj):TX (fun b=>P b∨b=w.heap.size) t st lv (w.alloc o):=by
 have hb:Below w.heap.size w (w.alloc o):=(Below.refl _ w).alloc (Nat.le_refl _) o
 obtain ⟨a0,pa,ca,o',r,tg,l,nn,hT,hS⟩:=h
 have h2:=hT.below hb
 refine ⟨a0,pa,ca,o',r,tg,l,nn,⟨h2.hold,h2.own,h2.self,h2.room,fun b hb=>?_⟩,hS⟩
 rcases hb with hb | rfl
 ·exact h2.apart b hb
 ·exact ⟨by simp,fun e=>by have:=hT.hold.lt;omega,row_lt hT.own⟩
def GP (P : Nat → Prop) (w : World) : Prop := Lib.TabIs Tryz.prog w "internal/strconv.uint64pow10" .u64 Lib.pow10Tab ∧ ∀ g, Tryz.prog.globalNamed "internal/strconv.uint64pow10" = some g → P g
theorem GP.keep {P Q:Nat→Prop} {w w':World} (h:GP P w) (k:KP P w w') (hq:∀ b,P b→Q b):GP Q w':=by
 refine ⟨?_,fun g hg=>hq g (h.2 g hg)⟩
 have h1:=h.1
 unfold Lib.TabIs World.var? at h1 ⊢
 cases hg : Tryz.prog.globalNamed "internal/strconv.uint64pow10" with
 | none=>rw [hg] at h1;cases h1
 | some g=>
  rw [hg] at h1
  simp only [Option.bind_some] at h1 ⊢
  rw [show w'.heap[g]?=w.heap[g]? from k.block g (h.2 g hg)]
  exact h1
def PutOK (n:Nat):Prop:=∀ (P:Nat→Prop) (t:Nat) (st:St) (lv:Nat) (ps:List Pt) (p:Option Addr) (c:Nat) (w:World),ptsw ps≤n→lv≤30→SlOK p ps.length c→AM (PV P w) P w p ps→GP P w→TX P t st lv w →
 Calls Tryz.prog 168 #[.pointer (some ⟨t,0,none⟩),.slice p ps.length c] w fun e w'=>e=.returned (.tuple #[])∧TX P t (ptsA lv ps st) lv w'∧KP P w w'
theorem put_new {n:Nat} (IH:PutOK n) {P:Nat→Prop} {t:Nat} {st:St} {lv:Nat} {w W:World} (ps:List Pt) (vs:List Value) (hl:vs.length=ps.length) (hv:∀ (i:Nat) p,ps[i]?=some p→∃ v,vs[i]?=some v∧PV P w p v) (hw:ptsw ps≤n) (hlv:lv≤30) (hG:GP P w) (hT:TX P t st lv w) (hB:Below w.heap.size w W) (g k:Nat) (hg:W.heap.size=g) (hk:ps.length=k) (hk2:k≤1000000) :
 Calls Tryz.prog 168 #[.pointer (some ⟨t,0,none⟩),.slice (some ⟨g,0,none⟩) k k] (W.alloc (.cells vs.toArray 20)) fun e w'=>e=.returned (.tuple #[])∧TX P t (ptsA lv ps st) lv w'∧KP P w w':=by
 subst hg hk
 have hT1:=(hT.below hB).new (.cells vs.toArray 20)
 have k1:KP P w W:=KP.of_below hB hT.lt
 have k2:KP P W (W.alloc (.cells vs.toArray 20)):=KP.alloc W _ fun b hb=>Nat.lt_of_lt_of_le (hT.lt b hb) hB.size
 have kk:=k1.trans k2
 refine (IH _ t st lv ps (some ⟨W.heap.size,0,none⟩) ps.length _ hw hlv ⟨Nat.le_refl _,by omega,fun h=>by cases h⟩ ?_ (hG.keep kk fun b hb=>Or.inl hb) hT1).mono ?_
 ·refine .inr ⟨W.heap.size,0,rfl,.inr rfl,fun i p hp=>?_⟩
  obtain ⟨v,h1,h2⟩:=hv i p hp
  refine ⟨v,?_,PV.keep kk (fun b hb=>Or.inl hb) p v h2⟩
  rw [Nat.zero_add,(Hold.new W vs.toArray 20).cell i]
  simpa using h1
 ·rintro e w' ⟨rfl,h1,h2⟩
  exact ⟨rfl,h1.weak fun b hb=>.inl hb,kk.trans (h2.mono fun b hb=>.inl hb)⟩
theorem TX.more {P Q:Nat→Prop} {t:Nat} {st:St} {lv:Nat} {w W:World} (h:TX P t st lv w) (hB:Below w.heap.size w W) (hq:∀ b,Q b→w.heap.size≤b∧b<W.heap.size):TX (fun b=>P b∨Q b) t st lv W:=by
 obtain ⟨a0,pa,ca,o',r,tg,l,nn,hT,hS⟩:=h
 have h2:=hT.below hB
 refine ⟨a0,pa,ca,o',r,tg,l,nn,⟨h2.hold,h2.own,h2.self,h2.room,fun b hb=>?_⟩,hS⟩
 rcases hb with hb | hb
 ·exact h2.apart b hb
 ·obtain ⟨q1,q2⟩:=hq b hb
  refine ⟨q2,fun e=>by have:=hT.hold.lt;omega,fun e=>?_⟩
  rcases hT.own.2 with ⟨hv,_⟩ | ⟨g,cap,cur,hv,_,hg,_⟩
  ·rw [hv] at e;simp [Value.ownBlock] at e
  ·rw [hv] at e
   have e2:b=g:=by simpa [Value.ownBlock] using e
   have:=(Array.getElem?_eq_some_iff.1 hg).1
   omega
theorem own_AM {α:Type} {R:α→Value→Prop} {P:Nat→Prop} {w:World} {B n c:Nat} {p:Option Addr} {vs:List Value} {l:List α} (h:w.ownsRow B 20 1 (.slice p n c) n vs) (hl:l.length=n) (hR:∀ (i:Nat) x,l[i]?=some x→∃ v,vs[i]?=some v∧R x v) :
 SlOK p n c∧AM R (fun b=>P b∨p.map Addr.block=some b) w p l∧∀ b,p.map Addr.block=some b→B≤b∧b<w.heap.size:=by
 rcases h.2 with ⟨hv,h0⟩ | ⟨g,cap,cur,hv,hb,hg,h1,h2,h3,h4⟩
 ·cases hv
  refine ⟨⟨Nat.le_refl _,by omega,fun _=>rfl⟩,.inl (List.length_eq_zero_iff.1 (by omega)),fun b hb=>by cases hb⟩
 ·cases hv
  refine ⟨⟨h1,by unfold maxLen at h2;omega,fun h=>by cases h⟩,.inr ⟨g,0,rfl,.inr rfl,fun i x hx=>?_⟩,fun b hb'=>?_⟩
  ·obtain ⟨v,e1,e2⟩:=hR i x hx
   exact ⟨v,by rw [Nat.zero_add];exact row_cell h e1,e2⟩
  ·cases hb'
   exact ⟨hb,(Array.getElem?_eq_some_iff.1 hg).1⟩
theorem ptsA_one (lv:Nat) (p:Pt) (st:St):ptsA lv [p] st=ptA lv p st:=rfl
theorem ptsA_is {lv:Nat} {ps:List Pt} {p:Pt} (h1:ps.all (ptOK lv)=ptOK lv p) (h2:ps.flatMap ptW=ptW p) (st:St):ptsA lv ps st=ptA lv p st:=by
 rw [ptsA_eq,h1,h2];rfl
def pStr (s:List UInt8):Pt:=.inl (.inl s)
def pOpn (s:List UInt8):Pt:=.inl (.inr (.inl s))
def pCls (s:List UInt8):Pt:=.inl (.inr (.inr (.inl s)))
def pStrs (l:List (List UInt8)):Pt:=.inl (.inr (.inr (.inr (.inl l))))
def pAtom (e:Tr):Pt:=.inl (.inr (.inr (.inr (.inr (.inl e)))))
def pExpr (e:Tr):Pt:=.inl (.inr (.inr (.inr (.inr (.inr (.inl e))))))
def pSigs (l:List Sg):Pt:=.inl (.inr (.inr (.inr (.inr (.inr (.inr (.inl l)))))))
def pSig (s:Sg):Pt:=.inl (.inr (.inr (.inr (.inr (.inr (.inr (.inr (.inl s))))))))
def pForm (f:Fm):Pt:=.inl (.inr (.inr (.inr (.inr (.inr (.inr (.inr (.inr (.inl f)))))))))
def pData (d:Dt):Pt:=.inl (.inr (.inr (.inr (.inr (.inr (.inr (.inr (.inr (.inr (.inl d))))))))))
def pDef (d:Df):Pt:=.inl (.inr (.inr (.inr (.inr (.inr (.inr (.inr (.inr (.inr (.inr (.inl d)))))))))))
def pProg (p:Pg):Pt:=.inl (.inr (.inr (.inr (.inr (.inr (.inr (.inr (.inr (.inr (.inr (.inr p)))))))))))
def pRow (s:List UInt8) (l:List P0):Pt:=.inr (s,l)
theorem vs_cons {P:Nat→Prop} {w:World} {p0:Pt} {ps:List Pt} {v0:Value} {vs:List Value} (h:PV P w p0 v0) (ht:∀ (i:Nat) p,ps[i]?=some p→∃ v,vs[i]?=some v∧PV P w p v):∀ (i:Nat) p,(p0 :: ps)[i]?=some p→∃ v,(v0 :: vs)[i]?=some v∧PV P w p v:=by
 intro i p hp
 cases i with
 | zero=>cases hp;exact ⟨v0,rfl,h⟩
 | succ i=>exact ht i p hp
theorem vs_nil {P:Nat→Prop} {w:World}:∀ (i:Nat) p,([]:List Pt)[i]?=some p→∃ v,([]:List Value)[i]?=some v∧PV P w p v:=by
 intro i p hp;simp at hp
theorem tr_cells {P:Nat→Prop} {w:World} {e:Tr} {cs:List Value} (h:TrIn P w e cs):∃ pn cn pk ck,cs=[.int .i64 e.kd,.string (S e.nm),.int .i64 e.nu,.slice pn e.ns.length cn,.slice pk e.ks.length ck]:=by
 obtain ⟨pn,cn,pk,ck,h1,_⟩:=(TrIn_iff P w e cs).1 h
 exact ⟨pn,cn,pk,ck,h1⟩
theorem atomT {n:Nat} (IH:PutOK n) {P:Nat→Prop} {t:Nat} {st:St} {lv:Nat} {w:World} {e:Tr} {cs:List Value} (hw:tw e+2≤n) (hlv:lv≤30) (hG:GP P w) (hT:TX P t st lv w) (hE:TrIn P w e cs) (hs:shp e=true) :
 Calls Tryz.prog 206 #[.pointer (some ⟨t,0,none⟩),.agg cs.toArray] w fun e' w'=>e'=.returned (.tuple #[])∧TX P t (ptA lv (pAtom e) st) lv w'∧KP P w w':=by
 obtain ⟨pn,cn,pk,ck,rfl⟩:=tr_cells hE
 have hH:Hold w.heap.size #[.int .i64 e.kd,.string (S e.nm),.int .i64 e.nu,.slice pn e.ns.length cn,.slice pk e.ks.length ck] 27 (w.alloc (.cells #[.int .i64 e.kd,.string (S e.nm),.int .i64 e.nu,.slice pn e.ns.length cn,.slice pk e.ks.length ck] 27)):=Hold.new w _ 27
 have c0:=hH.cell 0;have c1:=hH.cell 1;have c2:=hH.cell 2;have c3:=hH.cell 3;have c4:=hH.cell 4
 simp only [lGA,lGS,lGZ] at c0 c1 c2 c3 c4
 have hB:Below w.heap.size w (w.alloc (.cells #[.int .i64 e.kd,.string (S e.nm),.int .i64 e.nu,.slice pn e.ns.length cn,.slice pk e.ks.length ck] 27)):=(Below.refl _ w).alloc (Nat.le_refl _) _
 have hPE:PV P w (pExpr e) (.iface 27 (.agg #[.int .i64 e.kd,.string (S e.nm),.int .i64 e.nu,.slice pn e.ns.length cn,.slice pk e.ks.length ck])):=⟨_,rfl,hE,hs⟩
 have H1:=hide (put_new IH [pExpr e] [.iface 27 (.agg #[.int .i64 e.kd,.string (S e.nm),.int .i64 e.nu,.slice pn e.ns.length cn,.slice pk e.ks.length ck])] rfl (vs_cons hPE vs_nil) (by simp [ptsw,ptw,pExpr,p0w];omega) hlv hG hT hB (w.heap.size+1) 1 (by simp) rfl (by omega))
 have H2:=hide (put_new IH [pOpn [40],pExpr e,pCls [41]] [.iface 212 (.string (S [40])),.iface 27 (.agg #[.int .i64 e.kd,.string (S e.nm),.int .i64 e.nu,.slice pn e.ns.length cn,.slice pk e.ks.length ck]),.iface 213 (.string (S [41]))] rfl (vs_cons ⟨rfl,by simp⟩ (vs_cons hPE (vs_cons ⟨rfl,by simp⟩ vs_nil))) (by simp [ptsw,ptw,pExpr,pOpn,pCls,p0w];omega) hlv hG hT hB (w.heap.size+1) 3 (by simp) rfl (by omega))
 have A1:Hid (isAt e.kd=true→ptsA lv [pExpr e] st=ptA lv (pAtom e) st):=fun h=>ptsA_is rfl (by simp [ptW,pExpr,pAtom,p0W,atW,h]) st
 have A2:Hid (isAt e.kd=false→ptsA lv [pOpn [40],pExpr e,pCls [41]] st=ptA lv (pAtom e) st):=fun h=>ptsA_is rfl (by simp [ptW,pExpr,pOpn,pCls,pAtom,p0W,atW,brW,h]) st
 clear hH hPE hT hG hE IH hB
 cases ha:isAt e.kd
 ·have HA:=hide (A2.out ha)
  simp only [isAt,Bool.or_eq_false_iff,beq_eq_false_iff_ne,ne_eq] at ha
  obtain ⟨⟨h1,h2⟩,h3⟩:=ha
  go_enter Tryz.func206,Tryz.ntmps206
  go_wp2_with fail
  refine H2.out.mono ?_
  rintro e' w' ⟨rfl,hT',hK'⟩
  have HT':=hide hT'
  have HK':=hide hK'
  clear hT' hK'
  go_wp2_with fail
  go_end0
  exact ⟨rfl,by rw [← HA.out];exact HT'.out,HK'.out⟩
 ·have HA:=hide (A1.out ha)
  simp only [isAt,Bool.or_eq_true,beq_iff_eq] at ha
  rcases ha with (h1 | h1) | h1
  ·go_enter Tryz.func206,Tryz.ntmps206
   go_wp2_with fail
   have K:=H1.out
   rw [h1] at K
   refine K.mono ?_
   clear K
   rintro e' w' ⟨rfl,hT',hK'⟩
   have HT':=hide hT'
   have HK':=hide hK'
   clear hT' hK'
   go_wp2_with fail
   go_end0
   exact ⟨rfl,by rw [← HA.out];exact HT'.out,HK'.out⟩
  ·go_enter Tryz.func206,Tryz.ntmps206
   go_wp2_with fail
   have K:=H1.out
   rw [h1] at K
   refine K.mono ?_
   clear K
   rintro e' w' ⟨rfl,hT',hK'⟩
   have HT':=hide hT'
   have HK':=hide hK'
   clear hT' hK'
   go_wp2_with fail
   go_end0
   exact ⟨rfl,by rw [← HA.out];exact HT'.out,HK'.out⟩
  ·go_enter Tryz.func206,Tryz.ntmps206
   go_wp2_with fail
   have K:=H1.out
   rw [h1] at K
   refine K.mono ?_
   clear K
   rintro e' w' ⟨rfl,hT',hK'⟩
   have HT':=hide hT'
   have HK':=hide hK'
   clear hT' hK'
   go_wp2_with fail
   go_end0
   exact ⟨rfl,by rw [← HA.out];exact HT'.out,HK'.out⟩
end Go.Proofs.YtcnnlecjdkfdjaaGreatDoor
