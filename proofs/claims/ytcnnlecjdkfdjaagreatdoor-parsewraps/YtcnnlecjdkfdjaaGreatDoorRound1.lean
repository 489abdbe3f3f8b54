/- Parts of the proof. -/
import Derived.Test.YtcnnlecjdkfdjaaGreatDoorSig
set_option linter.unusedVariables false
set_option linter.unusedSimpArgs false
set_option maxRecDepth 100000
set_option maxHeartbeats 8000000
namespace Go.Proofs.YtcnnlecjdkfdjaaGreatDoor
open Go.RowKit
def behindLabel:Option Code→Code
 | some (.scope (.seq _ (.seq _ b)))=>b
 | _=>.skip
theorem arr_map (A:Array Value) (n:Nat) (h:A.size=n):A.toList=(List.range n).map fun k=>A.getD k undef:=by
 apply List.ext_getElem
 ·simp [h]
 ·intro i h1 h2
  simp at h1
  simp [Array.getD,h1]
theorem arr_lit (A:Array Value) (h:A.size=158) (T:Nat→Value) (hT:∀ k,T k=A.getD k undef):A=#[T 0,T 1,T 2,T 3,T 4,T 5,T 6,T 7,T 8,T 9,T 10,T 11,T 12,T 13,T 14,T 15,T 16,T 17,T 18,T 19,T 20,T 21,T 22,T 23,T 24,T 25,T 26,T 27,T 28,T 29,T 30,T 31,T 32,T 33,T 34,T 35,T 36,T 37,T 38,T 39,T 40,T 41,T 42,T 43,T 44,T 45,T 46,T 47,T 48,T 49,T 50,T 51,T 52,T 53,T 54,T 55,T 56,T 57,T 58,T 59,T 60,T 61,T 62,T 63,T 64,T 65,T 66,T 67,T 68,T 69,T 70,T 71,T 72,T 73,T 74,T 75,T 76,T 77,T 78,T 79,T 80,T 81,T 82,T 83,T 84,T 85,T 86,T 87,T 88,T 89,T 90,T 91,T 92,T 93,T 94,T 95,T 96,T 97,T 98,T 99,T 100,T 101,T 102,T 103,T 104,T 105,T 106,T 107,T 108,T 109,T 110,T 111,T 112,T 113,T 114,T 115,T 116,T 117,T 118,T 119,T 120,T 121,T 122,T 123,T 124,T 125,T 126,T 127,T 128,T 129,T 130,T 131,T 132,T 133,T 134,T 135,T 136,T 137,T 138,T 139,T 140,T 141,T 142,T 143,T 144,T 145,T 146,T 147,T 148,T 149,T 150,T 151,T 152,T 153,T 154,T 155,T 156,T 157]:=by
 have h1:=arr_map A 158 h
 have h2:(fun k=>A.getD k undef)=T:=funext fun k=>(hT k).symm
 rw [h2] at h1
 have h3:(List.range 158).map T=[T 0,T 1,T 2,T 3,T 4,T 5,T 6,T 7,T 8,T 9,T 10,T 11,T 12,T 13,T 14,T 15,T 16,T 17,T 18,T 19,T 20,T 21,T 22,T 23,T 24,T 25,T 26,T 27,T 28,T 29,T 30,T 31,T 32,T 33,T 34,T 35,T 36,T 37,T 38,T 39,T 40,T 41,T 42,T 43,T 44,T 45,T 46,T 47,T 48,T 49,T 50,T 51,T 52,T 53,T 54,T 55,T 56,T 57,T 58,T 59,T 60,T 61,T 62,T 63,T 64,T 65,T 66,T 67,T 68,T 69,T 70,T 71,T 72,T 73,T 74,T 75,T 76,T 77,T 78,T 79,T 80,T 81,T 82,T 83,T 84,T 85,T 86,T 87,T 88,T 89,T 90,T 91,T 92,T 93,T 94,T 95,T 96,T 97,T 98,T 99,T 100,T 101,T 102,T 103,T 104,T 105,T 106,T 107,T 108,T 109,T 110,T 111,T 112,T 113,T 114,T 115,T 116,T 117,T 118,T 119,T 120,T 121,T 122,T 123,T 124,T 125,T 126,T 127,T 128,T 129,T 130,T 131,T 132,T 133,T 134,T 135,T 136,T 137,T 138,T 139,T 140,T 141,T 142,T 143,T 144,T 145,T 146,T 147,T 148,T 149,T 150,T 151,T 152,T 153,T 154,T 155,T 156,T 157]:=rfl
 rw [h3] at h1
 exact Array.ext' h1
def putJ (P:Nat→Prop) (t:Nat) (st:St) (lv:Nat) (ps:List Pt) (p:Option Addr) (c:Nat) (w:World) (i:Nat) (a':Act) (w':World):Prop:=i≤ps.length∧a'.defers=[]∧a'.tmps.size=158∧a'.tmps.getD 0 undef=.pointer (some ⟨t,0,none⟩)∧a'.tmps.getD 1 undef=.slice p ps.length c∧a'.tmps.getD 4 undef=.int .i64 i∧TX P t (ptsA lv (ps.take i) st) lv w'∧KP P w w'
theorem putJ_lit {P:Nat→Prop} {t:Nat} {st:St} {lv:Nat} {ps:List Pt} {p:Option Addr} {c:Nat} {w:World} {i:Nat} {a:Act} {w':World} (h:putJ P t st lv ps p c w i a w'):∃ T:Nat→Value,a={ tmps:=#[.pointer (some ⟨t,0,none⟩),.slice p ps.length c,T 2,T 3,.int .i64 i,T 5,T 6,T 7,T 8,T 9,T 10,T 11,T 12,T 13,T 14,T 15,T 16,T 17,T 18,T 19,T 20,T 21,T 22,T 23,T 24,T 25,T 26,T 27,T 28,T 29,T 30,T 31,T 32,T 33,T 34,T 35,T 36,T 37,T 38,T 39,T 40,T 41,T 42,T 43,T 44,T 45,T 46,T 47,T 48,T 49,T 50,T 51,T 52,T 53,T 54,T 55,T 56,T 57,T 58,T 59,T 60,T 61,T 62,T 63,T 64,T 65,T 66,T 67,T 68,T 69,T 70,T 71,T 72,T 73,T 74,T 75,T 76,T 77,T 78,T 79,T 80,T 81,T 82,T 83,T 84,T 85,T 86,T 87,T 88,T 89,T 90,T 91,T 92,T 93,T 94,T 95,T 96,T 97,T 98,T 99,T 100,T 101,T 102,T 103,T 104,T 105,T 106,T 107,T 108,T 109,T 110,T 111,T 112,T 113,T 114,T 115,T 116,T 117,T 118,T 119,T 120,T 121,T 122,T 123,T 124,T 125,T 126,T 127,T 128,T 129,T 130,T 131,T 132,T 133,T 134,T 135,T 136,T 137,T 138,T 139,T 140,T 141,T 142,T 143,T 144,T 145,T 146,T 147,T 148,T 149,T 150,T 151,T 152,T 153,T 154,T 155,T 156,T 157],defers:=[] }:=by
 obtain ⟨h0,h1,h2,h3,h4,h5,_⟩:=h
 obtain ⟨tm,df⟩:=a
 refine ⟨fun k=>tm.getD k undef,?_⟩
 have e:=arr_lit tm h2 (fun k=>tm.getD k undef) (fun k=>rfl)
 simp only at h1 h3 h4 h5 e
 rw [h3,h4,h5] at e
 subst h1
 congr 1
theorem ta_yes9 (v:Value) (w:World):(Instr.typeAssert (.iface 9 v) 20 9 true).run Tryz.prog w=.ok (.tuple #[v,.bool true]) w:=by
 simp [Instr.typeAssert,run_underlying Tryz.underlying9]
theorem ta_no9 (d:TypeId) (h:d≠9) (v:Value) (w:World):(Instr.typeAssert (.iface d v) 20 9 true).run Tryz.prog w=.ok (.tuple #[.string ⟨#[]⟩,.bool false]) w:=by
 simp [Instr.typeAssert,run_underlying Tryz.underlying9,h,Tryz.zeroValue9]
theorem ta_yes88 (v:Value) (w:World):(Instr.typeAssert (.iface 212 v) 20 212 true).run Tryz.prog w=.ok (.tuple #[v,.bool true]) w:=by
 simp [Instr.typeAssert,run_underlying Tryz.underlying212]
theorem ta_no88 (d:TypeId) (h:d≠212) (v:Value) (w:World):(Instr.typeAssert (.iface d v) 20 212 true).run Tryz.prog w=.ok (.tuple #[.string ⟨#[]⟩,.bool false]) w:=by
 simp [Instr.typeAssert,run_underlying Tryz.underlying212,h,Tryz.zeroValue88]
theorem ta_yes89 (v:Value) (w:World):(Instr.typeAssert (.iface 213 v) 20 213 true).run Tryz.prog w=.ok (.tuple #[v,.bool true]) w:=by
 simp [Instr.typeAssert,run_underlying Tryz.underlying213]
theorem ta_no89 (d:TypeId) (h:d≠213) (v:Value) (w:World):(Instr.typeAssert (.iface d v) 20 213 true).run Tryz.prog w=.ok (.tuple #[.string ⟨#[]⟩,.bool false]) w:=by
 simp [Instr.typeAssert,run_underlying Tryz.underlying213,h,Tryz.zeroValue89]
theorem ta_yes22 (v:Value) (w:World):(Instr.typeAssert (.iface 24 v) 20 24 true).run Tryz.prog w=.ok (.tuple #[v,.bool true]) w:=by
 simp [Instr.typeAssert,run_underlying Tryz.underlying24]
theorem ta_no22 (d:TypeId) (h:d≠24) (v:Value) (w:World):(Instr.typeAssert (.iface d v) 20 24 true).run Tryz.prog w=.ok (.tuple #[.slice none 0 0,.bool false]) w:=by
 simp [Instr.typeAssert,run_underlying Tryz.underlying24,h,Tryz.zeroValue22]
theorem ta_yes92 (v:Value) (w:World):(Instr.typeAssert (.iface 216 v) 20 216 true).run Tryz.prog w=.ok (.tuple #[v,.bool true]) w:=by
 simp [Instr.typeAssert,run_underlying Tryz.underlying216]
theorem ta_no92 (d:TypeId) (h:d≠216) (v:Value) (w:World):(Instr.typeAssert (.iface d v) 20 216 true).run Tryz.prog w=.ok (.tuple #[.agg #[.string ⟨#[]⟩,.slice none 0 0],.bool false]) w:=by
 simp [Instr.typeAssert,run_underlying Tryz.underlying216,h,Tryz.zeroValue92]
theorem ta_yes95 (v:Value) (w:World):(Instr.typeAssert (.iface 219 v) 20 219 true).run Tryz.prog w=.ok (.tuple #[v,.bool true]) w:=by
 simp [Instr.typeAssert,run_underlying Tryz.underlying219]
theorem ta_no95 (d:TypeId) (h:d≠219) (v:Value) (w:World):(Instr.typeAssert (.iface d v) 20 219 true).run Tryz.prog w=.ok (.tuple #[.agg #[.int .i64 0,.string ⟨#[]⟩,.int .i64 0,.slice none 0 0,.slice none 0 0],.bool false]) w:=by
 simp [Instr.typeAssert,run_underlying Tryz.underlying219,h,Tryz.zeroValue95]
theorem ta_yes25 (v:Value) (w:World):(Instr.typeAssert (.iface 27 v) 20 27 true).run Tryz.prog w=.ok (.tuple #[v,.bool true]) w:=by
 simp [Instr.typeAssert,run_underlying Tryz.underlying27]
theorem ta_no25 (d:TypeId) (h:d≠27) (v:Value) (w:World):(Instr.typeAssert (.iface d v) 20 27 true).run Tryz.prog w=.ok (.tuple #[.agg #[.int .i64 0,.string ⟨#[]⟩,.int .i64 0,.slice none 0 0,.slice none 0 0],.bool false]) w:=by
 simp [Instr.typeAssert,run_underlying Tryz.underlying27,h,Tryz.zeroValue25]
theorem ta_yes44 (v:Value) (w:World):(Instr.typeAssert (.iface 60 v) 20 60 true).run Tryz.prog w=.ok (.tuple #[v,.bool true]) w:=by
 simp [Instr.typeAssert,run_underlying Tryz.underlying60]
theorem ta_no44 (d:TypeId) (h:d≠60) (v:Value) (w:World):(Instr.typeAssert (.iface d v) 20 60 true).run Tryz.prog w=.ok (.tuple #[.slice none 0 0,.bool false]) w:=by
 simp [Instr.typeAssert,run_underlying Tryz.underlying60,h,Tryz.zeroValue44]
theorem ta_yes46 (v:Value) (w:World):(Instr.typeAssert (.iface 175 v) 20 175 true).run Tryz.prog w=.ok (.tuple #[v,.bool true]) w:=by
 simp [Instr.typeAssert,run_underlying Tryz.underlying175]
theorem ta_no46 (d:TypeId) (h:d≠175) (v:Value) (w:World):(Instr.typeAssert (.iface d v) 20 175 true).run Tryz.prog w=.ok (.tuple #[.agg #[.string ⟨#[]⟩,.slice none 0 0],.bool false]) w:=by
 simp [Instr.typeAssert,run_underlying Tryz.underlying175,h,Tryz.zeroValue46]
theorem ta_yes47 (v:Value) (w:World):(Instr.typeAssert (.iface 121 v) 20 121 true).run Tryz.prog w=.ok (.tuple #[v,.bool true]) w:=by
 simp [Instr.typeAssert,run_underlying Tryz.underlying121]
theorem ta_no47 (d:TypeId) (h:d≠121) (v:Value) (w:World):(Instr.typeAssert (.iface d v) 20 121 true).run Tryz.prog w=.ok (.tuple #[.agg #[.string ⟨#[]⟩,.slice none 0 0],.bool false]) w:=by
 simp [Instr.typeAssert,run_underlying Tryz.underlying121,h,Tryz.zeroValue47]
theorem ta_yes50 (v:Value) (w:World):(Instr.typeAssert (.iface 77 v) 20 77 true).run Tryz.prog w=.ok (.tuple #[v,.bool true]) w:=by
 simp [Instr.typeAssert,run_underlying Tryz.underlying77]
theorem ta_no50 (d:TypeId) (h:d≠77) (v:Value) (w:World):(Instr.typeAssert (.iface d v) 20 77 true).run Tryz.prog w=.ok (.tuple #[.agg #[.string ⟨#[]⟩,.slice none 0 0,.slice none 0 0],.bool false]) w:=by
 simp [Instr.typeAssert,run_underlying Tryz.underlying77,h,Tryz.zeroValue50]
theorem ta_yes33 (v:Value) (w:World):(Instr.typeAssert (.iface 79 v) 20 79 true).run Tryz.prog w=.ok (.tuple #[v,.bool true]) w:=by
 simp [Instr.typeAssert,run_underlying Tryz.underlying79]
theorem ta_no33 (d:TypeId) (h:d≠79) (v:Value) (w:World):(Instr.typeAssert (.iface d v) 20 79 true).run Tryz.prog w=.ok (.tuple #[.agg #[.string ⟨#[]⟩,.int .i64 0,.string ⟨#[]⟩,.int .i64 0,.slice none 0 0,.slice none 0 0],.bool false]) w:=by
 simp [Instr.typeAssert,run_underlying Tryz.underlying79,h,Tryz.zeroValue33]
theorem ta_yes37 (v:Value) (w:World):(Instr.typeAssert (.iface 38 v) 20 38 true).run Tryz.prog w=.ok (.tuple #[v,.bool true]) w:=by
 simp [Instr.typeAssert,run_underlying Tryz.underlying38]
theorem TX.tight {P:Nat→Prop} {t:Nat} {st:St} {lv:Nat} {w:World} (h:TX P t st lv w):TX P t (tightA st) lv (w.setCell ⟨t,3,none⟩ (.bool true))∧KP P w (w.setCell ⟨t,3,none⟩ (.bool true))∧(∃ b,w.cell? ⟨t,3,none⟩=some (.bool b))∧w.frozen? ⟨t,3,none⟩=false:=by
 obtain ⟨a0,pa,ca,o1,r,tg1,l,nn,hT,hS⟩:=h
 obtain ⟨h1,h2⟩:=hT.tight' true
 refine ⟨⟨a0,pa,ca,o1,r,true,l,nn,h1,?_⟩,h2,⟨_,hT.cells.2.2.2.1⟩,hT.hold.frozen 3⟩
 cases st with
 | none=>exact hS
 | some q=>obtain ⟨rfl,rfl,rfl,rfl,rfl⟩:=hS;exact ⟨rfl,rfl,rfl,rfl,rfl⟩
theorem round_at {P:Nat→Prop} {t:Nat} {st:St} {lv:Nat} {ps:List Pt} {p:Option Addr} {c:Nat} {w w1:World} {i:Nat} {a:Act} {o:List UInt8} {tg:Bool} {x:Pt} (hG:GP P w) (hs:SlOK p ps.length c) (hM:AM (PV P w) P w p ps) (hJ:putJ P t st lv ps p c w i a w1) (hst:ptsA lv (ps.take i) st=some (o,tg)) (hp:ps[i]?=some x) :
 i<ps.length∧TX P t (some (o,tg)) lv w1∧KP P w w1∧(∃ b ob v,p=some ⟨b,ob,none⟩∧w1.cell? ⟨b,ob+i,none⟩=some v∧PV P w1 x v)∧ptsA lv (ps.take (i+1)) st=ptA lv x (some (o,tg))∧GP P w1∧w1.cell? ⟨t,5,none⟩=some (.bool false)∧ps.length≤9223372036854775807:=by
 obtain ⟨hi,_,_,_,_,_,hT,hK⟩:=hJ
 have hil:i<ps.length:=(List.getElem?_eq_some_iff.1 hp).1
 rw [hst] at hT
 obtain ⟨x4,c4,f4,c5,f5,hx4,htl⟩:=hT.level
 obtain ⟨b,ob,rfl,hPb,hmm⟩:∃ b ob,p=some ⟨b,ob,none⟩∧P b∧∀ (j:Nat) x,ps[j]?=some x→∃ v,w.cell? ⟨b,ob+j,none⟩=some v∧PV P w x v:=by
  rcases hM with h | h
  ·rw [h] at hil;simp at hil
  ·exact h
 obtain ⟨v,hcv,hpv⟩:=hmm i _ hp
 refine ⟨hil,hT,hK,⟨b,ob,v,rfl,(hK.cell hPb _).trans hcv,PV.keep hK (fun b hb=>hb) _ _ hpv⟩,?_,hG.keep hK fun b hb=>hb,c5,Nat.le_trans hs.1 hs.2.1⟩
 have e:ps.take (i+1)=ps.take i ++ [x]:=by rw [List.take_add_one,hp];rfl
 rw [e];unfold ptsA;rw [List.foldl_append]
 show ptA lv x (ptsA lv (ps.take i) st)=_
 rw [hst]
theorem owns_mono {w:World} {B B' e size n:Nat} {v:Value} {xs:List Value} (h:w.ownsRow B e size v n xs) (hb:B'≤B):w.ownsRow B' e size v n xs:=by
 obtain ⟨h1,h2⟩:=h
 refine ⟨h1,?_⟩
 rcases h2 with h2 | ⟨g,cap,cur,e1,e2,e3⟩
 ·exact .inl h2
 ·exact .inr ⟨g,cap,cur,e1,by omega,e3⟩
theorem put_row {n:Nat} (IH:PutOK n) {P:Nat→Prop} {t:Nat} {st:St} {lv:Nat} {w w2:World} {k c':Nat} {p':Option Addr} {vs:List Value} (qs:List Pt) (hl:qs.length=k) (ho:w2.ownsRow w.heap.size 20 1 (.slice p' k c') k vs) (hv:∀ (i:Nat) x,qs[i]?=some x→∃ v,vs[i]?=some v∧PV P w2 x v) (hw:ptsw qs≤n) (hlv:lv≤30) (hG:GP P w) (hT:TX P t st lv w) (hB:Below w.heap.size w w2) :
 Calls Tryz.prog 168 #[.pointer (some ⟨t,0,none⟩),.slice p' k c'] w2 fun e w'=>e=.returned (.tuple #[])∧TX P t (ptsA lv qs st) lv w'∧KP P w w':=by
 have k1:KP P w w2:=KP.of_below hB hT.lt
 obtain ⟨hs,hA,hQ⟩:=own_AM (P:=P) (R:=PV (fun b=>P b∨p'.map Addr.block=some b) w2) (l:=qs) ho hl (by
  intro i x hx
  obtain ⟨v,h1,h2⟩:=hv i x hx
  exact ⟨v,h1,PV.keep (KP.refl P w2) (fun b hb=>Or.inl hb) x v h2⟩)
 have hT2:=hT.more (Q:=fun b=>p'.map Addr.block=some b) hB hQ
 subst hl
 refine (IH _ t st lv qs p' c' w2 hw hlv hs hA (hG.keep k1 fun b hb=>.inl hb) hT2).mono ?_
 rintro e w' ⟨rfl,h1,h2⟩
 exact ⟨rfl,h1.weak fun b hb=>.inl hb,k1.trans (h2.mono fun b hb=>.inl hb)⟩
theorem strs_is (lv:Nat) (l:List (List UInt8)) (st:St):ptsA lv (l.map pStr) st=ptA lv (pStrs l) st:=by
 apply ptsA_is
 ·simp [pStr,pStrs,ptOK,p0OK]
 ·show (l.map pStr).flatMap ptW=l.map pw
  induction l with
  | nil=>rfl
  | cons a r ih=>simp only [List.map_cons,List.flatMap_cons,ih];rfl
theorem strs_w (l:List (List UInt8)):ptsw (l.map pStr)=l.length:=by
 induction l with
 | nil=>rfl
 | cons a r ih=>unfold ptsw at *;simp only [List.map_cons,List.sum_cons,List.length_cons,ih];show 1+_=_;omega
theorem sm_len {P:Nat→Prop} {w:World} {p:Option Addr} {l:List (List UInt8)} (h:SM P w p l) (i:Nat) (s:List UInt8) (hs:l[i]?=some s):s.length≤281474976710656:=by
 rcases h with rfl | ⟨b,o,_,_,hm⟩
 ·simp at hs
 ·exact (hm i s hs).1
theorem sum_memP (l:List Sg):∀ s ∈ l,sw s≤(l.map sw).sum:=by
 induction l with
 | nil=>intro s hs;cases hs
 | cons a r ih=>
  intro s hs
  simp only [List.map_cons,List.sum_cons]
  rcases List.mem_cons.1 hs with rfl | h
  ·omega
  ·have:=ih s h;omega
theorem form_is (lv:Nat) (f:Fm) (st:St):ptsA lv [pStr f.nm,pSigs f.ar] st=ptA lv (pForm f) st:=ptsA_is (by simp [pStr,pSigs,pForm,ptOK,p0OK]) (by simp [pStr,pSigs,pForm,ptW,p0W,fmW]) st
theorem def_is (lv:Nat) (d:Df) (st:St):ptsA lv [pStr d.nm,pStr [61],pExpr d.bd] st=ptA lv (pDef d) st:=ptsA_is (by simp [pStr,pExpr,pDef,ptOK,p0OK]) (by simp [pStr,pExpr,pDef,ptW,p0W,dfW]) st
def btP (s:List UInt8):List P0→List Pt
 | []=>[]
 | a :: r=>.inl a :: r.flatMap fun b=>[pStr s,.inl b]
theorem btP_is (lv:Nat) (s:List UInt8) (l:List P0) (st:St):ptsA lv (btP s l) st=ptA lv (pRow s l) st:=by
 apply ptsA_is
 ·cases l with
  | nil=>rfl
  | cons a r=>
   show (Sum.inl a :: r.flatMap fun b=>[pStr s,.inl b]).all (ptOK lv)=(a :: r).all (p0OK lv)
   simp only [List.all_cons]
   congr 1
   induction r with
   | nil=>rfl
   | cons b r ih=>simp only [List.flatMap_cons,List.all_append,List.all_cons,ih,List.all_nil];simp [pStr,ptOK,p0OK]
 ·cases l with
  | nil=>rfl
  | cons a r=>
   show (Sum.inl a :: r.flatMap fun b=>[pStr s,.inl b]).flatMap ptW=sepW s ((a :: r).map p0W)
   simp only [List.flatMap_cons,List.map_cons,sepW]
   congr 1
   induction r with
   | nil=>rfl
   | cons b r ih=>simp only [List.flatMap_cons,List.flatMap_append,List.map_cons,ih,List.flatMap_nil];simp [pStr,ptW,p0W]
theorem btP_w (s:List UInt8) (l:List P0):ptsw (btP s l)+1≤ptw (pRow s l):=by
 have h:∀ r:List P0,ptsw (r.flatMap fun b=>[pStr s,.inl b])=(r.map fun p=>p0w p+1).sum:=by
  intro r
  induction r with
  | nil=>rfl
  | cons b r ih=>
   unfold ptsw at *
   simp only [List.flatMap_cons,List.map_append,List.sum_append,ih,List.map_cons,List.map_nil,List.sum_cons,List.sum_nil]
   show 1+(p0w b+0)+_=_
   omega
 cases l with
 | nil=>simp [btP,ptsw,ptw,pRow]
 | cons a r=>
  have e:ptsw (btP s (a :: r))=p0w a+ptsw (r.flatMap fun b=>[pStr s,.inl b]):=rfl
  have e2:ptw (pRow s (a :: r))=1+(((a :: r).map fun p=>p0w p+1).sum):=rfl
  rw [e,h,e2];simp only [List.map_cons,List.sum_cons];omega
theorem btP_len (s:List UInt8) (sv:Value):∀ (l:List P0) (vs:List Value),vs.length=l.length→(btP s l).length=(btw sv vs).length:=by
 intro l vs h
 have h2:∀ (r:List P0) (us:List Value),us.length=r.length→(r.flatMap fun b=>[pStr s,Sum.inl b]).length=(us.flatMap fun u=>[sv,u]).length:=by
  intro r
  induction r with
  | nil=>intro us hu;rw [List.length_eq_zero_iff.1 hu];rfl
  | cons b r ih=>
   intro us hu
   cases us with
   | nil=>simp at hu
   | cons u us=>simp only [List.flatMap_cons,List.length_append,ih us (by simpa using hu)];rfl
 cases l with
 | nil=>rw [List.length_eq_zero_iff.1 h];rfl
 | cons a r=>
  cases vs with
  | nil=>simp at h
  | cons v us=>simp only [btP,btw,List.length_cons,h2 r us (by simpa using h)]
theorem btP_at {R:P0→Value→Prop} {S':Pt→Value→Prop} (s:List UInt8) (sv:Value) (h0:S' (pStr s) sv) (hR:∀ x v,R x v→S' (.inl x) v):∀ (l:List P0) (vs:List Value),vs.length=l.length→(∀ (i:Nat) x,l[i]?=some x→∃ v,vs[i]?=some v∧R x v)→∀ (i:Nat) y,(btP s l)[i]?=some y→∃ v,(btw sv vs)[i]?=some v∧S' y v:=by
 have h2:∀ (r:List P0) (us:List Value),us.length=r.length→(∀ (i:Nat) x,r[i]?=some x→∃ v,us[i]?=some v∧R x v)→∀ (i:Nat) y,(r.flatMap fun b=>[pStr s,Sum.inl b])[i]?=some y→∃ v,(us.flatMap fun u=>[sv,u])[i]?=some v∧S' y v:=by
  intro r
  induction r with
  | nil=>intro us _ _ i y hy;simp at hy
  | cons b r ih=>
   intro us hu hr i y hy
   cases us with
   | nil=>simp at hu
   | cons u us=>
    simp only [List.flatMap_cons] at hy ⊢
    obtain ⟨v,hv,hRv⟩:=hr 0 b rfl
    cases hv
    match i with
    | 0=>cases hy;exact ⟨sv,rfl,h0⟩
    | 1=>cases hy;exact ⟨u,rfl,hR b u hRv⟩
    | i+2=>exact ih us (by simpa using hu) (fun i x hx=>hr (i+1) x (by simpa using hx)) i y (by simpa using hy)
 intro l vs h hl i y hy
 cases l with
 | nil=>simp [btP] at hy
 | cons a r=>
  cases vs with
  | nil=>simp at h
  | cons v us=>
   obtain ⟨v',hv,hRv⟩:=hl 0 a rfl
   cases hv
   cases i with
   | zero=>cases hy;exact ⟨v,rfl,hR a v hRv⟩
   | succ i=>exact h2 r us (by simpa using h) (fun i x hx=>hl (i+1) x (by simpa using hx)) i y (by simpa [btP] using hy)
theorem AM_vs {P:Nat→Prop} {w:World} {p:Option Addr} {l:List P0} (h:AM (P0V P w) P w p l) (hP:∀ b,P b→b<w.heap.size):∃ vs:List Value,vs.length=l.length∧VM w p vs∧(∀ v ∈ vs,∃ t x,v=.iface t x)∧∀ (i:Nat) x,l[i]?=some x→∃ v,vs[i]?=some v∧P0V P w x v:=by
 rcases h with rfl | ⟨b,o,hp,hb,hm⟩
 ·exact ⟨[],rfl,.inl rfl,by simp,fun i x hx=>by simp at hx⟩
 ·have hall:∀ i,i<l.length→∃ v,w.cell? ⟨b,o+i,none⟩=some v∧∃ x,l[i]?=some x∧P0V P w x v:=by
   intro i hi
   obtain ⟨v,h1,h2⟩:=hm i l[i] (by simp)
   exact ⟨v,h1,l[i],by simp,h2⟩
  refine ⟨(List.range l.length).map fun i=>(w.cell? ⟨b,o+i,none⟩).getD undef,by simp,.inr ⟨b,o,hp,hP b hb,?_⟩,?_,?_⟩
  ·intro i v hv
   rw [List.getElem?_map,Option.map_eq_some_iff] at hv
   obtain ⟨j,hj,rfl⟩:=hv
   have hi:i<l.length:=by have:=(List.getElem?_eq_some_iff.1 hj).1;simpa using this
   have:j=i:=by rw [List.getElem?_range hi] at hj;cases hj;rfl
   subst this
   obtain ⟨v,h1,_⟩:=hall j hi
   rw [h1];rfl
  ·intro v hv
   rw [List.mem_map] at hv
   obtain ⟨j,hj,rfl⟩:=hv
   obtain ⟨v,h1,x,hx,h2⟩:=hall j (List.mem_range.1 hj)
   rw [h1]
   rcases x with s | s | s | l | e | e | l | s | f | d | d | p
   ·exact ⟨_,_,h2.1⟩
   ·exact ⟨_,_,h2.1⟩
   ·exact ⟨_,_,h2.1⟩
   ·obtain ⟨_,_,h3,_⟩:=h2;exact ⟨_,_,h3⟩
   ·obtain ⟨_,h3,_⟩:=h2;exact ⟨_,_,h3⟩
   ·obtain ⟨_,h3,_⟩:=h2;exact ⟨_,_,h3⟩
   ·obtain ⟨_,_,h3,_⟩:=h2;exact ⟨_,_,h3⟩
   ·obtain ⟨_,h3,_⟩:=h2;exact ⟨_,_,h3⟩
   ·obtain ⟨_,h3,_⟩:=h2;exact ⟨_,_,h3⟩
   ·obtain ⟨_,h3,_⟩:=h2;exact ⟨_,_,h3⟩
   ·obtain ⟨_,h3,_⟩:=h2;exact ⟨_,_,h3⟩
   ·obtain ⟨_,h3,_⟩:=h2;exact ⟨_,_,h3⟩
  ·intro i x hx
   have hi:i<l.length:=(List.getElem?_eq_some_iff.1 hx).1
   obtain ⟨v,h1,x',hx',h2⟩:=hall i hi
   rw [hx] at hx';cases hx'
   exact ⟨v,by rw [List.getElem?_map,List.getElem?_range hi];simp [h1],h2⟩
theorem round_str {n:Nat} (IH:PutOK n) {P:Nat→Prop} {t:Nat} {st:St} {lv:Nat} {ps:List Pt} {p:Option Addr} {c:Nat} {w w1:World} {i:Nat} {a:Act} {o:List UInt8} {tg:Bool} (hlv:lv≤30) (hG:GP P w) (hs:SlOK p ps.length c) (hM:AM (PV P w) P w p ps) (hJ:putJ P t st lv ps p c w i a w1) (hst:ptsA lv (ps.take i) st=some (o,tg)) (s:List UInt8) (hp:ps[i]?=some (pStr s)) (hw:ptw (pStr s)≤n+1)
 (J:Act→World→Prop) (Q:Exit→Act→World→Prop) (hJ':∀ a' w',putJ P t st lv ps p c w (i+1) a' w'→J a' w'):(behindLabel Tryz.f168.body).wp Tryz.prog (Exit.jump 0 J Q) a w1:=by
 obtain ⟨hil,hT,hK,⟨b,ob,v,rfl,hcv1,hpv1⟩,hstep,hG1,c5,hn63⟩:=round_at hG hs hM hJ hst hp
 obtain ⟨T,rfl⟩:=putJ_lit hJ
 unfold behindLabel Tryz.f168
 dsimp only
 have HSTEP:=zz hstep
 have hj0:∀ a' w',a'.defers=[]→a'.tmps.size=158→a'.tmps.getD 0 undef=.pointer (some ⟨t,0,none⟩)→a'.tmps.getD 1 undef=.slice (some ⟨b,ob,none⟩) ps.length c→a'.tmps.getD 4 undef=.int .i64 ((i:Int)+1)→TX P t (ptA lv (pStr s) (some (o,tg))) lv w'→KP P w1 w'→J a' w':=by
  intro a' w' h1 h2 h3 h4 h5 h6 h7
  refine hJ' a' w' ⟨hil,h1,h2,h3,h4,by rw [h5];simp,?_,hK.trans h7⟩
  rw [hstep];exact h6
 generalize hm:ps.length=m at *
 have hlt:(i:Int)<m:=by omega
 have hltn:i<m:=by omega
 have hne:¬ ((i:Int)=m):=by omega
 have HJ:=zz hj0
 have HW:=zz hw
 obtain ⟨rfl,hsl⟩:=hpv1
 have HC:=zz (wordT s hsl hT)
 have ty:=ta_yes9
 clear hM hG hJ' hst hs hJ hK hj0 hstep hp hw IH hT hG1
 go_wp2_with fail
 refine HC.out.mono ?_
 rintro e' w' ⟨rfl,hT',hK'⟩
 have HT':=zz hT'
 have HK':=zz hK'
 clear hT' hK'
 go_wp2_with fail
 go_step3
 exact ⟨rfl,HJ.out _ _ rfl rfl rfl rfl rfl HT'.out HK'.out⟩
theorem round_opn {n:Nat} (IH:PutOK n) {P:Nat→Prop} {t:Nat} {st:St} {lv:Nat} {ps:List Pt} {p:Option Addr} {c:Nat} {w w1:World} {i:Nat} {a:Act} {o:List UInt8} {tg:Bool} (hlv:lv≤30) (hG:GP P w) (hs:SlOK p ps.length c) (hM:AM (PV P w) P w p ps) (hJ:putJ P t st lv ps p c w i a w1) (hst:ptsA lv (ps.take i) st=some (o,tg)) (s:List UInt8) (hp:ps[i]?=some (pOpn s)) (hw:ptw (pOpn s)≤n+1)
 (J:Act→World→Prop) (Q:Exit→Act→World→Prop) (hJ':∀ a' w',putJ P t st lv ps p c w (i+1) a' w'→J a' w'):(behindLabel Tryz.f168.body).wp Tryz.prog (Exit.jump 0 J Q) a w1:=by
 obtain ⟨hil,hT,hK,⟨b,ob,v,rfl,hcv1,hpv1⟩,hstep,hG1,c5,hn63⟩:=round_at hG hs hM hJ hst hp
 obtain ⟨T,rfl⟩:=putJ_lit hJ
 unfold behindLabel Tryz.f168
 dsimp only
 have HSTEP:=zz hstep
 have hj0:∀ a' w',a'.defers=[]→a'.tmps.size=158→a'.tmps.getD 0 undef=.pointer (some ⟨t,0,none⟩)→a'.tmps.getD 1 undef=.slice (some ⟨b,ob,none⟩) ps.length c→a'.tmps.getD 4 undef=.int .i64 ((i:Int)+1)→TX P t (ptA lv (pOpn s) (some (o,tg))) lv w'→KP P w1 w'→J a' w':=by
  intro a' w' h1 h2 h3 h4 h5 h6 h7
  refine hJ' a' w' ⟨hil,h1,h2,h3,h4,by rw [h5];simp,?_,hK.trans h7⟩
  rw [hstep];exact h6
 generalize hm:ps.length=m at *
 have hlt:(i:Int)<m:=by omega
 have hltn:i<m:=by omega
 have hne:¬ ((i:Int)=m):=by omega
 have HJ:=zz hj0
 have HW:=zz hw
 obtain ⟨rfl,hsl⟩:=hpv1
 have HC:=zz (wordT s hsl hT)
 have tn9:=ta_no9 212 (by decide)
 have ty:=ta_yes88
 clear hM hG hJ' hst hs hJ hK hj0 hstep hp hw IH hT hG1
 go_wp2_with fail
 refine HC.out.mono ?_
 rintro e' w' ⟨rfl,hT',hK'⟩
 obtain ⟨hT2,hK2,⟨b3,c3⟩,f3⟩:=hT'.tight
 have HT':=zz hT2
 have HK':=zz (hK'.trans hK2)
 clear hT' hK' hT2 hK2
 go_wp2_with fail
 go_step3
 exact ⟨rfl,HJ.out _ _ rfl rfl rfl rfl rfl HT'.out HK'.out⟩
theorem round_cls {n:Nat} (IH:PutOK n) {P:Nat→Prop} {t:Nat} {st:St} {lv:Nat} {ps:List Pt} {p:Option Addr} {c:Nat} {w w1:World} {i:Nat} {a:Act} {o:List UInt8} {tg:Bool} (hlv:lv≤30) (hG:GP P w) (hs:SlOK p ps.length c) (hM:AM (PV P w) P w p ps) (hJ:putJ P t st lv ps p c w i a w1) (hst:ptsA lv (ps.take i) st=some (o,tg)) (s:List UInt8) (hp:ps[i]?=some (pCls s)) (hw:ptw (pCls s)≤n+1)
 (J:Act→World→Prop) (Q:Exit→Act→World→Prop) (hJ':∀ a' w',putJ P t st lv ps p c w (i+1) a' w'→J a' w'):(behindLabel Tryz.f168.body).wp Tryz.prog (Exit.jump 0 J Q) a w1:=by
 obtain ⟨hil,hT,hK,⟨b,ob,v,rfl,hcv1,hpv1⟩,hstep,hG1,c5,hn63⟩:=round_at hG hs hM hJ hst hp
 obtain ⟨T,rfl⟩:=putJ_lit hJ
 unfold behindLabel Tryz.f168
 dsimp only
 have HSTEP:=zz hstep
 have hj0:∀ a' w',a'.defers=[]→a'.tmps.size=158→a'.tmps.getD 0 undef=.pointer (some ⟨t,0,none⟩)→a'.tmps.getD 1 undef=.slice (some ⟨b,ob,none⟩) ps.length c→a'.tmps.getD 4 undef=.int .i64 ((i:Int)+1)→TX P t (ptA lv (pCls s) (some (o,tg))) lv w'→KP P w1 w'→J a' w':=by
  intro a' w' h1 h2 h3 h4 h5 h6 h7
  refine hJ' a' w' ⟨hil,h1,h2,h3,h4,by rw [h5];simp,?_,hK.trans h7⟩
  rw [hstep];exact h6
 generalize hm:ps.length=m at *
 have hlt:(i:Int)<m:=by omega
 have hltn:i<m:=by omega
 have hne:¬ ((i:Int)=m):=by omega
 have HJ:=zz hj0
 have HW:=zz hw
 obtain ⟨rfl,hsl⟩:=hpv1
 obtain ⟨hT2,hK2,⟨b3,c3⟩,f3⟩:=hT.tight
 have HC:=zz (wordT (tg:=true) s hsl hT2)
 have HK2:=zz hK2
 have tn9:=ta_no9 213 (by decide)
 have tn88:=ta_no88 213 (by decide)
 have ty:=ta_yes89
 clear hM hG hJ' hst hs hJ hK hj0 hstep hp hw IH hT hG1 hT2 hK2
 go_wp2_with fail
 refine HC.out.mono ?_
 rintro e' w' ⟨rfl,hT',hK'⟩
 have HT':=zz hT'
 have HK':=zz hK'
 clear hT' hK'
 go_wp2_with fail
 go_step3
 exact ⟨rfl,HJ.out _ _ rfl rfl rfl rfl rfl HT'.out (HK2.out.trans HK'.out)⟩
theorem round_strs {n:Nat} (IH:PutOK n) {P:Nat→Prop} {t:Nat} {st:St} {lv:Nat} {ps:List Pt} {p:Option Addr} {c:Nat} {w w1:World} {i:Nat} {a:Act} {o:List UInt8} {tg:Bool} (hlv:lv≤30) (hG:GP P w) (hs:SlOK p ps.length c) (hM:AM (PV P w) P w p ps) (hJ:putJ P t st lv ps p c w i a w1) (hst:ptsA lv (ps.take i) st=some (o,tg)) (l:List (List UInt8)) (hp:ps[i]?=some (pStrs l)) (hw:ptw (pStrs l)≤n+1)
 (J:Act→World→Prop) (Q:Exit→Act→World→Prop) (hJ':∀ a' w',putJ P t st lv ps p c w (i+1) a' w'→J a' w'):(behindLabel Tryz.f168.body).wp Tryz.prog (Exit.jump 0 J Q) a w1:=by
 obtain ⟨hil,hT,hK,⟨b,ob,v,rfl,hcv1,hpv1⟩,hstep,hG1,c5,hn63⟩:=round_at hG hs hM hJ hst hp
 obtain ⟨T,rfl⟩:=putJ_lit hJ
 unfold behindLabel Tryz.f168
 dsimp only
 have HSTEP:=zz hstep
 have hj0:∀ a' w',a'.defers=[]→a'.tmps.size=158→a'.tmps.getD 0 undef=.pointer (some ⟨t,0,none⟩)→a'.tmps.getD 1 undef=.slice (some ⟨b,ob,none⟩) ps.length c→a'.tmps.getD 4 undef=.int .i64 ((i:Int)+1)→TX P t (ptA lv (pStrs l) (some (o,tg))) lv w'→KP P w1 w'→J a' w':=by
  intro a' w' h1 h2 h3 h4 h5 h6 h7
  refine hJ' a' w' ⟨hil,h1,h2,h3,h4,by rw [h5];simp,?_,hK.trans h7⟩
  rw [hstep];exact h6
 generalize hm:ps.length=m at *
 have hlt:(i:Int)<m:=by omega
 have hltn:i<m:=by omega
 have hne:¬ ((i:Int)=m):=by omega
 have HJ:=zz hj0
 have HW:=zz hw
 obtain ⟨p2,c2,rfl,hln,hs2,hSM⟩:=hpv1
 have HC:=zz (list_str (c:=c2) hln hT.lt hSM)
 have HP:=zz (fun (w2:World) p' c' (ho:w2.ownsRow w1.heap.size 20 1 (.slice p' l.length c') l.length (l.map fun s=>.iface 9 (.string (S s)))) (hB:Below w1.heap.size w1 w2)=>put_row IH (w2:=w2) (l.map pStr) (by simp) ho (fun i x hx=>by
  rw [List.getElem?_map,Option.map_eq_some_iff] at hx
  obtain ⟨s,hs,rfl⟩:=hx
  exact ⟨_,by rw [List.getElem?_map,hs];rfl,rfl,sm_len hSM i s hs⟩) (by rw [strs_w];have:ptw (pStrs l)=l.length+1:=rfl;omega) hlv hG1 hT hB)
 have tn9:=ta_no9 24 (by decide)
 have tn88:=ta_no88 24 (by decide)
 have tn89:=ta_no89 24 (by decide)
 have ty:=ta_yes22
 clear hM hG hJ' hst hs hJ hK hj0 hstep hp hw IH hT hG1 hSM
 go_wp2_with fail
 refine HC.out.mono ?_
 rintro e1 w2 ⟨p',c',rfl,ho,hB⟩
 have HC2:=zz (HP.out w2 p' c' ho hB)
 clear HP ho hB
 go_wp2_with fail
 refine HC2.out.mono ?_
 rintro e' w' ⟨rfl,hT',hK'⟩
 have HT':=zz hT'
 have HK':=zz hK'
 clear hT' hK'
 go_wp2_with fail
 go_step3
 exact ⟨rfl,HJ.out _ _ rfl rfl rfl rfl rfl (by rw [← strs_is];exact HT'.out) HK'.out⟩
theorem round_row {n:Nat} (IH:PutOK n) {P:Nat→Prop} {t:Nat} {st:St} {lv:Nat} {ps:List Pt} {p:Option Addr} {c:Nat} {w w1:World} {i:Nat} {a:Act} {o:List UInt8} {tg:Bool} (hlv:lv≤30) (hG:GP P w) (hs:SlOK p ps.length c) (hM:AM (PV P w) P w p ps) (hJ:putJ P t st lv ps p c w i a w1) (hst:ptsA lv (ps.take i) st=some (o,tg)) (s:List UInt8) (l:List P0) (hp:ps[i]?=some (pRow s l)) (hw:ptw (pRow s l)≤n+1)
 (J:Act→World→Prop) (Q:Exit→Act→World→Prop) (hJ':∀ a' w',putJ P t st lv ps p c w (i+1) a' w'→J a' w'):(behindLabel Tryz.f168.body).wp Tryz.prog (Exit.jump 0 J Q) a w1:=by
 obtain ⟨hil,hT,hK,⟨b,ob,v,rfl,hcv1,hpv1⟩,hstep,hG1,c5,hn63⟩:=round_at hG hs hM hJ hst hp
 obtain ⟨T,rfl⟩:=putJ_lit hJ
 unfold behindLabel Tryz.f168
 dsimp only
 have HSTEP:=zz hstep
 have hj0:∀ a' w',a'.defers=[]→a'.tmps.size=158→a'.tmps.getD 0 undef=.pointer (some ⟨t,0,none⟩)→a'.tmps.getD 1 undef=.slice (some ⟨b,ob,none⟩) ps.length c→a'.tmps.getD 4 undef=.int .i64 ((i:Int)+1)→TX P t (ptA lv (pRow s l) (some (o,tg))) lv w'→KP P w1 w'→J a' w':=by
  intro a' w' h1 h2 h3 h4 h5 h6 h7
  refine hJ' a' w' ⟨hil,h1,h2,h3,h4,by rw [h5];simp,?_,hK.trans h7⟩
  rw [hstep];exact h6
 generalize hm:ps.length=m at *
 have hlt:(i:Int)<m:=by omega
 have hltn:i<m:=by omega
 have hne:¬ ((i:Int)=m):=by omega
 have HJ:=zz hj0
 have HW:=zz hw
 obtain ⟨p2,c2,rfl,hsl,hln,hs2,hA⟩:=hpv1
 obtain ⟨vs,hvl,hVM,hif,hvs⟩:=AM_vs hA hT.lt
 have hB:Below w1.heap.size w1 (w1.alloc (.cells #[.string (S s),.slice p2 l.length c2] 216)):=(Below.refl _ w1).alloc (Nat.le_refl _) _
 have hKb:KP P w1 (w1.alloc (.cells #[.string (S s),.slice p2 l.length c2] 216)):=KP.of_below hB hT.lt
 have hTb:=hT.below hB
 have hGb:GP P (w1.alloc (.cells #[.string (S s),.slice p2 l.length c2] 216)):=hG1.keep hKb fun b hb=>hb
 have hVM2:VM (w1.alloc (.cells #[.string (S s),.slice p2 l.length c2] 216)) p2 vs:=by
  rcases hVM with h | ⟨b',o',h1,h2,h3⟩
  ·exact .inl h
  ·exact .inr ⟨b',o',h1,by simp;omega,fun i v hv=>(hB.cell (p:=⟨b',o'+i,none⟩) h2).trans (h3 i v hv)⟩
 have HC:=zz (between_any (c:=c2) s (by rw [hvl];exact hln) hVM2 hif)
 rw [hvl] at HC
 have HP:=zz (fun (w2:World) p' c' (ho:w2.ownsRow (w1.alloc (.cells #[.string (S s),.slice p2 l.length c2] 216)).heap.size 20 1 (.slice p' (btw (.iface 9 (.string (S s))) vs).length c') (btw (.iface 9 (.string (S s))) vs).length (btw (.iface 9 (.string (S s))) vs)) (hB2:Below (w1.alloc (.cells #[.string (S s),.slice p2 l.length c2] 216)).heap.size (w1.alloc (.cells #[.string (S s),.slice p2 l.length c2] 216)) w2)=>put_row IH (w2:=w2) (btP s l) (btP_len s _ l vs hvl) (owns_mono ho (by simp)) (btP_at (R:=P0V P w1) (S':=PV P w2) s _ ⟨rfl,hsl⟩ (fun x v hx=>P0V.keep (KP.of_below (below_next hB2) hT.lt) (fun b hb=>hb) x v hx) l vs hvl hvs) (by have:=btP_w s l;omega) hlv hG1 hT (below_next hB2))
 have tn9:=ta_no9 216 (by decide)
 have tn88:=ta_no88 216 (by decide)
 have tn89:=ta_no89 216 (by decide)
 have tn22:=ta_no22 216 (by decide)
 have ty:=ta_yes92
 clear hM hG hJ' hst hs hJ hK hj0 hstep hp hw IH hT hG1 hA hVM hVM2 hif hvs hB hKb hTb hGb hvl
 go_wp2_with fail
 refine HC.out.mono ?_
 rintro e1 w2 ⟨p',c',rfl,ho,hB⟩
 have HC2:=zz (HP.out w2 p' c' ho hB)
 clear HP ho hB
 go_wp2_with fail
 refine HC2.out.mono ?_
 rintro e' w' ⟨rfl,hT',hK'⟩
 have HT':=zz hT'
 have HK':=zz hK'
 clear hT' hK'
 go_wp2_with fail
 go_step3
 exact ⟨rfl,HJ.out _ _ rfl rfl rfl rfl rfl (by rw [← btP_is];exact HT'.out) HK'.out⟩
theorem round_atom {n:Nat} (IH:PutOK n) {P:Nat→Prop} {t:Nat} {st:St} {lv:Nat} {ps:List Pt} {p:Option Addr} {c:Nat} {w w1:World} {i:Nat} {a:Act} {o:List UInt8} {tg:Bool} (hlv:lv≤30) (hG:GP P w) (hs:SlOK p ps.length c) (hM:AM (PV P w) P w p ps) (hJ:putJ P t st lv ps p c w i a w1) (hst:ptsA lv (ps.take i) st=some (o,tg)) (e:Tr) (hp:ps[i]?=some (pAtom e)) (hw:ptw (pAtom e)≤n+1)
 (J:Act→World→Prop) (Q:Exit→Act→World→Prop) (hJ':∀ a' w',putJ P t st lv ps p c w (i+1) a' w'→J a' w'):(behindLabel Tryz.f168.body).wp Tryz.prog (Exit.jump 0 J Q) a w1:=by
 obtain ⟨hil,hT,hK,⟨b,ob,v,rfl,hcv1,hpv1⟩,hstep,hG1,c5,hn63⟩:=round_at hG hs hM hJ hst hp
 obtain ⟨T,rfl⟩:=putJ_lit hJ
 unfold behindLabel Tryz.f168
 dsimp only
 have HSTEP:=zz hstep
 have hj0:∀ a' w',a'.defers=[]→a'.tmps.size=158→a'.tmps.getD 0 undef=.pointer (some ⟨t,0,none⟩)→a'.tmps.getD 1 undef=.slice (some ⟨b,ob,none⟩) ps.length c→a'.tmps.getD 4 undef=.int .i64 ((i:Int)+1)→TX P t (ptA lv (pAtom e) (some (o,tg))) lv w'→KP P w1 w'→J a' w':=by
  intro a' w' h1 h2 h3 h4 h5 h6 h7
  refine hJ' a' w' ⟨hil,h1,h2,h3,h4,by rw [h5];simp,?_,hK.trans h7⟩
  rw [hstep];exact h6
 generalize hm:ps.length=m at *
 have hlt:(i:Int)<m:=by omega
 have hltn:i<m:=by omega
 have hne:¬ ((i:Int)=m):=by omega
 have HJ:=zz hj0
 have HW:=zz hw
 obtain ⟨cs,rfl,hE,hsh⟩:=hpv1
 obtain ⟨pn,cn,pk,ck,rfl⟩:=tr_cells hE
 have hB:Below w1.heap.size w1 (w1.alloc (.cells #[.int .i64 e.kd,.string (S e.nm),.int .i64 e.nu,.slice pn e.ns.length cn,.slice pk e.ks.length ck] 219)):=(Below.refl _ w1).alloc (Nat.le_refl _) _
 have hKb:KP P w1 (w1.alloc (.cells #[.int .i64 e.kd,.string (S e.nm),.int .i64 e.nu,.slice pn e.ns.length cn,.slice pk e.ks.length ck] 219)):=KP.of_below hB hT.lt
 have hTb:=hT.below hB
 have hGb:GP P (w1.alloc (.cells #[.int .i64 e.kd,.string (S e.nm),.int .i64 e.nu,.slice pn e.ns.length cn,.slice pk e.ks.length ck] 219)):=hG1.keep hKb fun b hb=>hb
 have HC:=zz (atomT IH (e:=e) (by have:ptw (pAtom e)=tw e+3:=rfl;omega) hlv hGb hTb (TrIn.keep hKb (fun b hb=>hb) e _ hE) hsh)
 have HKb:=zz hKb
 have tn9:=ta_no9 219 (by decide)
 have tn88:=ta_no88 219 (by decide)
 have tn89:=ta_no89 219 (by decide)
 have tn22:=ta_no22 219 (by decide)
 have tn92:=ta_no92 219 (by decide)
 have ty:=ta_yes95
 clear hM hG hJ' hst hs hJ hK hj0 hstep hp hw IH hT hG1 hE hB hKb hTb hGb
 go_wp2_with fail
 refine HC.out.mono ?_
 rintro e' w' ⟨rfl,hT',hK'⟩
 have HT':=zz hT'
 have HK':=zz hK'
 clear hT' hK'
 go_wp2_with fail
 go_step3
 exact ⟨rfl,HJ.out _ _ rfl rfl rfl rfl rfl HT'.out (HKb.out.trans HK'.out)⟩
end Go.Proofs.YtcnnlecjdkfdjaaGreatDoor
