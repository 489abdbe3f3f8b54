/- Round1 Round2: the texts of these names, of which the claim is made. -/
import Derived.Test.YtcnnlecjdkfdjaaGreatDoorPut2
set_option linter.unusedVariables false
set_option linter.unusedSimpArgs false
set_option maxRecDepth 100000
set_option maxHeartbeats 8000000
namespace Go.Proofs.YtcnnlecjdkfdjaaGreatDoor
open Go.RowKit
theorem round_str {n:Nat} (IH:PutOK n) {P:Nat→Prop} {t:Nat} {st:St} {lv:Nat} {ps:List Pt} {p:Option Addr} {c:Nat} {w w1:World} {i:Nat} {a:Act} {o:List UInt8} {tg:Bool} (hlv:lv≤30) (hG:GP P w) (hs:SlOK p ps.length c) (hM:AM (PV P w) P w p ps) (hJ:putJ P t st lv ps p c w i a w1) (hst:ptsA lv (ps.take i) st=some (o,tg)) (s:List UInt8) (hp:ps[i]?=some (pStr s)) (hw:ptw (pStr s)≤n+1)
 (J:Act→World→Prop) (Q:Exit→Act→World→Prop) (hJ':∀ a' w',putJ P t st lv ps p c w (i+1) a' w'→J a' w'):(behindLabel Tryz.f168.body).wp Tryz.prog (Exit.jump 0 J Q) a w1:=by
 obtain ⟨hil,hT,hK,⟨b,ob,v,rfl,hcv1,hpv1⟩,hstep,hG1,c5,hn63⟩:=round_at hG hs hM hJ hst hp
 obtain ⟨T,rfl⟩:=putJ_lit hJ
 unfold behindLabel Tryz.f168
 dsimp only
 have HSTEP:=hide hstep
 have hj0:∀ a' w',a'.defers=[]→a'.tmps.size=158→a'.tmps.getD 0 undef=.pointer (some ⟨t,0,none⟩)→a'.tmps.getD 1 undef=.slice (some ⟨b,ob,none⟩) ps.length c→a'.tmps.getD 4 undef=.int .i64 ((i:Int)+1)→TX P t (ptA lv (pStr s) (some (o,tg))) lv w'→KP P w1 w'→J a' w':=by
  intro a' w' h1 h2 h3 h4 h5 h6 h7
  refine hJ' a' w' ⟨hil,h1,h2,h3,h4,by rw [h5];simp,?_,hK.trans h7⟩
  rw [hstep];exact h6
 generalize hm:ps.length=m at *
 have hlt:(i:Int)<m:=by omega
 have hltn:i<m:=by omega
 have hne:¬ ((i:Int)=m):=by omega
 have HJ:=hide hj0
 have HW:=hide hw
 obtain ⟨rfl,hsl⟩:=hpv1
 have HC:=hide (wordT s hsl hT)
 have ty:=ta_yes9
 clear hM hG hJ' hst hs hJ hK hj0 hstep hp hw IH hT hG1
 go_wp2_with fail
 refine HC.out.mono ?_
 rintro e' w' ⟨rfl,hT',hK'⟩
 have HT':=hide hT'
 have HK':=hide hK'
 clear hT' hK'
 go_wp2_with fail
 go_step3
 exact ⟨rfl,HJ.out _ _ rfl rfl rfl rfl rfl HT'.out HK'.out⟩
theorem round_opn {n:Nat} (IH:PutOK n) {P:Nat→Prop} {t:Nat} {st:St} {lv:Nat} {ps:List Pt} {p:Option Addr} {c:Nat} {w w1:World} {i:Nat} {a:Act} {o:List UInt8} {tg:Bool} (hlv:lv≤30) (hG:GP P w) (hs:SlOK p ps.length c) (hM:AM (PV P w) P w p ps) (hJ:putJ P t st lv ps p c w i a w1) (hst:ptsA lv (ps.take i) st=some (o,tg)) (s:List UInt8) (hp:ps[i]?=some (pOpn s)) (hw:ptw (pOpn s)≤n+1)
 (J:Act→World→Prop) (Q:Exit→Act→World→Prop) (hJ':∀ a' w',putJ P t st lv ps p c w (i+1) a' w'→J a' w'):(behindLabel Tryz.f168.body).wp Tryz.prog (Exit.jump 0 J Q) a w1:=by
 obtain ⟨hil,hT,hK,⟨b,ob,v,rfl,hcv1,hpv1⟩,hstep,hG1,c5,hn63⟩:=round_at hG hs hM hJ hst hp
 obtain ⟨T,rfl⟩:=putJ_lit hJ
 unfold behindLabel Tryz.f168
 dsimp only
 have HSTEP:=hide hstep
 have hj0:∀ a' w',a'.defers=[]→a'.tmps.size=158→a'.tmps.getD 0 undef=.pointer (some ⟨t,0,none⟩)→a'.tmps.getD 1 undef=.slice (some ⟨b,ob,none⟩) ps.length c→a'.tmps.getD 4 undef=.int .i64 ((i:Int)+1)→TX P t (ptA lv (pOpn s) (some (o,tg))) lv w'→KP P w1 w'→J a' w':=by
  intro a' w' h1 h2 h3 h4 h5 h6 h7
  refine hJ' a' w' ⟨hil,h1,h2,h3,h4,by rw [h5];simp,?_,hK.trans h7⟩
  rw [hstep];exact h6
 generalize hm:ps.length=m at *
 have hlt:(i:Int)<m:=by omega
 have hltn:i<m:=by omega
 have hne:¬ ((i:Int)=m):=by omega
 have HJ:=hide hj0
 have HW:=hide hw
 obtain ⟨rfl,hsl⟩:=hpv1
 have HC:=hide (wordT s hsl hT)
 have tn9:=ta_no9 212 (by decide)
 have ty:=ta_yes88
 clear hM hG hJ' hst hs hJ hK hj0 hstep hp hw IH hT hG1
 go_wp2_with fail
 refine HC.out.mono ?_
 rintro e' w' ⟨rfl,hT',hK'⟩
 obtain ⟨hT2,hK2,⟨b3,c3⟩,f3⟩:=hT'.tight
 have HT':=hide hT2
 have HK':=hide (hK'.trans hK2)
 clear hT' hK' hT2 hK2
 go_wp2_with fail
 go_step3
 exact ⟨rfl,HJ.out _ _ rfl rfl rfl rfl rfl HT'.out HK'.out⟩
theorem round_cls {n:Nat} (IH:PutOK n) {P:Nat→Prop} {t:Nat} {st:St} {lv:Nat} {ps:List Pt} {p:Option Addr} {c:Nat} {w w1:World} {i:Nat} {a:Act} {o:List UInt8} {tg:Bool} (hlv:lv≤30) (hG:GP P w) (hs:SlOK p ps.length c) (hM:AM (PV P w) P w p ps) (hJ:putJ P t st lv ps p c w i a w1) (hst:ptsA lv (ps.take i) st=some (o,tg)) (s:List UInt8) (hp:ps[i]?=some (pCls s)) (hw:ptw (pCls s)≤n+1)
 (J:Act→World→Prop) (Q:Exit→Act→World→Prop) (hJ':∀ a' w',putJ P t st lv ps p c w (i+1) a' w'→J a' w'):(behindLabel Tryz.f168.body).wp Tryz.prog (Exit.jump 0 J Q) a w1:=by
 obtain ⟨hil,hT,hK,⟨b,ob,v,rfl,hcv1,hpv1⟩,hstep,hG1,c5,hn63⟩:=round_at hG hs hM hJ hst hp
 obtain ⟨T,rfl⟩:=putJ_lit hJ
 unfold behindLabel Tryz.f168
 dsimp only
 have HSTEP:=hide hstep
 have hj0:∀ a' w',a'.defers=[]→a'.tmps.size=158→a'.tmps.getD 0 undef=.pointer (some ⟨t,0,none⟩)→a'.tmps.getD 1 undef=.slice (some ⟨b,ob,none⟩) ps.length c→a'.tmps.getD 4 undef=.int .i64 ((i:Int)+1)→TX P t (ptA lv (pCls s) (some (o,tg))) lv w'→KP P w1 w'→J a' w':=by
  intro a' w' h1 h2 h3 h4 h5 h6 h7
  refine hJ' a' w' ⟨hil,h1,h2,h3,h4,by rw [h5];simp,?_,hK.trans h7⟩
  rw [hstep];exact h6
 generalize hm:ps.length=m at *
 have hlt:(i:Int)<m:=by omega
 have hltn:i<m:=by omega
 have hne:¬ ((i:Int)=m):=by omega
 have HJ:=hide hj0
 have HW:=hide hw
 obtain ⟨rfl,hsl⟩:=hpv1
 obtain ⟨hT2,hK2,⟨b3,c3⟩,f3⟩:=hT.tight
 have HC:=hide (wordT (tg:=true) s hsl hT2)
 have HK2:=hide hK2
 have tn9:=ta_no9 213 (by decide)
 have tn88:=ta_no88 213 (by decide)
 have ty:=ta_yes89
 clear hM hG hJ' hst hs hJ hK hj0 hstep hp hw IH hT hG1 hT2 hK2
 go_wp2_with fail
 refine HC.out.mono ?_
 rintro e' w' ⟨rfl,hT',hK'⟩
 have HT':=hide hT'
 have HK':=hide hK'
 clear hT' hK'
 go_wp2_with fail
 go_step3
 exact ⟨rfl,HJ.out _ _ rfl rfl rfl rfl rfl HT'.out (HK2.out.trans HK'.out)⟩
theorem round_strs {n:Nat} (IH:PutOK n) {P:Nat→Prop} {t:Nat} {st:St} {lv:Nat} {ps:List Pt} {p:Option Addr} {c:Nat} {w w1:World} {i:Nat} {a:Act} {o:List UInt8} {tg:Bool} (hlv:lv≤30) (hG:GP P w) (hs:SlOK p ps.length c) (hM:AM (PV P w) P w p ps) (hJ:putJ P t st lv ps p c w i a w1) (hst:ptsA lv (ps.take i) st=some (o,tg)) (l:List (List UInt8)) (hp:ps[i]?=some (pStrs l)) (hw:ptw (pStrs l)≤n+1)
 (J:Act→World→Prop) (Q:Exit→Act→World→Prop) (hJ':∀ a' w',putJ P t st lv ps p c w (i+1) a' w'→J a' w'):(behindLabel Tryz.f168.body).wp Tryz.prog (Exit.jump 0 J Q) a w1:=by
 obtain ⟨hil,hT,hK,⟨b,ob,v,rfl,hcv1,hpv1⟩,hstep,hG1,c5,hn63⟩:=round_at hG hs hM hJ hst hp
 obtain ⟨T,rfl⟩:=putJ_lit hJ
 unfold behindLabel Tryz.f168
 dsimp only
 have HSTEP:=hide hstep
 have hj0:∀ a' w',a'.defers=[]→a'.tmps.size=158→a'.tmps.getD 0 undef=.pointer (some ⟨t,0,none⟩)→a'.tmps.getD 1 undef=.slice (some ⟨b,ob,none⟩) ps.length c→a'.tmps.getD 4 undef=.int .i64 ((i:Int)+1)→TX P t (ptA lv (pStrs l) (some (o,tg))) lv w'→KP P w1 w'→J a' w':=by
  intro a' w' h1 h2 h3 h4 h5 h6 h7
  refine hJ' a' w' ⟨hil,h1,h2,h3,h4,by rw [h5];simp,?_,hK.trans h7⟩
  rw [hstep];exact h6
 generalize hm:ps.length=m at *
 have hlt:(i:Int)<m:=by omega
 have hltn:i<m:=by omega
 have hne:¬ ((i:Int)=m):=by omega
 have HJ:=hide hj0
 have HW:=hide hw
 obtain ⟨p2,c2,rfl,hln,hs2,hSM⟩:=hpv1
 have HC:=hide (list_str (c:=c2) hln hT.lt hSM)
 have HP:=hide (fun (w2:World) p' c' (ho:w2.ownsRow w1.heap.size 20 1 (.slice p' l.length c') l.length (l.map fun s=>.iface 9 (.string (S s)))) (hB:Below w1.heap.size w1 w2)=>put_row IH (w2:=w2) (l.map pStr) (by simp) ho (fun i x hx=>by
  rw [List.getElem?_map,Option.map_eq_some_iff] at hx
  obtain ⟨s,hs,rfl⟩:=hx
  exact ⟨_,by rw [List.getElem?_map,hs];rfl,rfl,sm_len hSM i s hs⟩) (by rw [strs_w];have:ptw (pStrs l)=l.length+1:=rfl;omega) hlv hG1 hT hB)
 have tn9:=ta_no9 24 (by decide)
 have tn88:=ta_no88 24 (by decide)
 have tn89:=ta_no89 24 (by decide)
 have ty:=ta_yes22
 clear hM hG hJ' hst hs hJ hK hj0 hstep hp hw IH hT hG1 hSM
 go_wp2_with fail
 refine HC.out.mono ?_
 rintro e1 w2 ⟨p',c',rfl,ho,hB⟩
 have HC2:=hide (HP.out w2 p' c' ho hB)
 clear HP ho hB
 go_wp2_with fail
 refine HC2.out.mono ?_
 rintro e' w' ⟨rfl,hT',hK'⟩
 have HT':=hide hT'
 have HK':=hide hK'
 clear hT' hK'
 go_wp2_with fail
 go_step3
 exact ⟨rfl,HJ.out _ _ rfl rfl rfl rfl rfl (by rw [← strs_is];exact HT'.out) HK'.out⟩
theorem round_row {n:Nat} (IH:PutOK n) {P:Nat→Prop} {t:Nat} {st:St} {lv:Nat} {ps:List Pt} {p:Option Addr} {c:Nat} {w w1:World} {i:Nat} {a:Act} {o:List UInt8} {tg:Bool} (hlv:lv≤30) (hG:GP P w) (hs:SlOK p ps.length c) (hM:AM (PV P w) P w p ps) (hJ:putJ P t st lv ps p c w i a w1) (hst:ptsA lv (ps.take i) st=some (o,tg)) (s:List UInt8) (l:List P0) (hp:ps[i]?=some (pRow s l)) (hw:ptw (pRow s l)≤n+1)
 (J:Act→World→Prop) (Q:Exit→Act→World→Prop) (hJ':∀ a' w',putJ P t st lv ps p c w (i+1) a' w'→J a' w'):(behindLabel Tryz.f168.body).wp Tryz.prog (Exit.jump 0 J Q) a w1:=by
 obtain ⟨hil,hT,hK,⟨b,ob,v,rfl,hcv1,hpv1⟩,hstep,hG1,c5,hn63⟩:=round_at hG hs hM hJ hst hp
 obtain ⟨T,rfl⟩:=putJ_lit hJ
 unfold behindLabel Tryz.f168
 dsimp only
 have HSTEP:=hide hstep
 have hj0:∀ a' w',a'.defers=[]→a'.tmps.size=158→a'.tmps.getD 0 undef=.pointer (some ⟨t,0,none⟩)→a'.tmps.getD 1 undef=.slice (some ⟨b,ob,none⟩) ps.length c→a'.tmps.getD 4 undef=.int .i64 ((i:Int)+1)→TX P t (ptA lv (pRow s l) (some (o,tg))) lv w'→KP P w1 w'→J a' w':=by
  intro a' w' h1 h2 h3 h4 h5 h6 h7
  refine hJ' a' w' ⟨hil,h1,h2,h3,h4,by rw [h5];simp,?_,hK.trans h7⟩
  rw [hstep];exact h6
 generalize hm:ps.length=m at *
 have hlt:(i:Int)<m:=by omega
 have hltn:i<m:=by omega
 have hne:¬ ((i:Int)=m):=by omega
 have HJ:=hide hj0
 have HW:=hide hw
 obtain ⟨p2,c2,rfl,hsl,hln,hs2,hA⟩:=hpv1
 obtain ⟨vs,hvl,hVM,hif,hvs⟩:=AM_vs hA hT.lt
 have hB:Below w1.heap.size w1 (w1.alloc (.cells #[.string (S s),.slice p2 l.length c2] 216)):=(Below.refl _ w1).alloc (Nat.le_refl _) _
 have hKb:KP P w1 (w1.alloc (.cells #[.string (S s),.slice p2 l.length c2] 216)):=KP.of_below hB hT.lt
 have hTb:=hT.below hB
 have hGb:GP P (w1.alloc (.cells #[.string (S s),.slice p2 l.length c2] 216)):=hG1.keep hKb fun b hb=>hb
 have hVM2:VM (w1.alloc (.cells #[.string (S s),.slice p2 l.length c2] 216)) p2 vs:=by
  rcases hVM with h | ⟨b',o',h1,h2,h3⟩
  ·exact .inl h
  ·exact .inr ⟨b',o',h1,by simp;omega,fun i v hv=>(hB.cell (p:=⟨b',o'+i,none⟩) h2).trans (h3 i v hv)⟩
 have HC:=hide (between_any (c:=c2) s (by rw [hvl];exact hln) hVM2 hif)
 rw [hvl] at HC
 have HP:=hide (fun (w2:World) p' c' (ho:w2.ownsRow (w1.alloc (.cells #[.string (S s),.slice p2 l.length c2] 216)).heap.size 20 1 (.slice p' (btw (.iface 9 (.string (S s))) vs).length c') (btw (.iface 9 (.string (S s))) vs).length (btw (.iface 9 (.string (S s))) vs)) (hB2:Below (w1.alloc (.cells #[.string (S s),.slice p2 l.length c2] 216)).heap.size (w1.alloc (.cells #[.string (S s),.slice p2 l.length c2] 216)) w2)=>put_row IH (w2:=w2) (btP s l) (btP_len s _ l vs hvl) (owns_mono ho (by simp)) (btP_at (R:=P0V P w1) (S':=PV P w2) s _ ⟨rfl,hsl⟩ (fun x v hx=>P0V.keep (KP.of_below (below_next hB2) hT.lt) (fun b hb=>hb) x v hx) l vs hvl hvs) (by have:=btP_w s l;omega) hlv hG1 hT (below_next hB2))
 have tn9:=ta_no9 216 (by decide)
 have tn88:=ta_no88 216 (by decide)
 have tn89:=ta_no89 216 (by decide)
 have tn22:=ta_no22 216 (by decide)
 have ty:=ta_yes92
 clear hM hG hJ' hst hs hJ hK hj0 hstep hp hw IH hT hG1 hA hVM hVM2 hif hvs hB hKb hTb hGb hvl
 go_wp2_with fail
 refine HC.out.mono ?_
 rintro e1 w2 ⟨p',c',rfl,ho,hB⟩
 have HC2:=hide (HP.out w2 p' c' ho hB)
 clear HP ho hB
 go_wp2_with fail
 refine HC2.out.mono ?_
 rintro e' w' ⟨rfl,hT',hK'⟩
 have HT':=hide hT'
 have HK':=hide hK'
 clear hT' hK'
 go_wp2_with fail
 go_step3
 exact ⟨rfl,HJ.out _ _ rfl rfl rfl rfl rfl (by rw [← btP_is];exact HT'.out) HK'.out⟩
theorem round_atom {n:Nat} (IH:PutOK n) {P:Nat→Prop} {t:Nat} {st:St} {lv:Nat} {ps:List Pt} {p:Option Addr} {c:Nat} {w w1:World} {i:Nat} {a:Act} {o:List UInt8} {tg:Bool} (hlv:lv≤30) (hG:GP P w) (hs:SlOK p ps.length c) (hM:AM (PV P w) P w p ps) (hJ:putJ P t st lv ps p c w i a w1) (hst:ptsA lv (ps.take i) st=some (o,tg)) (e:Tr) (hp:ps[i]?=some (pAtom e)) (hw:ptw (pAtom e)≤n+1)
 (J:Act→World→Prop) (Q:Exit→Act→World→Prop) (hJ':∀ a' w',putJ P t st lv ps p c w (i+1) a' w'→J a' w'):(behindLabel Tryz.f168.body).wp Tryz.prog (Exit.jump 0 J Q) a w1:=by
 obtain ⟨hil,hT,hK,⟨b,ob,v,rfl,hcv1,hpv1⟩,hstep,hG1,c5,hn63⟩:=round_at hG hs hM hJ hst hp
 obtain ⟨T,rfl⟩:=putJ_lit hJ
 unfold behindLabel Tryz.f168
 dsimp only
 have HSTEP:=hide hstep
 have hj0:∀ a' w',a'.defers=[]→a'.tmps.size=158→a'.tmps.getD 0 undef=.pointer (some ⟨t,0,none⟩)→a'.tmps.getD 1 undef=.slice (some ⟨b,ob,none⟩) ps.length c→a'.tmps.getD 4 undef=.int .i64 ((i:Int)+1)→TX P t (ptA lv (pAtom e) (some (o,tg))) lv w'→KP P w1 w'→J a' w':=by
  intro a' w' h1 h2 h3 h4 h5 h6 h7
  refine hJ' a' w' ⟨hil,h1,h2,h3,h4,by rw [h5];simp,?_,hK.trans h7⟩
  rw [hstep];exact h6
 generalize hm:ps.length=m at *
 have hlt:(i:Int)<m:=by omega
 have hltn:i<m:=by omega
 have hne:¬ ((i:Int)=m):=by omega
 have HJ:=hide hj0
 have HW:=hide hw
 obtain ⟨cs,rfl,hE,hsh⟩:=hpv1
 obtain ⟨pn,cn,pk,ck,rfl⟩:=tr_cells hE
 have hB:Below w1.heap.size w1 (w1.alloc (.cells #[.int .i64 e.kd,.string (S e.nm),.int .i64 e.nu,.slice pn e.ns.length cn,.slice pk e.ks.length ck] 219)):=(Below.refl _ w1).alloc (Nat.le_refl _) _
 have hKb:KP P w1 (w1.alloc (.cells #[.int .i64 e.kd,.string (S e.nm),.int .i64 e.nu,.slice pn e.ns.length cn,.slice pk e.ks.length ck] 219)):=KP.of_below hB hT.lt
 have hTb:=hT.below hB
 have hGb:GP P (w1.alloc (.cells #[.int .i64 e.kd,.string (S e.nm),.int .i64 e.nu,.slice pn e.ns.length cn,.slice pk e.ks.length ck] 219)):=hG1.keep hKb fun b hb=>hb
 have HC:=hide (atomT IH (e:=e) (by have:ptw (pAtom e)=tw e+3:=rfl;omega) hlv hGb hTb (TrIn.keep hKb (fun b hb=>hb) e _ hE) hsh)
 have HKb:=hide hKb
 have tn9:=ta_no9 219 (by decide)
 have tn88:=ta_no88 219 (by decide)
 have tn89:=ta_no89 219 (by decide)
 have tn22:=ta_no22 219 (by decide)
 have tn92:=ta_no92 219 (by decide)
 have ty:=ta_yes95
 clear hM hG hJ' hst hs hJ hK hj0 hstep hp hw IH hT hG1 hE hB hKb hTb hGb
 go_wp2_with fail
 refine HC.out.mono ?_
 rintro e' w' ⟨rfl,hT',hK'⟩
 have HT':=hide hT'
 have HK':=hide hK'
 clear hT' hK'
 go_wp2_with fail
 go_step3
 exact ⟨rfl,HJ.out _ _ rfl rfl rfl rfl rfl HT'.out (HKb.out.trans HK'.out)⟩
theorem round_expr {n:Nat} (IH:PutOK n) {P:Nat→Prop} {t:Nat} {st:St} {lv:Nat} {ps:List Pt} {p:Option Addr} {c:Nat} {w w1:World} {i:Nat} {a:Act} {o:List UInt8} {tg:Bool} (hlv:lv≤30) (hG:GP P w) (hs:SlOK p ps.length c) (hM:AM (PV P w) P w p ps) (hJ:putJ P t st lv ps p c w i a w1) (hst:ptsA lv (ps.take i) st=some (o,tg)) (e:Tr) (hp:ps[i]?=some (pExpr e)) (hw:ptw (pExpr e)≤n+1)
 (J:Act→World→Prop) (Q:Exit→Act→World→Prop) (hJ':∀ a' w',putJ P t st lv ps p c w (i+1) a' w'→J a' w'):(behindLabel Tryz.f168.body).wp Tryz.prog (Exit.jump 0 J Q) a w1:=by
 obtain ⟨hil,hT,hK,⟨b,ob,v,rfl,hcv1,hpv1⟩,hstep,hG1,c5,hn63⟩:=round_at hG hs hM hJ hst hp
 obtain ⟨T,rfl⟩:=putJ_lit hJ
 unfold behindLabel Tryz.f168
 dsimp only
 have HSTEP:=hide hstep
 have hj0:∀ a' w',a'.defers=[]→a'.tmps.size=158→a'.tmps.getD 0 undef=.pointer (some ⟨t,0,none⟩)→a'.tmps.getD 1 undef=.slice (some ⟨b,ob,none⟩) ps.length c→a'.tmps.getD 4 undef=.int .i64 ((i:Int)+1)→TX P t (ptA lv (pExpr e) (some (o,tg))) lv w'→KP P w1 w'→J a' w':=by
  intro a' w' h1 h2 h3 h4 h5 h6 h7
  refine hJ' a' w' ⟨hil,h1,h2,h3,h4,by rw [h5];simp,?_,hK.trans h7⟩
  rw [hstep];exact h6
 generalize hm:ps.length=m at *
 have hlt:(i:Int)<m:=by omega
 have hltn:i<m:=by omega
 have hne:¬ ((i:Int)=m):=by omega
 have HJ:=hide hj0
 have HW:=hide hw
 obtain ⟨cs,rfl,hE,hsh⟩:=hpv1
 obtain ⟨pn,cn,pk,ck,rfl⟩:=tr_cells hE
 have hB:Below w1.heap.size w1 (w1.alloc (.cells #[.int .i64 e.kd,.string (S e.nm),.int .i64 e.nu,.slice pn e.ns.length cn,.slice pk e.ks.length ck] 27)):=(Below.refl _ w1).alloc (Nat.le_refl _) _
 have hKb:KP P w1 (w1.alloc (.cells #[.int .i64 e.kd,.string (S e.nm),.int .i64 e.nu,.slice pn e.ns.length cn,.slice pk e.ks.length ck] 27)):=KP.of_below hB hT.lt
 have hTb:=hT.below hB
 have hGb:GP P (w1.alloc (.cells #[.int .i64 e.kd,.string (S e.nm),.int .i64 e.nu,.slice pn e.ns.length cn,.slice pk e.ks.length ck] 27)):=hG1.keep hKb fun b hb=>hb
 have HC:=hide (exprT IH (e:=e) hw hlv hGb hTb (TrIn.keep hKb (fun b hb=>hb) e _ hE) hsh)
 have HKb:=hide hKb
 have tn9:=ta_no9 27 (by decide)
 have tn88:=ta_no88 27 (by decide)
 have tn89:=ta_no89 27 (by decide)
 have tn22:=ta_no22 27 (by decide)
 have tn92:=ta_no92 27 (by decide)
 have tn95:=ta_no95 27 (by decide)
 have ty:=ta_yes25
 clear hM hG hJ' hst hs hJ hK hj0 hstep hp hw IH hT hG1 hE hB hKb hTb hGb
 go_wp2_with fail
 refine HC.out.mono ?_
 rintro e' w' ⟨rfl,hT',hK'⟩
 have HT':=hide hT'
 have HK':=hide hK'
 clear hT' hK'
 go_wp2_with fail
 go_step3
 exact ⟨rfl,HJ.out _ _ rfl rfl rfl rfl rfl HT'.out (HKb.out.trans HK'.out)⟩
theorem round_sigs {n:Nat} (IH:PutOK n) {P:Nat→Prop} {t:Nat} {st:St} {lv:Nat} {ps:List Pt} {p:Option Addr} {c:Nat} {w w1:World} {i:Nat} {a:Act} {o:List UInt8} {tg:Bool} (hlv:lv≤30) (hG:GP P w) (hs:SlOK p ps.length c) (hM:AM (PV P w) P w p ps) (hJ:putJ P t st lv ps p c w i a w1) (hst:ptsA lv (ps.take i) st=some (o,tg)) (l:List Sg) (hp:ps[i]?=some (pSigs l)) (hw:ptw (pSigs l)≤n+1)
 (J:Act→World→Prop) (Q:Exit→Act→World→Prop) (hJ':∀ a' w',putJ P t st lv ps p c w (i+1) a' w'→J a' w'):(behindLabel Tryz.f168.body).wp Tryz.prog (Exit.jump 0 J Q) a w1:=by
 obtain ⟨hil,hT,hK,⟨b,ob,v,rfl,hcv1,hpv1⟩,hstep,hG1,c5,hn63⟩:=round_at hG hs hM hJ hst hp
 obtain ⟨T,rfl⟩:=putJ_lit hJ
 unfold behindLabel Tryz.f168
 dsimp only
 have HSTEP:=hide hstep
 have hj0:∀ a' w',a'.defers=[]→a'.tmps.size=158→a'.tmps.getD 0 undef=.pointer (some ⟨t,0,none⟩)→a'.tmps.getD 1 undef=.slice (some ⟨b,ob,none⟩) ps.length c→a'.tmps.getD 4 undef=.int .i64 ((i:Int)+1)→TX P t (ptA lv (pSigs l) (some (o,tg))) lv w'→KP P w1 w'→J a' w':=by
  intro a' w' h1 h2 h3 h4 h5 h6 h7
  refine hJ' a' w' ⟨hil,h1,h2,h3,h4,by rw [h5];simp,?_,hK.trans h7⟩
  rw [hstep];exact h6
 generalize hm:ps.length=m at *
 have hlt:(i:Int)<m:=by omega
 have hltn:i<m:=by omega
 have hne:¬ ((i:Int)=m):=by omega
 have HJ:=hide hj0
 have HW:=hide hw
 obtain ⟨p2,c2,rfl,hs2,hGM⟩:=hpv1
 have HC:=hide (argsT IH (fun s hs=>by have h1:ptw (pSigs l)=3+(l.map sw).sum:=rfl;have:=sum_memP l s hs;omega) hlv hG1 hT hs2 hGM)
 have tn9:=ta_no9 60 (by decide)
 have tn88:=ta_no88 60 (by decide)
 have tn89:=ta_no89 60 (by decide)
 have tn22:=ta_no22 60 (by decide)
 have tn92:=ta_no92 60 (by decide)
 have tn95:=ta_no95 60 (by decide)
 have tn25:=ta_no25 60 (by decide)
 have ty:=ta_yes44
 clear hM hG hJ' hst hs hJ hK hj0 hstep hp hw IH hT hG1 hGM
 go_wp2_with fail
 refine HC.out.mono ?_
 rintro e' w' ⟨rfl,hT',hK'⟩
 have HT':=hide hT'
 have HK':=hide hK'
 clear hT' hK'
 go_wp2_with fail
 go_step3
 exact ⟨rfl,HJ.out _ _ rfl rfl rfl rfl rfl HT'.out HK'.out⟩
theorem round_sig {n:Nat} (IH:PutOK n) {P:Nat→Prop} {t:Nat} {st:St} {lv:Nat} {ps:List Pt} {p:Option Addr} {c:Nat} {w w1:World} {i:Nat} {a:Act} {o:List UInt8} {tg:Bool} (hlv:lv≤30) (hG:GP P w) (hs:SlOK p ps.length c) (hM:AM (PV P w) P w p ps) (hJ:putJ P t st lv ps p c w i a w1) (hst:ptsA lv (ps.take i) st=some (o,tg)) (s:Sg) (hp:ps[i]?=some (pSig s)) (hw:ptw (pSig s)≤n+1)
 (J:Act→World→Prop) (Q:Exit→Act→World→Prop) (hJ':∀ a' w',putJ P t st lv ps p c w (i+1) a' w'→J a' w'):(behindLabel Tryz.f168.body).wp Tryz.prog (Exit.jump 0 J Q) a w1:=by
 obtain ⟨hil,hT,hK,⟨b,ob,v,rfl,hcv1,hpv1⟩,hstep,hG1,c5,hn63⟩:=round_at hG hs hM hJ hst hp
 obtain ⟨T,rfl⟩:=putJ_lit hJ
 unfold behindLabel Tryz.f168
 dsimp only
 have HSTEP:=hide hstep
 have hj0:∀ a' w',a'.defers=[]→a'.tmps.size=158→a'.tmps.getD 0 undef=.pointer (some ⟨t,0,none⟩)→a'.tmps.getD 1 undef=.slice (some ⟨b,ob,none⟩) ps.length c→a'.tmps.getD 4 undef=.int .i64 ((i:Int)+1)→TX P t (ptA lv (pSig s) (some (o,tg))) lv w'→KP P w1 w'→J a' w':=by
  intro a' w' h1 h2 h3 h4 h5 h6 h7
  refine hJ' a' w' ⟨hil,h1,h2,h3,h4,by rw [h5];simp,?_,hK.trans h7⟩
  rw [hstep];exact h6
 generalize hm:ps.length=m at *
 have hlt:(i:Int)<m:=by omega
 have hltn:i<m:=by omega
 have hne:¬ ((i:Int)=m):=by omega
 have HJ:=hide hj0
 have HW:=hide hw
 obtain ⟨cs,rfl,hE⟩:=hpv1
 obtain ⟨pk,ck,rfl,_⟩:=(SgIn_iff _ _ _ _).1 hE
 have hB:Below w1.heap.size w1 (w1.alloc (.cells #[.string (S s.nm),.slice pk s.ar.length ck] 175)):=(Below.refl _ w1).alloc (Nat.le_refl _) _
 have hKb:KP P w1 (w1.alloc (.cells #[.string (S s.nm),.slice pk s.ar.length ck] 175)):=KP.of_below hB hT.lt
 have hTb:=hT.below hB
 have hGb:GP P (w1.alloc (.cells #[.string (S s.nm),.slice pk s.ar.length ck] 175)):=hG1.keep hKb fun b hb=>hb
 have HC:=hide (sigT IH (s:=s) hw hlv hGb hTb (SgIn.keep hKb (fun b hb=>hb) s _ hE))
 have HKb:=hide hKb
 have tn9:=ta_no9 175 (by decide)
 have tn88:=ta_no88 175 (by decide)
 have tn89:=ta_no89 175 (by decide)
 have tn22:=ta_no22 175 (by decide)
 have tn92:=ta_no92 175 (by decide)
 have tn95:=ta_no95 175 (by decide)
 have tn25:=ta_no25 175 (by decide)
 have tn44:=ta_no44 175 (by decide)
 have ty:=ta_yes46
 clear hM hG hJ' hst hs hJ hK hj0 hstep hp hw IH hT hG1 hE hB hKb hTb hGb
 go_wp2_with fail
 refine HC.out.mono ?_
 rintro e' w' ⟨rfl,hT',hK'⟩
 have HT':=hide hT'
 have HK':=hide hK'
 clear hT' hK'
 go_wp2_with fail
 go_step3
 exact ⟨rfl,HJ.out _ _ rfl rfl rfl rfl rfl HT'.out (HKb.out.trans HK'.out)⟩
theorem round_form {n:Nat} (IH:PutOK n) {P:Nat→Prop} {t:Nat} {st:St} {lv:Nat} {ps:List Pt} {p:Option Addr} {c:Nat} {w w1:World} {i:Nat} {a:Act} {o:List UInt8} {tg:Bool} (hlv:lv≤30) (hG:GP P w) (hs:SlOK p ps.length c) (hM:AM (PV P w) P w p ps) (hJ:putJ P t st lv ps p c w i a w1) (hst:ptsA lv (ps.take i) st=some (o,tg)) (s:Fm) (hp:ps[i]?=some (pForm s)) (hw:ptw (pForm s)≤n+1)
 (J:Act→World→Prop) (Q:Exit→Act→World→Prop) (hJ':∀ a' w',putJ P t st lv ps p c w (i+1) a' w'→J a' w'):(behindLabel Tryz.f168.body).wp Tryz.prog (Exit.jump 0 J Q) a w1:=by
 obtain ⟨hil,hT,hK,⟨b,ob,v,rfl,hcv1,hpv1⟩,hstep,hG1,c5,hn63⟩:=round_at hG hs hM hJ hst hp
 obtain ⟨T,rfl⟩:=putJ_lit hJ
 unfold behindLabel Tryz.f168
 dsimp only
 have HSTEP:=hide hstep
 have hj0:∀ a' w',a'.defers=[]→a'.tmps.size=158→a'.tmps.getD 0 undef=.pointer (some ⟨t,0,none⟩)→a'.tmps.getD 1 undef=.slice (some ⟨b,ob,none⟩) ps.length c→a'.tmps.getD 4 undef=.int .i64 ((i:Int)+1)→TX P t (ptA lv (pForm s) (some (o,tg))) lv w'→KP P w1 w'→J a' w':=by
  intro a' w' h1 h2 h3 h4 h5 h6 h7
  refine hJ' a' w' ⟨hil,h1,h2,h3,h4,by rw [h5];simp,?_,hK.trans h7⟩
  rw [hstep];exact h6
 generalize hm:ps.length=m at *
 have hlt:(i:Int)<m:=by omega
 have hltn:i<m:=by omega
 have hne:¬ ((i:Int)=m):=by omega
 have HJ:=hide hj0
 have HW:=hide hw
 obtain ⟨cs,rfl,hE⟩:=hpv1
 obtain ⟨pk,ck,rfl,hnm,hsk,hgm⟩:=hE
 have hB:Below w1.heap.size w1 (w1.alloc (.cells #[.string (S s.nm),.slice pk s.ar.length ck] 121)):=(Below.refl _ w1).alloc (Nat.le_refl _) _
 have hKb:KP P w1 (w1.alloc (.cells #[.string (S s.nm),.slice pk s.ar.length ck] 121)):=KP.of_below hB hT.lt
 have hTb:=hT.below hB
 have hGb:GP P (w1.alloc (.cells #[.string (S s.nm),.slice pk s.ar.length ck] 121)):=hG1.keep hKb fun b hb=>hb
 have HC:=hide (put_new IH [pStr s.nm,pSigs s.ar] [.iface 9 (.string (S s.nm)),.iface 60 (.slice pk s.ar.length ck)] rfl (vs_cons ⟨rfl,hnm⟩ (vs_cons ⟨_,_,rfl,hsk,hgm⟩ vs_nil)) (by have h1:ptw (pForm s)=5+(s.ar.map sw).sum:=rfl;simp [ptsw,ptw,pStr,pSigs,p0w];omega) hlv hG1 hT hB (w1.heap.size+1) 2 (by simp) rfl (by omega))
 have tn9:=ta_no9 121 (by decide)
 have tn88:=ta_no88 121 (by decide)
 have tn89:=ta_no89 121 (by decide)
 have tn22:=ta_no22 121 (by decide)
 have tn92:=ta_no92 121 (by decide)
 have tn95:=ta_no95 121 (by decide)
 have tn25:=ta_no25 121 (by decide)
 have tn44:=ta_no44 121 (by decide)
 have tn46:=ta_no46 121 (by decide)
 have ty:=ta_yes47
 clear hM hG hJ' hst hs hJ hK hj0 hstep hp hw IH hT hG1 hgm hB hKb hTb hGb
 go_wp2_with fail
 refine HC.out.mono ?_
 rintro e' w' ⟨rfl,hT',hK'⟩
 have HT':=hide hT'
 have HK':=hide hK'
 clear hT' hK'
 go_wp2_with fail
 go_step3
 exact ⟨rfl,HJ.out _ _ rfl rfl rfl rfl rfl (by rw [← form_is];exact HT'.out) HK'.out⟩
theorem round_def {n:Nat} (IH:PutOK n) {P:Nat→Prop} {t:Nat} {st:St} {lv:Nat} {ps:List Pt} {p:Option Addr} {c:Nat} {w w1:World} {i:Nat} {a:Act} {o:List UInt8} {tg:Bool} (hlv:lv≤30) (hG:GP P w) (hs:SlOK p ps.length c) (hM:AM (PV P w) P w p ps) (hJ:putJ P t st lv ps p c w i a w1) (hst:ptsA lv (ps.take i) st=some (o,tg)) (d:Df) (hp:ps[i]?=some (pDef d)) (hw:ptw (pDef d)≤n+1)
 (J:Act→World→Prop) (Q:Exit→Act→World→Prop) (hJ':∀ a' w',putJ P t st lv ps p c w (i+1) a' w'→J a' w'):(behindLabel Tryz.f168.body).wp Tryz.prog (Exit.jump 0 J Q) a w1:=by
 obtain ⟨hil,hT,hK,⟨b,ob,v,rfl,hcv1,hpv1⟩,hstep,hG1,c5,hn63⟩:=round_at hG hs hM hJ hst hp
 obtain ⟨T,rfl⟩:=putJ_lit hJ
 unfold behindLabel Tryz.f168
 dsimp only
 have HSTEP:=hide hstep
 have hj0:∀ a' w',a'.defers=[]→a'.tmps.size=158→a'.tmps.getD 0 undef=.pointer (some ⟨t,0,none⟩)→a'.tmps.getD 1 undef=.slice (some ⟨b,ob,none⟩) ps.length c→a'.tmps.getD 4 undef=.int .i64 ((i:Int)+1)→TX P t (ptA lv (pDef d) (some (o,tg))) lv w'→KP P w1 w'→J a' w':=by
  intro a' w' h1 h2 h3 h4 h5 h6 h7
  refine hJ' a' w' ⟨hil,h1,h2,h3,h4,by rw [h5];simp,?_,hK.trans h7⟩
  rw [hstep];exact h6
 generalize hm:ps.length=m at *
 have hlt:(i:Int)<m:=by omega
 have hltn:i<m:=by omega
 have hne:¬ ((i:Int)=m):=by omega
 have HJ:=hide hj0
 have HW:=hide hw
 obtain ⟨cs,rfl,⟨ds,rfl,hnm,hin⟩,hsh⟩:=hpv1
 obtain ⟨pn,cn,pk,ck,rfl⟩:=tr_cells hin
 have hB:Below w1.heap.size w1 (w1.alloc (.cells #[.string (S d.nm),.int .i64 d.bd.kd,.string (S d.bd.nm),.int .i64 d.bd.nu,.slice pn d.bd.ns.length cn,.slice pk d.bd.ks.length ck] 79)):=(Below.refl _ w1).alloc (Nat.le_refl _) _
 have hKb:KP P w1 (w1.alloc (.cells #[.string (S d.nm),.int .i64 d.bd.kd,.string (S d.bd.nm),.int .i64 d.bd.nu,.slice pn d.bd.ns.length cn,.slice pk d.bd.ks.length ck] 79)):=KP.of_below hB hT.lt
 have hTb:=hT.below hB
 have hGb:GP P (w1.alloc (.cells #[.string (S d.nm),.int .i64 d.bd.kd,.string (S d.bd.nm),.int .i64 d.bd.nu,.slice pn d.bd.ns.length cn,.slice pk d.bd.ks.length ck] 79)):=hG1.keep hKb fun b hb=>hb
 have HC:=hide (put_new IH [pStr d.nm,pStr [61],pExpr d.bd] [.iface 9 (.string (S d.nm)),.iface 9 (.string (S [61])),.iface 27 (.agg #[.int .i64 d.bd.kd,.string (S d.bd.nm),.int .i64 d.bd.nu,.slice pn d.bd.ns.length cn,.slice pk d.bd.ks.length ck])] rfl (vs_cons ⟨rfl,hnm⟩ (vs_cons ⟨rfl,by simp⟩ (vs_cons ⟨_,rfl,hin,hsh⟩ vs_nil))) (by have h1:ptw (pDef d)=3+tw d.bd:=rfl;simp [ptsw,ptw,pStr,pExpr,p0w];omega) hlv hG1 hT hB (w1.heap.size+1) 3 (by simp) rfl (by omega))
 have tn9:=ta_no9 79 (by decide)
 have tn88:=ta_no88 79 (by decide)
 have tn89:=ta_no89 79 (by decide)
 have tn22:=ta_no22 79 (by decide)
 have tn92:=ta_no92 79 (by decide)
 have tn95:=ta_no95 79 (by decide)
 have tn25:=ta_no25 79 (by decide)
 have tn44:=ta_no44 79 (by decide)
 have tn46:=ta_no46 79 (by decide)
 have tn47:=ta_no47 79 (by decide)
 have tn50:=ta_no50 79 (by decide)
 have ty:=ta_yes33
 clear hM hG hJ' hst hs hJ hK hj0 hstep hp hw IH hT hG1 hin hB hKb hTb hGb
 go_wp2_with fail
 refine HC.out.mono ?_
 rintro e' w' ⟨rfl,hT',hK'⟩
 have HT':=hide hT'
 have HK':=hide hK'
 clear hT' hK'
 go_wp2_with fail
 go_step3
 exact ⟨rfl,HJ.out _ _ rfl rfl rfl rfl rfl (by rw [← def_is];exact HT'.out) HK'.out⟩
end Go.Proofs.YtcnnlecjdkfdjaaGreatDoor
