/- Parts of the proof. -/
import Derived.Test.YtcnnlecjdkfdjaaGreatDoorRound1
set_option linter.unusedVariables false
set_option linter.unusedSimpArgs false
set_option maxRecDepth 100000
set_option maxHeartbeats 8000000
namespace Go.Proofs.YtcnnlecjdkfdjaaGreatDoor
open Go.RowKit
theorem round_expr {n:Nat} (IH:PutOK n) {P:Nat→Prop} {t:Nat} {st:St} {lv:Nat} {ps:List Pt} {p:Option Addr} {c:Nat} {w w1:World} {i:Nat} {a:Act} {o:List UInt8} {tg:Bool} (hlv:lv≤30) (hG:GP P w) (hs:SlOK p ps.length c) (hM:AM (PV P w) P w p ps) (hJ:putJ P t st lv ps p c w i a w1) (hst:ptsA lv (ps.take i) st=some (o,tg)) (e:Tr) (hp:ps[i]?=some (pExpr e)) (hw:ptw (pExpr e)≤n+1)
 (J:Act→World→Prop) (Q:Exit→Act→World→Prop) (hJ':∀ a' w',putJ P t st lv ps p c w (i+1) a' w'→J a' w'):(behindLabel Tryz.f168.body).wp Tryz.prog (Exit.jump 0 J Q) a w1:=by
 obtain ⟨hil,hT,hK,⟨b,ob,v,rfl,hcv1,hpv1⟩,hstep,hG1,c5,hn63⟩:=round_at hG hs hM hJ hst hp
 obtain ⟨T,rfl⟩:=putJ_lit hJ
 unfold behindLabel Tryz.f168
 dsimp only
 have HSTEP:=zz hstep
 have hj0:∀ a' w',a'.defers=[]→a'.tmps.size=158→a'.tmps.getD 0 undef=.pointer (some ⟨t,0,none⟩)→a'.tmps.getD 1 undef=.slice (some ⟨b,ob,none⟩) ps.length c→a'.tmps.getD 4 undef=.int .i64 ((i:Int)+1)→TX P t (ptA lv (pExpr e) (some (o,tg))) lv w'→KP P w1 w'→J a' w':=by
  intro a' w' h1 h2 h3 h4 h5 h6 h7
  refine hJ' a' w' ⟨hil,h1,h2,h3,h4,by rw [h5];simp,?_,hK.trans h7⟩
  rw [hstep];exact h6
 generalize hm:ps.length=m at *
 have hlt:(i:Int)<m:=by omega
 have hltn:i<m:=by omega
 have hne:¬ ((i:Int)=m):=by omega
 have HJ:=zz hj0
 have HW:=zz hw
 obtain ⟨cs,rfl,hE,hsh⟩:=hpv1
 obtain ⟨pn,cn,pk,ck,rfl⟩:=tr_cells hE
 have hB:Below w1.heap.size w1 (w1.alloc (.cells #[.int .i64 e.kd,.string (S e.nm),.int .i64 e.nu,.slice pn e.ns.length cn,.slice pk e.ks.length ck] 27)):=(Below.refl _ w1).alloc (Nat.le_refl _) _
 have hKb:KP P w1 (w1.alloc (.cells #[.int .i64 e.kd,.string (S e.nm),.int .i64 e.nu,.slice pn e.ns.length cn,.slice pk e.ks.length ck] 27)):=KP.of_below hB hT.lt
 have hTb:=hT.below hB
 have hGb:GP P (w1.alloc (.cells #[.int .i64 e.kd,.string (S e.nm),.int .i64 e.nu,.slice pn e.ns.length cn,.slice pk e.ks.length ck] 27)):=hG1.keep hKb fun b hb=>hb
 have HC:=zz (exprT IH (e:=e) hw hlv hGb hTb (TrIn.keep hKb (fun b hb=>hb) e _ hE) hsh)
 have HKb:=zz hKb
 have tn9:=ta_no9 27 (by decide)
 have tn88:=ta_no88 27 (by decide)
 have tn89:=ta_no89 27 (by decide)
 have tn22:=ta_no22 27 (by decide)
 have tn92:=ta_no92 27 (by decide)
 have tn95:=ta_no95 27 (by decide)
 have ty:=ta_yes25
 clear hM hG hJ' hst hs hJ hK hj0 hstep hp hw IH hT hG1 hE hB hKb hTb hGb
 go_wp2_with fail
 refine HC.out.mono ?_
 rintro e' w' ⟨rfl,hT',hK'⟩
 have HT':=zz hT'
 have HK':=zz hK'
 clear hT' hK'
 go_wp2_with fail
 go_step3
 exact ⟨rfl,HJ.out _ _ rfl rfl rfl rfl rfl HT'.out (HKb.out.trans HK'.out)⟩
theorem round_sigs {n:Nat} (IH:PutOK n) {P:Nat→Prop} {t:Nat} {st:St} {lv:Nat} {ps:List Pt} {p:Option Addr} {c:Nat} {w w1:World} {i:Nat} {a:Act} {o:List UInt8} {tg:Bool} (hlv:lv≤30) (hG:GP P w) (hs:SlOK p ps.length c) (hM:AM (PV P w) P w p ps) (hJ:putJ P t st lv ps p c w i a w1) (hst:ptsA lv (ps.take i) st=some (o,tg)) (l:List Sg) (hp:ps[i]?=some (pSigs l)) (hw:ptw (pSigs l)≤n+1)
 (J:Act→World→Prop) (Q:Exit→Act→World→Prop) (hJ':∀ a' w',putJ P t st lv ps p c w (i+1) a' w'→J a' w'):(behindLabel Tryz.f168.body).wp Tryz.prog (Exit.jump 0 J Q) a w1:=by
 obtain ⟨hil,hT,hK,⟨b,ob,v,rfl,hcv1,hpv1⟩,hstep,hG1,c5,hn63⟩:=round_at hG hs hM hJ hst hp
 obtain ⟨T,rfl⟩:=putJ_lit hJ
 unfold behindLabel Tryz.f168
 dsimp only
 have HSTEP:=zz hstep
 have hj0:∀ a' w',a'.defers=[]→a'.tmps.size=158→a'.tmps.getD 0 undef=.pointer (some ⟨t,0,none⟩)→a'.tmps.getD 1 undef=.slice (some ⟨b,ob,none⟩) ps.length c→a'.tmps.getD 4 undef=.int .i64 ((i:Int)+1)→TX P t (ptA lv (pSigs l) (some (o,tg))) lv w'→KP P w1 w'→J a' w':=by
  intro a' w' h1 h2 h3 h4 h5 h6 h7
  refine hJ' a' w' ⟨hil,h1,h2,h3,h4,by rw [h5];simp,?_,hK.trans h7⟩
  rw [hstep];exact h6
 generalize hm:ps.length=m at *
 have hlt:(i:Int)<m:=by omega
 have hltn:i<m:=by omega
 have hne:¬ ((i:Int)=m):=by omega
 have HJ:=zz hj0
 have HW:=zz hw
 obtain ⟨p2,c2,rfl,hs2,hGM⟩:=hpv1
 have HC:=zz (argsT IH (fun s hs=>by have h1:ptw (pSigs l)=3+(l.map sw).sum:=rfl;have:=sum_memP l s hs;omega) hlv hG1 hT hs2 hGM)
 have tn9:=ta_no9 60 (by decide)
 have tn88:=ta_no88 60 (by decide)
 have tn89:=ta_no89 60 (by decide)
 have tn22:=ta_no22 60 (by decide)
 have tn92:=ta_no92 60 (by decide)
 have tn95:=ta_no95 60 (by decide)
 have tn25:=ta_no25 60 (by decide)
 have ty:=ta_yes44
 clear hM hG hJ' hst hs hJ hK hj0 hstep hp hw IH hT hG1 hGM
 go_wp2_with fail
 refine HC.out.mono ?_
 rintro e' w' ⟨rfl,hT',hK'⟩
 have HT':=zz hT'
 have HK':=zz hK'
 clear hT' hK'
 go_wp2_with fail
 go_step3
 exact ⟨rfl,HJ.out _ _ rfl rfl rfl rfl rfl HT'.out HK'.out⟩
theorem round_sig {n:Nat} (IH:PutOK n) {P:Nat→Prop} {t:Nat} {st:St} {lv:Nat} {ps:List Pt} {p:Option Addr} {c:Nat} {w w1:World} {i:Nat} {a:Act} {o:List UInt8} {tg:Bool} (hlv:lv≤30) (hG:GP P w) (hs:SlOK p ps.length c) (hM:AM (PV P w) P w p ps) (hJ:putJ P t st lv ps p c w i a w1) (hst:ptsA lv (ps.take i) st=some (o,tg)) (s:Sg) (hp:ps[i]?=some (pSig s)) (hw:ptw (pSig s)≤n+1)
 (J:Act→World→Prop) (Q:Exit→Act→World→Prop) (hJ':∀ a' w',putJ P t st lv ps p c w (i+1) a' w'→J a' w'):(behindLabel Tryz.f168.body).wp Tryz.prog (Exit.jump 0 J Q) a w1:=by
 obtain ⟨hil,hT,hK,⟨b,ob,v,rfl,hcv1,hpv1⟩,hstep,hG1,c5,hn63⟩:=round_at hG hs hM hJ hst hp
 obtain ⟨T,rfl⟩:=putJ_lit hJ
 unfold behindLabel Tryz.f168
 dsimp only
 have HSTEP:=zz hstep
 have hj0:∀ a' w',a'.defers=[]→a'.tmps.size=158→a'.tmps.getD 0 undef=.pointer (some ⟨t,0,none⟩)→a'.tmps.getD 1 undef=.slice (some ⟨b,ob,none⟩) ps.length c→a'.tmps.getD 4 undef=.int .i64 ((i:Int)+1)→TX P t (ptA lv (pSig s) (some (o,tg))) lv w'→KP P w1 w'→J a' w':=by
  intro a' w' h1 h2 h3 h4 h5 h6 h7
  refine hJ' a' w' ⟨hil,h1,h2,h3,h4,by rw [h5];simp,?_,hK.trans h7⟩
  rw [hstep];exact h6
 generalize hm:ps.length=m at *
 have hlt:(i:Int)<m:=by omega
 have hltn:i<m:=by omega
 have hne:¬ ((i:Int)=m):=by omega
 have HJ:=zz hj0
 have HW:=zz hw
 obtain ⟨cs,rfl,hE⟩:=hpv1
 obtain ⟨pk,ck,rfl,_⟩:=(SgIn_iff _ _ _ _).1 hE
 have hB:Below w1.heap.size w1 (w1.alloc (.cells #[.string (S s.nm),.slice pk s.ar.length ck] 175)):=(Below.refl _ w1).alloc (Nat.le_refl _) _
 have hKb:KP P w1 (w1.alloc (.cells #[.string (S s.nm),.slice pk s.ar.length ck] 175)):=KP.of_below hB hT.lt
 have hTb:=hT.below hB
 have hGb:GP P (w1.alloc (.cells #[.string (S s.nm),.slice pk s.ar.length ck] 175)):=hG1.keep hKb fun b hb=>hb
 have HC:=zz (sigT IH (s:=s) hw hlv hGb hTb (SgIn.keep hKb (fun b hb=>hb) s _ hE))
 have HKb:=zz hKb
 have tn9:=ta_no9 175 (by decide)
 have tn88:=ta_no88 175 (by decide)
 have tn89:=ta_no89 175 (by decide)
 have tn22:=ta_no22 175 (by decide)
 have tn92:=ta_no92 175 (by decide)
 have tn95:=ta_no95 175 (by decide)
 have tn25:=ta_no25 175 (by decide)
 have tn44:=ta_no44 175 (by decide)
 have ty:=ta_yes46
 clear hM hG hJ' hst hs hJ hK hj0 hstep hp hw IH hT hG1 hE hB hKb hTb hGb
 go_wp2_with fail
 refine HC.out.mono ?_
 rintro e' w' ⟨rfl,hT',hK'⟩
 have HT':=zz hT'
 have HK':=zz hK'
 clear hT' hK'
 go_wp2_with fail
 go_step3
 exact ⟨rfl,HJ.out _ _ rfl rfl rfl rfl rfl HT'.out (HKb.out.trans HK'.out)⟩
theorem round_form {n:Nat} (IH:PutOK n) {P:Nat→Prop} {t:Nat} {st:St} {lv:Nat} {ps:List Pt} {p:Option Addr} {c:Nat} {w w1:World} {i:Nat} {a:Act} {o:List UInt8} {tg:Bool} (hlv:lv≤30) (hG:GP P w) (hs:SlOK p ps.length c) (hM:AM (PV P w) P w p ps) (hJ:putJ P t st lv ps p c w i a w1) (hst:ptsA lv (ps.take i) st=some (o,tg)) (s:Fm) (hp:ps[i]?=some (pForm s)) (hw:ptw (pForm s)≤n+1)
 (J:Act→World→Prop) (Q:Exit→Act→World→Prop) (hJ':∀ a' w',putJ P t st lv ps p c w (i+1) a' w'→J a' w'):(behindLabel Tryz.f168.body).wp Tryz.prog (Exit.jump 0 J Q) a w1:=by
 obtain ⟨hil,hT,hK,⟨b,ob,v,rfl,hcv1,hpv1⟩,hstep,hG1,c5,hn63⟩:=round_at hG hs hM hJ hst hp
 obtain ⟨T,rfl⟩:=putJ_lit hJ
 unfold behindLabel Tryz.f168
 dsimp only
 have HSTEP:=zz hstep
 have hj0:∀ a' w',a'.defers=[]→a'.tmps.size=158→a'.tmps.getD 0 undef=.pointer (some ⟨t,0,none⟩)→a'.tmps.getD 1 undef=.slice (some ⟨b,ob,none⟩) ps.length c→a'.tmps.getD 4 undef=.int .i64 ((i:Int)+1)→TX P t (ptA lv (pForm s) (some (o,tg))) lv w'→KP P w1 w'→J a' w':=by
  intro a' w' h1 h2 h3 h4 h5 h6 h7
  refine hJ' a' w' ⟨hil,h1,h2,h3,h4,by rw [h5];simp,?_,hK.trans h7⟩
  rw [hstep];exact h6
 generalize hm:ps.length=m at *
 have hlt:(i:Int)<m:=by omega
 have hltn:i<m:=by omega
 have hne:¬ ((i:Int)=m):=by omega
 have HJ:=zz hj0
 have HW:=zz hw
 obtain ⟨cs,rfl,hE⟩:=hpv1
 obtain ⟨pk,ck,rfl,hnm,hsk,hgm⟩:=hE
 have hB:Below w1.heap.size w1 (w1.alloc (.cells #[.string (S s.nm),.slice pk s.ar.length ck] 121)):=(Below.refl _ w1).alloc (Nat.le_refl _) _
 have hKb:KP P w1 (w1.alloc (.cells #[.string (S s.nm),.slice pk s.ar.length ck] 121)):=KP.of_below hB hT.lt
 have hTb:=hT.below hB
 have hGb:GP P (w1.alloc (.cells #[.string (S s.nm),.slice pk s.ar.length ck] 121)):=hG1.keep hKb fun b hb=>hb
 have HC:=zz (put_new IH [pStr s.nm,pSigs s.ar] [.iface 9 (.string (S s.nm)),.iface 60 (.slice pk s.ar.length ck)] rfl (vs_cons ⟨rfl,hnm⟩ (vs_cons ⟨_,_,rfl,hsk,hgm⟩ vs_nil)) (by have h1:ptw (pForm s)=5+(s.ar.map sw).sum:=rfl;simp [ptsw,ptw,pStr,pSigs,p0w];omega) hlv hG1 hT hB (w1.heap.size+1) 2 (by simp) rfl (by omega))
 have tn9:=ta_no9 121 (by decide)
 have tn88:=ta_no88 121 (by decide)
 have tn89:=ta_no89 121 (by decide)
 have tn22:=ta_no22 121 (by decide)
 have tn92:=ta_no92 121 (by decide)
 have tn95:=ta_no95 121 (by decide)
 have tn25:=ta_no25 121 (by decide)
 have tn44:=ta_no44 121 (by decide)
 have tn46:=ta_no46 121 (by decide)
 have ty:=ta_yes47
 clear hM hG hJ' hst hs hJ hK hj0 hstep hp hw IH hT hG1 hgm hB hKb hTb hGb
 go_wp2_with fail
 refine HC.out.mono ?_
 rintro e' w' ⟨rfl,hT',hK'⟩
 have HT':=zz hT'
 have HK':=zz hK'
 clear hT' hK'
 go_wp2_with fail
 go_step3
 exact ⟨rfl,HJ.out _ _ rfl rfl rfl rfl rfl (by rw [← form_is];exact HT'.out) HK'.out⟩
theorem round_def {n:Nat} (IH:PutOK n) {P:Nat→Prop} {t:Nat} {st:St} {lv:Nat} {ps:List Pt} {p:Option Addr} {c:Nat} {w w1:World} {i:Nat} {a:Act} {o:List UInt8} {tg:Bool} (hlv:lv≤30) (hG:GP P w) (hs:SlOK p ps.length c) (hM:AM (PV P w) P w p ps) (hJ:putJ P t st lv ps p c w i a w1) (hst:ptsA lv (ps.take i) st=some (o,tg)) (d:Df) (hp:ps[i]?=some (pDef d)) (hw:ptw (pDef d)≤n+1)
 (J:Act→World→Prop) (Q:Exit→Act→World→Prop) (hJ':∀ a' w',putJ P t st lv ps p c w (i+1) a' w'→J a' w'):(behindLabel Tryz.f168.body).wp Tryz.prog (Exit.jump 0 J Q) a w1:=by
 obtain ⟨hil,hT,hK,⟨b,ob,v,rfl,hcv1,hpv1⟩,hstep,hG1,c5,hn63⟩:=round_at hG hs hM hJ hst hp
 obtain ⟨T,rfl⟩:=putJ_lit hJ
 unfold behindLabel Tryz.f168
 dsimp only
 have HSTEP:=zz hstep
 have hj0:∀ a' w',a'.defers=[]→a'.tmps.size=158→a'.tmps.getD 0 undef=.pointer (some ⟨t,0,none⟩)→a'.tmps.getD 1 undef=.slice (some ⟨b,ob,none⟩) ps.length c→a'.tmps.getD 4 undef=.int .i64 ((i:Int)+1)→TX P t (ptA lv (pDef d) (some (o,tg))) lv w'→KP P w1 w'→J a' w':=by
  intro a' w' h1 h2 h3 h4 h5 h6 h7
  refine hJ' a' w' ⟨hil,h1,h2,h3,h4,by rw [h5];simp,?_,hK.trans h7⟩
  rw [hstep];exact h6
 generalize hm:ps.length=m at *
 have hlt:(i:Int)<m:=by omega
 have hltn:i<m:=by omega
 have hne:¬ ((i:Int)=m):=by omega
 have HJ:=zz hj0
 have HW:=zz hw
 obtain ⟨cs,rfl,⟨ds,rfl,hnm,hin⟩,hsh⟩:=hpv1
 obtain ⟨pn,cn,pk,ck,rfl⟩:=tr_cells hin
 have hB:Below w1.heap.size w1 (w1.alloc (.cells #[.string (S d.nm),.int .i64 d.bd.kd,.string (S d.bd.nm),.int .i64 d.bd.nu,.slice pn d.bd.ns.length cn,.slice pk d.bd.ks.length ck] 79)):=(Below.refl _ w1).alloc (Nat.le_refl _) _
 have hKb:KP P w1 (w1.alloc (.cells #[.string (S d.nm),.int .i64 d.bd.kd,.string (S d.bd.nm),.int .i64 d.bd.nu,.slice pn d.bd.ns.length cn,.slice pk d.bd.ks.length ck] 79)):=KP.of_below hB hT.lt
 have hTb:=hT.below hB
 have hGb:GP P (w1.alloc (.cells #[.string (S d.nm),.int .i64 d.bd.kd,.string (S d.bd.nm),.int .i64 d.bd.nu,.slice pn d.bd.ns.length cn,.slice pk d.bd.ks.length ck] 79)):=hG1.keep hKb fun b hb=>hb
 have HC:=zz (put_new IH [pStr d.nm,pStr [61],pExpr d.bd] [.iface 9 (.string (S d.nm)),.iface 9 (.string (S [61])),.iface 27 (.agg #[.int .i64 d.bd.kd,.string (S d.bd.nm),.int .i64 d.bd.nu,.slice pn d.bd.ns.length cn,.slice pk d.bd.ks.length ck])] rfl (vs_cons ⟨rfl,hnm⟩ (vs_cons ⟨rfl,by simp⟩ (vs_cons ⟨_,rfl,hin,hsh⟩ vs_nil))) (by have h1:ptw (pDef d)=3+tw d.bd:=rfl;simp [ptsw,ptw,pStr,pExpr,p0w];omega) hlv hG1 hT hB (w1.heap.size+1) 3 (by simp) rfl (by omega))
 have tn9:=ta_no9 79 (by decide)
 have tn88:=ta_no88 79 (by decide)
 have tn89:=ta_no89 79 (by decide)
 have tn22:=ta_no22 79 (by decide)
 have tn92:=ta_no92 79 (by decide)
 have tn95:=ta_no95 79 (by decide)
 have tn25:=ta_no25 79 (by decide)
 have tn44:=ta_no44 79 (by decide)
 have tn46:=ta_no46 79 (by decide)
 have tn47:=ta_no47 79 (by decide)
 have tn50:=ta_no50 79 (by decide)
 have ty:=ta_yes33
 clear hM hG hJ' hst hs hJ hK hj0 hstep hp hw IH hT hG1 hin hB hKb hTb hGb
 go_wp2_with fail
 refine HC.out.mono ?_
 rintro e' w' ⟨rfl,hT',hK'⟩
 have HT':=zz hT'
 have HK':=zz hK'
 clear hT' hK'
 go_wp2_with fail
 go_step3
 exact ⟨rfl,HJ.out _ _ rfl rfl rfl rfl rfl (by rw [← def_is];exact HT'.out) HK'.out⟩
theorem vg_cons {R:Pt→Value→Prop} {p0:Pt} {ps:List Pt} {v0:Value} {vs:List Value} (h:R p0 v0) (ht:∀ (i:Nat) p,ps[i]?=some p→∃ v,vs[i]?=some v∧R p v):∀ (i:Nat) p,(p0 :: ps)[i]?=some p→∃ v,(v0 :: vs)[i]?=some v∧R p v:=by
 intro i p hp
 cases i with
 | zero=>cases hp;exact ⟨v0,rfl,h⟩
 | succ i=>exact ht i p hp
theorem vg_nil {R:Pt→Value→Prop}:∀ (i:Nat) p,([]:List Pt)[i]?=some p→∃ v,([]:List Value)[i]?=some v∧R p v:=by
 intro i p hp;simp at hp
def PVr (P:Nat→Prop) (w:World) (l:List P0) (p':Option Addr) (k c':Nat) (x:Pt) (v:Value):Prop:=PV P w x v∨∃ s:List UInt8,s.length≤10∧x=pRow s l∧v=.iface 216 (.agg #[.string (S s),.slice p' k c'])
theorem put_rowp {n:Nat} (IH:PutOK n) {P:Nat→Prop} {t:Nat} {st:St} {lv:Nat} {w w2:World} {l:List P0} {p':Option Addr} {k c':Nat} {us:List Value} (ho:w2.ownsRow w.heap.size 20 1 (.slice p' k c') k us) (hl:l.length=k) (hk:k≤2000000) (hR:∀ (i:Nat) x,l[i]?=some x→∃ v,us[i]?=some v∧P0V P w2 x v)
 (ps:List Pt) (vs:List Value) (hlen:vs.length=ps.length) (hv:∀ (i:Nat) x,ps[i]?=some x→∃ v,vs[i]?=some v∧PVr P w2 l p' k c' x v) (hw:ptsw ps≤n) (hlv:lv≤30) (hG:GP P w) (hT:TX P t st lv w) (hB:Below w.heap.size w w2) (m:Nat) (hm:ps.length=m) (hm2:m≤1000000) :
 Calls Tryz.prog 168 #[.pointer (some ⟨t,0,none⟩),.slice (some ⟨w2.heap.size,0,none⟩) m m] (w2.alloc (.cells vs.toArray 20)) fun e w'=>e=.returned (.tuple #[])∧TX P t (ptsA lv ps st) lv w'∧KP P w w':=by
 have k1:KP P w w2:=KP.of_below hB hT.lt
 obtain ⟨hs,hA,hQ⟩:=own_AM (P:=P) (R:=P0V (fun b=>P b∨p'.map Addr.block=some b) w2) (l:=l) ho hl (by
  intro i x hx
  obtain ⟨v,h1,h2⟩:=hR i x hx
  exact ⟨v,h1,P0V.keep (KP.refl P w2) (fun b hb=>Or.inl hb) x v h2⟩)
 have hT2:=hT.more (Q:=fun b=>p'.map Addr.block=some b) hB hQ
 refine (put_new IH (P:=fun b=>P b∨p'.map Addr.block=some b) ps vs hlen (fun i x hx=>?_) hw hlv (hG.keep k1 fun b hb=>.inl hb) hT2 (Below.refl _ w2) w2.heap.size m rfl hm hm2).mono ?_
 ·obtain ⟨v,h1,h2⟩:=hv i x hx
  refine ⟨v,h1,?_⟩
  rcases h2 with h2 | ⟨s,hsl,rfl,rfl⟩
  ·exact PV.keep (KP.refl P w2) (fun b hb=>Or.inl hb) x v h2
  ·exact ⟨p',c',by rw [hl],by omega,by omega,by rw [hl];exact hs,hA⟩
 ·rintro e w' ⟨rfl,h1,h2⟩
  exact ⟨rfl,h1.weak fun b hb=>.inl hb,k1.trans (h2.mono fun b hb=>.inl hb)⟩
def p0Form (f:Fm):P0:=.inr (.inr (.inr (.inr (.inr (.inr (.inr (.inr (.inl f))))))))
def p0Data (d:Dt):P0:=.inr (.inr (.inr (.inr (.inr (.inr (.inr (.inr (.inr (.inl d)))))))))
def p0Def (d:Df):P0:=.inr (.inr (.inr (.inr (.inr (.inr (.inr (.inr (.inr (.inr (.inl d))))))))))
theorem data_is (lv:Nat) (d:Dt) (st:St):ptsA lv [pStr [100,97,116,97],pStr d.nm,pStrs d.ps,pStr [61],pRow [124] (d.fs.map p0Form)] st=ptA lv (pData d) st:=by
 apply ptsA_is
 ·simp [pStr,pStrs,pRow,pData,ptOK,p0OK,dtOK,p0Form,List.all_map,Function.comp_def]
 ·simp [pStr,pStrs,pRow,pData,ptW,p0W,dtW,p0Form,Function.comp_def]
theorem data_w (d:Dt):ptsw [pStr [100,97,116,97],pStr d.nm,pStrs d.ps,pStr [61],pRow [124] (d.fs.map p0Form)]+1≤ptw (pData d):=by
 show _≤dtw d
 simp [ptsw,ptw,pStr,pStrs,pRow,p0w,dtw,p0Form,Function.comp_def]
 omega
theorem prog_is (lv:Nat) (p:Pg) (st:St):ptsA lv [pStr [123],pRow [59] (p.ds.map p0Data ++ p.fs.map p0Def),pStr [125]] st=ptA lv (pProg p) st:=by
 apply ptsA_is
 ·simp [pStr,pRow,pProg,ptOK,p0OK,p0Data,p0Def,List.all_map,Function.comp_def]
 ·simp [pStr,pRow,pProg,ptW,p0W,pgW,p0Data,p0Def,Function.comp_def]
theorem prog_w (p:Pg):ptsw [pStr [123],pRow [59] (p.ds.map p0Data ++ p.fs.map p0Def),pStr [125]]+1≤ptw (pProg p):=by
 show _≤pgw p
 simp [ptsw,ptw,pStr,pRow,p0w,pgw,p0Data,p0Def,Function.comp_def]
 omega
theorem none86 (w:World) (ty:TypeId) (pa:Option Addr) (n c:Nat) (h:n≤c):(Builtin.append_ #[211,211] ty #[.slice pa n c,.slice none 0 0]).run Tryz.prog w=.ok (.slice pa n c) w:=by
 have h22:=Tryz.underlying211
 have z5:=Tryz.sizeOf20
 cases pa with
 | none=>simp [Builtin.append_,run_underlying h22,z5,Builtin.lenOf,Builtin.firstCells,h]
 | some a=>simp [Builtin.append_,run_underlying h22,z5,Builtin.lenOf,Builtin.firstCells,h,storeCells]
theorem iface_one {α:Type} {l:List α} {xs:List Value} {ty:TypeId} {R:α→List Value→Prop} (hl:xs.length=l.length) (hx:∀ (i:Nat) t,l[i]?=some t→∃ ds:List Value,xs[i]?=some (Value.iface ty (.agg ds.toArray))∧R t ds):∀ u ∈ xs,u.oneCell'=true:=by
 intro u hu
 obtain ⟨i,hi⟩:=List.mem_iff_getElem?.1 hu
 have hil:i<l.length:=by have:=(List.getElem?_eq_some_iff.1 hi).1;omega
 obtain ⟨ds,h1,_⟩:=hx i l[i] (by simp)
 rw [hi] at h1;cases h1;rfl
theorem step_spread {w:World} {ops:Array Oper} {o:Oper} {a:Act} {K:Act→World→Prop} {Q:Exit→Act→World→Prop} {E:Prop} (hgd:o.guard=none) (s x:Operand) (ho:o.op=.call { callee:=.builtin .append,args:=#[s,x],argTypes:=#[211,211] })
 (base base':Nat) (pa:Option Addr) (n cp:Nat) (xs:List Value) (hs:a.eval s=.slice pa n cp) (hown:w.ownsRow base 20 1 (.slice pa n cp) n xs)
 (p:Option Addr) (m c:Nat) (news:List Value) (hx:a.eval x=.slice p m c) (hnew:w.ownsRow base' 20 1 (.slice p m c) m news) (h1:∀ u ∈ news,u.oneCell'=true) (hb:n+m≤10000000) (hbase:base≤w.heap.size)
 (h:∀ pa' cp' w',w'.ownsRow base 20 1 (.slice pa' (n+m) cp') (n+m) (xs ++ news)→w.grownBy w' (Value.slice pa n cp).ownBlock→K (a.put o.dst (.slice pa' (n+m) cp')) w') :
 if Region.wanted o (yielded ops a.tmps)=true then Oper.wp Tryz.prog o a w K Q else E:=by
 have hw:Region.wanted o (yielded ops a.tmps)=true:=by simp [Region.wanted,hgd]
 rw [if_pos hw]
 obtain ⟨i0,hi,hz0,hz1,hz2⟩:=info_parts info20
 have hnc:n≤cp:=by
  rcases hown.2 with ⟨hv,h0⟩ | ⟨g,cap,cur,hv,_,_,h1,_⟩
  ·cases hv;omega
  ·cases hv;exact h1
 have hlen:news.length=m * 1:=hnew.1
 rcases hnew.2 with ⟨hv,h0⟩ | ⟨g,cap,cur,hv,hr⟩
 ·cases hv
  have hn0:news=[]:=List.length_eq_zero_iff.1 (by omega)
  subst hn0
  unfold Oper.wp execOp
  simp only [ho,resolve,invoke,builtin,Sem.run_bind,Sem.run_pure,Result.andThen_ok,List.map_toArray,List.map_cons,List.map_nil,hs,hx,none86 w o.type pa n cp hnc]
  exact h pa cp w (by rw [List.append_nil];exact hown) ⟨rfl,rfl,rfl,Nat.le_refl _,fun _ _ _=>rfl⟩
 ·cases hv
  obtain ⟨v',w',hr,h2,h3,_,_⟩:=run_append_own_at (P:=Tryz.prog) w base 211 o.type 20 i0 .nilIface 1 16 Tryz.underlying211 hi hz0 hz1 hz2 rfl (by decide) _ n xs hown ⟨g,0,none⟩ m c news hlen (fun j u hu=>by
   have hadd:(⟨g,0,none⟩:Addr).add j=⟨g,j,none⟩:=by unfold Addr.add;split <;> simp_all
   rw [hadd];exact row_cell hnew hu) h1 (by unfold maxLen;omega) (by omega) hbase
  obtain ⟨pa',cp',rfl⟩:=slice_of h2
  unfold Oper.wp execOp
  simp only [ho,resolve,invoke,builtin,Sem.run_bind,Sem.run_pure,Result.andThen_ok,List.map_toArray,List.map_cons,List.map_nil,hs,hx,hr]
  exact h pa' cp' w' h2 h3
theorem round_data {n:Nat} (IH:PutOK n) {P:Nat→Prop} {t:Nat} {st:St} {lv:Nat} {ps:List Pt} {p:Option Addr} {c:Nat} {w w1:World} {i:Nat} {a:Act} {o:List UInt8} {tg:Bool} (hlv:lv≤30) (hG:GP P w) (hs:SlOK p ps.length c) (hM:AM (PV P w) P w p ps) (hJ:putJ P t st lv ps p c w i a w1) (hst:ptsA lv (ps.take i) st=some (o,tg)) (d:Dt) (hp:ps[i]?=some (pData d)) (hw:ptw (pData d)≤n+1)
 (J:Act→World→Prop) (Q:Exit→Act→World→Prop) (hJ':∀ a' w',putJ P t st lv ps p c w (i+1) a' w'→J a' w'):(behindLabel Tryz.f168.body).wp Tryz.prog (Exit.jump 0 J Q) a w1:=by
 obtain ⟨hil,hT,hK,⟨b,ob,v,rfl,hcv1,hpv1⟩,hstep,hG1,c5,hn63⟩:=round_at hG hs hM hJ hst hp
 obtain ⟨T,rfl⟩:=putJ_lit hJ
 unfold behindLabel Tryz.f168
 dsimp only
 have HSTEP:=zz hstep
 have hj0:∀ a' w',a'.defers=[]→a'.tmps.size=158→a'.tmps.getD 0 undef=.pointer (some ⟨t,0,none⟩)→a'.tmps.getD 1 undef=.slice (some ⟨b,ob,none⟩) ps.length c→a'.tmps.getD 4 undef=.int .i64 ((i:Int)+1)→TX P t (ptA lv (pData d) (some (o,tg))) lv w'→KP P w1 w'→J a' w':=by
  intro a' w' h1 h2 h3 h4 h5 h6 h7
  refine hJ' a' w' ⟨hil,h1,h2,h3,h4,by rw [h5];simp,?_,hK.trans h7⟩
  rw [hstep];exact h6
 generalize hm:ps.length=m at *
 have hlt:(i:Int)<m:=by omega
 have hltn:i<m:=by omega
 have hne:¬ ((i:Int)=m):=by omega
 have HJ:=zz hj0
 have HW:=zz hw
 obtain ⟨cs,rfl,⟨pp,cp,pf,cf,rfl,hnm,hsp,hsf,hSM,hRM⟩,hdb⟩:=hpv1
 obtain ⟨W,hWW⟩:∃ W,W=w1.alloc (.cells #[.string (S d.nm),.slice pp d.ps.length cp,.slice pf d.fs.length cf] 77):=⟨_,rfl⟩
 have hB:Below w1.heap.size w1 W:=by rw [hWW];exact (Below.refl _ w1).alloc (Nat.le_refl _) _
 have hKb:KP P w1 W.drew:=(KP.of_below hB hT.lt).drew
 have hTb0:TX (fun b=>P b∨b=w1.heap.size) t (some (o,tg)) lv W:=by rw [hWW];exact hT.new _
 have hTb:TX (fun b=>P b∨b=w1.heap.size) t (some (o,tg)) lv W.drew:=hTb0.below ⟨rfl,rfl,rfl,Nat.le_refl _,fun _ _=>rfl⟩
 have hGb:GP (fun b=>P b∨b=w1.heap.size) W.drew:=hG1.keep hKb fun b hb=>.inl hb
 have hWs:W.heap.size=w1.heap.size+1:=by rw [hWW];simp
 have hH:Hold w1.heap.size #[.string (S d.nm),.slice pp d.ps.length cp,.slice pf d.fs.length cf] 77 W:=by rw [hWW];exact Hold.new w1 _ 77
 have hSM2:=(hSM.keep hKb).mono (Q:=(fun b=>P b∨b=w1.heap.size)) fun b hb=>Or.inl hb
 have hRM2:=RM.keep (R':=FmIn (fun b=>P b∨b=w1.heap.size) W.drew) hKb (Q:=(fun b=>P b∨b=w1.heap.size)) (fun b hb=>.inl hb) (FmIn.keep hKb fun b hb=>Or.inl hb) hRM
 have HC:=zz (list_form (c:=cf) hdb.2 hTb.lt hRM2)
 have HP:=zz (fun (w2:World) p' c' (us:List Value) (ho:w2.ownsRow W.drew.heap.size 20 1 (.slice p' d.fs.length c') d.fs.length us) (hB2:Below W.drew.heap.size W.drew w2) (hv:∀ (i:Nat) t,d.fs[i]?=some t→∃ ds:List Value,us[i]?=some (Value.iface 121 (.agg ds.toArray))∧FmIn (fun b=>P b∨b=w1.heap.size) W.drew t ds)=>
  put_rowp IH (l:=d.fs.map p0Form) ho (by simp) (by have:=hdb.2;omega) (fun i x hx=>by
   rw [List.getElem?_map,Option.map_eq_some_iff] at hx
   obtain ⟨f,hf,rfl⟩:=hx
   obtain ⟨ds,h1,h2⟩:=hv i f hf
   exact ⟨_,h1,ds,rfl,FmIn.keep (KP.of_below hB2 hTb.lt) (fun b hb=>hb) f ds h2⟩)
   [pStr [100,97,116,97],pStr d.nm,pStrs d.ps,pStr [61],pRow [124] (d.fs.map p0Form)] [.iface 9 (.string (S [100,97,116,97])),.iface 9 (.string (S d.nm)),.iface 24 (.slice pp d.ps.length cp),.iface 9 (.string (S [61])),.iface 216 (.agg #[.string (S [124]),.slice p' d.fs.length c'])] rfl
   (vg_cons (.inl ⟨rfl,by simp⟩) (vg_cons (.inl ⟨rfl,hnm⟩) (vg_cons (.inl ⟨_,_,rfl,hdb.1,hsp,hSM2.keep (KP.of_below hB2 hTb.lt)⟩) (vg_cons (.inl ⟨rfl,by simp⟩) (vg_cons (.inr ⟨[124],by simp,rfl,rfl⟩) vg_nil))))) (by have:=data_w d;omega) hlv hGb hTb hB2 5 rfl (by omega))
 have c0:=hH.cell 0;have c1:=hH.cell 1;have c2:=hH.cell 2
 simp only [lGA,lGS,lGZ] at c0 c1 c2
 have HS:Hid (∀ w',KP (fun b=>P b∨b=w1.heap.size) W.drew w'→(w'.cell? ⟨w1.heap.size,0,none⟩=some (.string (S d.nm))∧w'.cell? ⟨w1.heap.size,1,none⟩=some (.slice pp d.ps.length cp)∧w'.cell? ⟨w1.heap.size,2,none⟩=some (.slice pf d.fs.length cf))):=fun w' k=>⟨(k.cell (.inr rfl) _).trans c0,(k.cell (.inr rfl) _).trans c1,(k.cell (.inr rfl) _).trans c2⟩
 have hlP:Hid (∀ b,(fun b=>P b∨b=w1.heap.size) b→b<W.drew.heap.size):=hTb.lt
 have HKb:=zz hKb
 have hlw:w1.heap.size<W.heap.size:=by omega
 generalize hnf:d.fs.length=nf at *
 generalize hnp:d.ps.length=np at *
 have tn9:=ta_no9 77 (by decide)
 have tn88:=ta_no88 77 (by decide)
 have tn89:=ta_no89 77 (by decide)
 have tn22:=ta_no22 77 (by decide)
 have tn92:=ta_no92 77 (by decide)
 have tn95:=ta_no95 77 (by decide)
 have tn25:=ta_no25 77 (by decide)
 have tn44:=ta_no44 77 (by decide)
 have tn46:=ta_no46 77 (by decide)
 have tn47:=ta_no47 77 (by decide)
 have ty:=ta_yes50
 clear hM hG hJ' hst hs hJ hK hj0 hstep hp hw IH hT hG1 hSM hRM hSM2 hRM2 hB hKb hTb hTb0 hGb hH hsp hsf hdb hnm hnf hnp
 go_wp2_with fail
 rw [← hWW]
 clear hWW
 go_region_held3 (fun w'=>w'.cell? ⟨w1.heap.size,0,none⟩=some (.string (S d.nm))∧w'.cell? ⟨w1.heap.size,1,none⟩=some (.slice pp np cp)∧w'.cell? ⟨w1.heap.size,2,none⟩=some (.slice pf nf cf)) (first | go_keep | (exact HS.out _ (KP.of_below HB.out hlP.out)) | (exact HS.out _ HK'.out)) (first | (go_at_call 210;refine HC.out.mono ?_;rintro e1 w2 ⟨p',c',us,rfl,ho,hB2,hv⟩;have HC2:=zz (HP.out w2 p' c' us ho hB2 hv);have HB:=zz hB2;clear ho hB2 hv) | (go_at_call 168;refine HC2.out.mono ?_;rintro e' w' ⟨rfl,hT',hK'⟩;have HT':=zz hT';have HK':=zz hK';clear hT' hK'))
 go_wp2_with fail
 go_step3
 exact ⟨rfl,HJ.out _ _ rfl rfl rfl rfl rfl (by rw [← data_is];exact HT'.out.weak fun b hb=>.inl hb) (HKb.out.trans (HK'.out.mono fun b hb=>.inl hb))⟩
theorem round_prog {n:Nat} (IH:PutOK n) {P:Nat→Prop} {t:Nat} {st:St} {lv:Nat} {ps:List Pt} {p:Option Addr} {c:Nat} {w w1:World} {i:Nat} {a:Act} {o:List UInt8} {tg:Bool} (hlv:lv≤30) (hG:GP P w) (hs:SlOK p ps.length c) (hM:AM (PV P w) P w p ps) (hJ:putJ P t st lv ps p c w i a w1) (hst:ptsA lv (ps.take i) st=some (o,tg)) (q:Pg) (hp:ps[i]?=some (pProg q)) (hw:ptw (pProg q)≤n+1)
 (J:Act→World→Prop) (Q:Exit→Act→World→Prop) (hJ':∀ a' w',putJ P t st lv ps p c w (i+1) a' w'→J a' w'):(behindLabel Tryz.f168.body).wp Tryz.prog (Exit.jump 0 J Q) a w1:=by
 obtain ⟨hil,hT,hK,⟨b,ob,v,rfl,hcv1,hpv1⟩,hstep,hG1,c5,hn63⟩:=round_at hG hs hM hJ hst hp
 obtain ⟨T,rfl⟩:=putJ_lit hJ
 unfold behindLabel Tryz.f168
 dsimp only
 have HSTEP:=zz hstep
 have hj0:∀ a' w',a'.defers=[]→a'.tmps.size=158→a'.tmps.getD 0 undef=.pointer (some ⟨t,0,none⟩)→a'.tmps.getD 1 undef=.slice (some ⟨b,ob,none⟩) ps.length c→a'.tmps.getD 4 undef=.int .i64 ((i:Int)+1)→TX P t (ptA lv (pProg q) (some (o,tg))) lv w'→KP P w1 w'→J a' w':=by
  intro a' w' h1 h2 h3 h4 h5 h6 h7
  refine hJ' a' w' ⟨hil,h1,h2,h3,h4,by rw [h5];simp,?_,hK.trans h7⟩
  rw [hstep];exact h6
 generalize hm:ps.length=m at *
 have hlt:(i:Int)<m:=by omega
 have hltn:i<m:=by omega
 have hne:¬ ((i:Int)=m):=by omega
 have HJ:=zz hj0
 have HW:=zz hw
 obtain ⟨cs,rfl,⟨pd,cd,pf,cf,rfl,hsd,hsf,hRD,hRF⟩,hbd,hbf,hdb,hsh⟩:=hpv1
 obtain ⟨W,hWW⟩:∃ W,W=w1.alloc (.cells #[.slice pd q.ds.length cd,.slice pf q.fs.length cf] 38):=⟨_,rfl⟩
 have hB:Below w1.heap.size w1 W:=by rw [hWW];exact (Below.refl _ w1).alloc (Nat.le_refl _) _
 have hKb:KP P w1 W.drew:=(KP.of_below hB hT.lt).drew
 have hTb0:TX (fun b=>P b∨b=w1.heap.size) t (some (o,tg)) lv W:=by rw [hWW];exact hT.new _
 have hTb:TX (fun b=>P b∨b=w1.heap.size) t (some (o,tg)) lv W.drew:=hTb0.below ⟨rfl,rfl,rfl,Nat.le_refl _,fun _ _=>rfl⟩
 have hGb:GP (fun b=>P b∨b=w1.heap.size) W.drew:=hG1.keep hKb fun b hb=>.inl hb
 have hWs:W.heap.size=w1.heap.size+1:=by rw [hWW];simp
 have hH:Hold w1.heap.size #[.slice pd q.ds.length cd,.slice pf q.fs.length cf] 38 W:=by rw [hWW];exact Hold.new w1 _ 38
 have hRD2:=RM.keep (R':=DtIn (fun b=>P b∨b=w1.heap.size) W.drew) hKb (Q:=(fun b=>P b∨b=w1.heap.size)) (fun b hb=>.inl hb) (DtIn.keep hKb fun b hb=>Or.inl hb) hRD
 have hRF2:=RM.keep (R':=DfIn (fun b=>P b∨b=w1.heap.size) W.drew) hKb (Q:=(fun b=>P b∨b=w1.heap.size)) (fun b hb=>.inl hb) (DfIn.keep hKb fun b hb=>Or.inl hb) hRF
 have HC:=zz (list_data (c:=cd) hbd hTb.lt hRD2)
 have HF:=zz (fun (w2:World) (hB2:Below W.drew.heap.size W.drew w2)=>list_def (P:=(fun b=>P b∨b=w1.heap.size)) (w:=w2) (c:=cf) hbf (fun b hb=>Nat.lt_of_lt_of_le (hTb.lt b hb) hB2.size) (RM.keep (R':=DfIn (fun b=>P b∨b=w1.heap.size) w2) (KP.of_below hB2 hTb.lt) (fun b hb=>hb) (DfIn.keep (KP.of_below hB2 hTb.lt) fun b hb=>hb) hRF2))
 have HP:=zz (fun (w2 w3 w4:World) p2 c2 (us:List Value) (hB2:Below W.drew.heap.size W.drew w2) (hv:∀ (i:Nat) t,q.ds[i]?=some t→∃ ds:List Value,us[i]?=some (Value.iface 77 (.agg ds.toArray))∧DtIn (fun b=>P b∨b=w1.heap.size) W.drew t ds) (hul:us.length=q.ds.length)
  (xs:List Value) (hB3:Below w2.heap.size w2 w3) (hx:∀ (i:Nat) t,q.fs[i]?=some t→∃ ds:List Value,xs[i]?=some (Value.iface 79 (.agg ds.toArray))∧DfIn (fun b=>P b∨b=w1.heap.size) w2 t ds)
  (ho:w4.ownsRow W.drew.heap.size 20 1 (.slice p2 (q.ds.length+q.fs.length) c2) (q.ds.length+q.fs.length) (us ++ xs)) (hB4:Below W.drew.heap.size W.drew w4) (hs4:w2.heap.size≤w4.heap.size)=>
  put_rowp IH (l:=q.ds.map p0Data ++ q.fs.map p0Def) ho (by simp) (by omega) (fun i x hx'=>by
   have k4:=KP.of_below hB4 hTb.lt
   rcases Nat.lt_or_ge i q.ds.length with hi | hi
   ·rw [List.getElem?_append_left (by simpa using hi),List.getElem?_map,Option.map_eq_some_iff] at hx'
    obtain ⟨f,hf,rfl⟩:=hx'
    obtain ⟨ds,h1,h2⟩:=hv i f hf
    exact ⟨_,by rw [List.getElem?_append_left (by omega)];exact h1,ds,rfl,DtIn.keep k4 (fun b hb=>hb) f ds h2,hdb f (List.mem_of_getElem? hf)⟩
   ·rw [List.getElem?_append_right (by simpa using hi),List.length_map,List.getElem?_map,Option.map_eq_some_iff] at hx'
    obtain ⟨f,hf,rfl⟩:=hx'
    obtain ⟨ds,h1,h2⟩:=hx (i - q.ds.length) f hf
    refine ⟨_,by rw [List.getElem?_append_right (by omega),hul];exact h1,ds,rfl,?_,hsh f (List.mem_of_getElem? hf)⟩
    have k2:KP (fun b=>P b∨b=w1.heap.size) W.drew w2:=KP.of_below hB2 hTb.lt
    exact DfIn.keep (w:=w2) (w':=w4) ⟨k4.os.trans k2.os.symm,k4.tape.trans k2.tape.symm,k4.output.trans k2.output.symm,hs4,fun b hb=>(k4.block b hb).trans (k2.block b hb).symm⟩ (fun b hb=>hb) f ds h2)
   [pStr [123],pRow [59] (q.ds.map p0Data ++ q.fs.map p0Def),pStr [125]] [.iface 9 (.string (S [123])),.iface 216 (.agg #[.string (S [59]),.slice p2 (q.ds.length+q.fs.length) c2]),.iface 9 (.string (S [125]))] rfl
   (vg_cons (.inl ⟨rfl,by simp⟩) (vg_cons (.inr ⟨[59],by simp,rfl,rfl⟩) (vg_cons (.inl ⟨rfl,by simp⟩) vg_nil))) (by have:=prog_w q;omega) hlv hGb hTb hB4 3 rfl (by omega))
 have c0:=hH.cell 0;have c1:=hH.cell 1
 simp only [lGA,lGS,lGZ] at c0 c1
 have HS:Hid (∀ w',KP (fun b=>P b∨b=w1.heap.size) W.drew w'→(w'.cell? ⟨w1.heap.size,0,none⟩=some (.slice pd q.ds.length cd)∧w'.cell? ⟨w1.heap.size,1,none⟩=some (.slice pf q.fs.length cf))):=fun w' k=>⟨(k.cell (.inr rfl) _).trans c0,(k.cell (.inr rfl) _).trans c1⟩
 have hlP:Hid (∀ b,(fun b=>P b∨b=w1.heap.size) b→b<W.drew.heap.size):=hTb.lt
 have HKb:=zz hKb
 have hlw:w1.heap.size<W.heap.size:=by omega
 generalize hnf:q.fs.length=nf at *
 generalize hnd:q.ds.length=nd at *
 have HNF:=zz hnf
 have tn9:=ta_no9 38 (by decide)
 have tn88:=ta_no88 38 (by decide)
 have tn89:=ta_no89 38 (by decide)
 have tn22:=ta_no22 38 (by decide)
 have tn92:=ta_no92 38 (by decide)
 have tn95:=ta_no95 38 (by decide)
 have tn25:=ta_no25 38 (by decide)
 have tn44:=ta_no44 38 (by decide)
 have tn46:=ta_no46 38 (by decide)
 have tn47:=ta_no47 38 (by decide)
 have tn50:=ta_no50 38 (by decide)
 have tn33:=ta_no33 38 (by decide)
 have ty:=ta_yes37
 clear hM hG hJ' hst hs hJ hK hj0 hstep hp hw IH hT hG1 hRD hRF hRD2 hRF2 hB hKb hTb hTb0 hGb hH hsd hsf hdb hsh hnf hnd
 go_wp2_with fail
 rw [← hWW]
 clear hWW
 go_region_held3 (fun w'=>w'.cell? ⟨w1.heap.size,0,none⟩=some (.slice pd nd cd)∧w'.cell? ⟨w1.heap.size,1,none⟩=some (.slice pf nf cf)) (first | go_keep | (exact HS.out _ (KP.of_below HB4.out hlP.out)) | (exact HS.out _ (KP.of_below HB3.out hlP.out)) | (exact HS.out _ (KP.of_below HB.out hlP.out)) | (exact HS.out _ HK'.out)) (first | (go_at_call 211;refine HC.out.mono ?_;rintro e1 w2 ⟨p',c',us,rfl,ho,hB2,hv⟩;have HC2:=zz (HF.out w2 hB2);have HB:=zz hB2;have HO:=zz ho;have HV:=zz hv;clear ho hB2 hv) | (go_at_call 212;refine HC2.out.mono ?_;rintro e2 w3 ⟨p3,c3,xs,rfl,ho3,hB3,hx⟩;have HB3:=zz (HB.out.trans (hB3.mono HB.out.size));have HO3:=zz ho3;have HX:=zz hx;have HONE:=zz (iface_one (by have:=ho3.1;have:=HNF.out;omega) hx);have HB23:=zz hB3;clear ho3 hB3 hx) | (refine step_spread (by rfl) _ _ (by rfl) _ _ _ _ _ _ (by rfl) (row_keep HO.out fun g _ hg=>HB23.out.block g hg) _ _ _ _ (by rfl) HO3.out HONE.out (by omega) HB3.out.size ?_;intro p4 c4 w4 ho4 hg4;have HB4:=zz (HB3.out.trans (below_row (row_keep HO.out fun g _ hg=>HB23.out.block g hg) HB3.out.size hg4));have HC4:=zz (HP.out w2 w3 w4 p4 c4 us HB.out HV.out (by have:=HO.out.1;omega) xs HB23.out HX.out ho4 HB4.out (Nat.le_trans HB23.out.size hg4.size));clear ho4 hg4) | (go_at_call 168;refine HC4.out.mono ?_;rintro e' w' ⟨rfl,hT',hK'⟩;have HT':=zz hT';have HK':=zz hK';clear hT' hK'))
 go_wp2_with fail
 go_step3
 exact ⟨rfl,HJ.out _ _ rfl rfl rfl rfl rfl (by rw [← prog_is];exact HT'.out.weak fun b hb=>.inl hb) (HKb.out.trans (HK'.out.mono fun b hb=>.inl hb))⟩
theorem ptw_pos (x:Pt):1≤ptw x:=by
 rcases x with (s | s | s | l | e | e | l | s | f | d | d | p) | ⟨s,l⟩
 ·exact Nat.le_refl _
 ·exact Nat.le_refl _
 ·exact Nat.le_refl _
 ·show 1≤l.length+1;omega
 ·show 1≤tw e+3;omega
 ·show 1≤tw e;rw [tw_eq];omega
 ·show 1≤3+(l.map sw).sum;omega
 ·show 1≤sw s;rw [sw_eq];omega
 ·show 1≤5+(f.ar.map sw).sum;omega
 ·show 1≤6+d.ps.length+(d.fs.map fun f=>fmw f+1).sum;omega
 ·show 1≤3+tw d.bd;omega
 ·show 1≤4+(p.ds.map fun d=>dtw d+1).sum+(p.fs.map fun d=>dfw d+1).sum;omega
 ·show 1≤1+(l.map fun p=>p0w p+1).sum;omega
theorem ptw_le {ps:List Pt} {i:Nat} {x:Pt} (h:ps[i]?=some x):ptw x≤ptsw ps:=by
 induction ps generalizing i with
 | nil=>simp at h
 | cons a r ih=>
  have e:ptsw (a :: r)=ptw a+ptsw r:=by simp [ptsw]
  rw [e]
  cases i with
  | zero=>cases h;omega
  | succ i=>have:=ih (by simpa using h);omega
theorem round_anyP {n:Nat} (IH:∀ k,k<n→PutOK k) {P:Nat→Prop} {t:Nat} {st:St} {lv:Nat} {ps:List Pt} {p:Option Addr} {c:Nat} {w w1:World} {i:Nat} {a:Act} {o:List UInt8} {tg:Bool} {x:Pt} (hw:ptsw ps≤n) (hlv:lv≤30) (hG:GP P w) (hs:SlOK p ps.length c) (hM:AM (PV P w) P w p ps) (hJ:putJ P t st lv ps p c w i a w1) (hst:ptsA lv (ps.take i) st=some (o,tg)) (hp:ps[i]?=some x)
 (J:Act→World→Prop) (Q:Exit→Act→World→Prop) (hJ':∀ a' w',putJ P t st lv ps p c w (i+1) a' w'→J a' w'):(behindLabel Tryz.f168.body).wp Tryz.prog (Exit.jump 0 J Q) a w1:=by
 have h1:=ptw_pos x
 have h2:=ptw_le hp
 have IH:=IH (ptw x - 1) (by omega)
 have hw:ptw x≤ptw x - 1+1:=by omega
 rcases x with (s | s | s | l | e | e | l | s | f | d | d | q) | ⟨s,l⟩
 ·exact round_str IH hlv hG hs hM hJ hst s hp hw J Q hJ'
 ·exact round_opn IH hlv hG hs hM hJ hst s hp hw J Q hJ'
 ·exact round_cls IH hlv hG hs hM hJ hst s hp hw J Q hJ'
 ·exact round_strs IH hlv hG hs hM hJ hst l hp hw J Q hJ'
 ·exact round_atom IH hlv hG hs hM hJ hst e hp hw J Q hJ'
 ·exact round_expr IH hlv hG hs hM hJ hst e hp hw J Q hJ'
 ·exact round_sigs IH hlv hG hs hM hJ hst l hp hw J Q hJ'
 ·exact round_sig IH hlv hG hs hM hJ hst s hp hw J Q hJ'
 ·exact round_form IH hlv hG hs hM hJ hst f hp hw J Q hJ'
 ·exact round_data IH hlv hG hs hM hJ hst d hp hw J Q hJ'
 ·exact round_def IH hlv hG hs hM hJ hst d hp hw J Q hJ'
 ·exact round_prog IH hlv hG hs hM hJ hst q hp hw J Q hJ'
 ·exact round_row IH hlv hG hs hM hJ hst s l hp hw J Q hJ'
theorem round_stop {P:Nat→Prop} {t:Nat} {st:St} {lv:Nat} {ps:List Pt} {p:Option Addr} {c:Nat} {w w1:World} {i:Nat} {a:Act} (hn63:ps.length≤9223372036854775807) (hJ:putJ P t st lv ps p c w i a w1) (hst:ptsA lv (ps.take i) st=none∨i=ps.length)
 (J:Act→World→Prop) (Q:Exit→Act→World→Prop) (hQ:∀ a',a'.defers=[]→TX P t (ptsA lv ps st) lv w1→KP P w w1→Q .ret a' w1):(behindLabel Tryz.f168.body).wp Tryz.prog (Exit.jump 0 J Q) a w1:=by
 obtain ⟨T,rfl⟩:=putJ_lit hJ
 obtain ⟨hi,_,_,_,_,_,hT,hK⟩:=hJ
 obtain ⟨x4,c4,f4,c5,f5,hx4,htl⟩:=hT.level
 have hall:ptsA lv ps st=ptsA lv (ps.drop i) (ptsA lv (ps.take i) st):=by
  unfold ptsA;rw [← List.foldl_append,List.take_append_drop]
 have hT2:TX P t (ptsA lv ps st) lv w1:=by
  rcases hst with h | h
  ·rw [hall,h,ptsA_none];rw [h] at hT;exact hT
  ·rw [h,List.take_length] at hT;exact hT
 unfold behindLabel Tryz.f168
 dsimp only
 have HQ:=zz fun a' h=>hQ a' h hT2 hK
 generalize hm:ps.length=m at *
 cases hb:(ptsA lv (ps.take i) st == none)
 ·have him:i=m:=by
   rcases hst with h | h
   ·rw [h] at hb;cases hb
   ·exact h
  rw [hb] at c5
  have hii:(i:Int)=m:=by omega
  clear hQ hT2 hT hK hall hx4 hst hb
  subst him
  go_wp2_with fail
  exact HQ.out _ rfl
 ·rw [hb] at c5
  clear hQ hT2 hT hK hall hx4 hst hb
  go_wp2_with fail
  exact HQ.out _ rfl
theorem put_all (n:Nat):PutOK n:=by
 induction n using Nat.strongRecOn with
 | _ n ih=>
  intro P t st lv ps p c w hw hlv hs hM hG hT
  have hn63:ps.length≤9223372036854775807:=Nat.le_trans hs.1 hs.2.1
  have main:∀ (i:Nat) (a:Act) (w1:World) (J:Act→World→Prop) (Q:Exit→Act→World→Prop),putJ P t st lv ps p c w i a w1→(∀ a' w',putJ P t st lv ps p c w (i+1) a' w'→J a' w')→(∀ a',a'.defers=[]→TX P t (ptsA lv ps st) lv w1→KP P w w1→Q .ret a' w1)→(behindLabel Tryz.f168.body).wp Tryz.prog (Exit.jump 0 J Q) a w1:=by
   intro i a w1 J Q hJ hJ' hQ
   cases hst:ptsA lv (ps.take i) st with
   | none=>exact round_stop hn63 hJ (.inl hst) J Q hQ
   | some q=>
    rcases Nat.lt_or_ge i ps.length with hi | hi
    ·exact round_anyP ih hw hlv hG hs hM hJ (o:=q.1) (tg:=q.2) hst (x:=ps[i]) (by simp) J Q hJ'
    ·exact round_stop hn63 hJ (.inr (by have:=hJ.1;omega)) J Q hQ
  go_enter Tryz.func168,Tryz.ntmps168
  have hfin:∀ w1 a',a'.defers=[]→TX P t (ptsA lv ps st) lv w1→KP P w w1→bodyPost Tryz.prog Tryz.f168 (fun e w'=>e=.returned (.tuple #[])∧TX P t (ptsA lv ps st) lv w'∧KP P w w') .ret a' w1:=by
   intro w1 a' h1 h2 h3
   exact bodyPost_ret (v:=.tuple #[]) (results_none (by rfl) _ _ _) h1 ⟨rfl,h2,h3⟩
  refine wp_scope_jumps (rest:=Code.seq .skip (behindLabel Tryz.f168.body)) 0 (fun a' w'=>∃ i,putJ P t st lv ps p c w i a' w') (fun a' _=>ps.length - (intOf (a'.tmps.getD 4 undef)).toNat) rfl ?_ ?_
  ·go_wp2
   rename_i Q1 K1 hK1
   refine wp_label ?_
   refine hK1 _ _ ?_
   exact main 0 _ w _ _ ⟨Nat.zero_le _,rfl,rfl,rfl,rfl,rfl,hT,KP.refl _ _⟩ (fun a' w' h=>⟨1,h⟩) (hfin w)
  ·rintro a' w' ⟨i,hJ⟩
   refine wp_seq_k fun K hK=>?_
   refine wp_skip ?_
   refine hK _ _ ?_
   by_cases hi:i<ps.length
   ·refine main i a' w' _ _ hJ (fun a2 w2 h=>⟨⟨i+1,h⟩,?_⟩) (hfin w')
    rw [h.2.2.2.2.2.1,hJ.2.2.2.2.2.1]
    simp [intOf]
    omega
   ·exact round_stop hn63 hJ (.inr (by have:=hJ.1;omega)) _ _ (hfin w')
theorem cells5:Tryz.prog.cellsOf 5=1:=by kernel_rfl
theorem stringT {P:Nat→Prop} {t:Nat} {a0:Value} {pa:Option Addr} {ca:Nat} {o:List UInt8} {r:Int} {tg:Bool} {l:Int} {nn:Bool} {w:World} (h:TXs P t a0 pa ca o r tg l nn w) (h0:o≠[]) :
 Calls Tryz.prog 169 #[.pointer (some ⟨t,0,none⟩)] w fun e w'=>e=.returned (.string (S o))∧KP P w w':=by
 have hl0:o.length≠0:=by simpa using h0
 have hap:=h.apart
 obtain ⟨g,cap,cur,hv,hbg,hg,hnc,hcm,hcs,htake⟩:∃ g cap cur,(Value.slice pa o.length ca)=.slice (some ⟨g,0,none⟩) o.length cap∧0≤g∧w.heap[g]?=some (.cells cur 5 (0,0))∧o.length≤cap∧cap≤maxLen∧cur.size=cap * 1∧cur.toList.take (o.length * 1)=o.map cl:=by
  rcases h.own.2 with ⟨hv,hz⟩ | ⟨g,cap,cur,hv,r⟩
  ·exact absurd hz hl0
  ·exact ⟨g,cap,cur,hv,r⟩
 cases hv
 have c1:w.drew.cell? ⟨t,1,none⟩=some (.slice (some ⟨g,0,none⟩) o.length ca):=h.cells.2.1
 have hSD:(Builtin.unsafeSliceData_ #[42] 226 #[.slice (some ⟨g,0,none⟩) o.length ca]).run Tryz.prog w.drew=.ok (.pointer (some ⟨g,0,none⟩)) w.drew:=Lib.run_unsafeSliceData_row _ _ _ _ _ _ (by omega)
 have hUS:(Builtin.unsafeString_ #[226,3] 9 #[.pointer (some ⟨g,0,none⟩),.int .i64 o.length]).run Tryz.prog w.drew=.ok (.string (S o)) (w.drew.freeze ⟨g,0,none⟩ o.length):=by
  refine Lib.run_unsafeString_row w.drew 226 3 9 5 Tryz.underlying226 cells5 g cur.size (by have hg':w.drew.heap[g]?=some (.cells cur 5 (0,0)):=hg;simp [World.shape?,hg']) o h0 (by omega) (by have:=h.room;omega) ?_
  intro j x hx
  have hadd:(⟨g,0,none⟩:Addr).add j=⟨g,j,none⟩:=by unfold Addr.add;split <;> simp_all
  rw [hadd]
  exact row_cell h.own (j:=j) (v:=cl x) (by rw [List.getElem?_map,hx];rfl)
 have HF:Hid (KP P w (w.drew.freeze ⟨g,0,none⟩ o.length)):=by
  have hb:=Lib.below_freeze (Below.drew (Below.refl g w)) (p:=⟨g,0,none⟩) (Nat.le_refl g) o.length
  refine ⟨hb.os,hb.tape,hb.output,hb.size,fun b hP=>?_⟩
  have hne:b≠g:=fun e=>(hap b hP).2.2 (by rw [e];rfl)
  show (w.drew.freeze ⟨g,0,none⟩ o.length).heap[b]?=_
  unfold World.freeze
  rw [if_neg hl0]
  show (w.heap.modify g _)[b]?=_
  rw [Array.getElem?_modify,if_neg (Ne.symm hne)]
 clear hap h hg htake hbg hcs
 go_enter Tryz.func169,Tryz.ntmps169
 go_wp2
 go_region
 all_goals (go_wp2;go_ret;exact ⟨rfl,HF.out⟩)
theorem TX.born (w:World):TX (fun b=>b<w.heap.size) w.heap.size (some ([],true)) 0 (w.alloc (.cells #[.pointer none,.slice none 0 0,.int .i64 2147483647,.bool true,.int .i64 0,.bool false] 186)):=
 ⟨.pointer none,none,0,[],2147483647,true,0,false,⟨Hold.new w _ 186,World.ownsRow_nil _ _ _ _,.inl rfl,by simp,fun b hb=>⟨by simp;omega,by omega,by simp [Value.ownBlock]⟩⟩,rfl,rfl,rfl,rfl,rfl⟩
def told:St→Value
 | some (o,_)=>.tuple #[.string (S o),.bool true]
 | none=>.tuple #[.string ⟨#[]⟩,.bool false]
theorem tellT {w:World} {x:Pt} {ty:TypeId} {y:Value} (hG:GP (fun b=>b<w.heap.size) w) (hv:PV (fun b=>b<w.heap.size) w x (.iface ty y)) (h0:∀ tg,ptA 0 x (some ([],true))≠some ([],tg)) :
 Calls Tryz.prog 110 #[.int .i64 2147483647,.iface ty y] w fun e w'=>e=.returned (told (ptA 0 x (some ([],true))))∧Below w.heap.size w w':=by
 have hT:=TX.born w
 have hB:Below w.heap.size w (w.alloc (.cells #[.pointer none,.slice none 0 0,.int .i64 2147483647,.bool true,.int .i64 0,.bool false] 186)):=(Below.refl _ w).alloc (Nat.le_refl _) _
 have hK:=KP.of_below (P:=fun b=>b<w.heap.size) hB fun b hb=>hb
 have H1:=zz (put_new (put_all (ptw x)) [x] [.iface ty y] rfl (vs_cons (PV.keep hK (fun b hb=>hb) x _ hv) vs_nil) (by simp [ptsw]) (by omega) (hG.keep hK fun b hb=>hb) hT (Below.refl _ _) (w.heap.size+1) 1 (by simp) rfl (by omega))
 have HB:=zz hB
 clear hT hB hK hv hG
 go_enter Tryz.func110,Tryz.ntmps110
 go_wp2_with fail
 refine H1.out.mono ?_
 rintro e' w' ⟨rfl,hT',hK'⟩
 obtain ⟨x4,d4,g4,d5,g5,hx4,htl⟩:=hT'.level
 have HK':=zz hK'
 rw [ptsA_one] at hT' d5
 have HT':=zz hT'
 generalize hst:ptA 0 x (some ([],true))=st at *
 have HST:=zz hst
 clear hst
 cases st with
 | none=>
  have d5:w'.cell? ⟨w.heap.size,5,none⟩=some (.bool true):=d5
  clear hT' hK' hx4 d4 g4 g5
  go_wp2_with fail
  go_ret2
  exact ⟨by rw [HST.out];rfl,HB.out.trans (HK'.out.below fun b hb=>hb)⟩
 | some q=>
  obtain ⟨o,tg⟩:=q
  have d5:w'.cell? ⟨w.heap.size,5,none⟩=some (.bool false):=d5
  obtain ⟨a0,pa,ca,o1,r,tg1,l,nn,hTs,rfl,rfl,rfl,rfl,rfl⟩:=hT'
  have HS:=zz (stringT hTs (fun h=>h0 tg1 (by rw [h])))
  clear hK' hx4 d4 g4 g5 hTs
  go_wp2_with fail
  refine HS.out.mono ?_
  rintro e2 w2 ⟨rfl,hK2⟩
  have HK2:=zz hK2
  clear hK2
  go_wp2_with fail
  go_ret2
  exact ⟨by rw [HST.out];rfl,HB.out.trans ((HK'.out.trans HK2.out).below fun b hb=>hb)⟩
def wholeV:St→Value
 | some (o,_)=>.tuple #[.string (S o),.int .i64 0]
 | none=>.tuple #[.string ⟨#[]⟩,.int .i64 40]
theorem whole_no {w:World} {v:Value}:Calls Tryz.prog 53 #[.bool false,v] w fun e w'=>e=.returned (wholeV none)∧w'=w:=by
 go_enter Tryz.func53,Tryz.ntmps53
 go_wp2_with fail
 go_ret2
 exact ⟨rfl,rfl⟩
theorem wholeT {w:World} {x:Pt} {ty:TypeId} {y:Value} (hG:GP (fun b=>b<w.heap.size) w) (hv:PV (fun b=>b<w.heap.size) w x (.iface ty y)) (h0:∀ tg,ptA 0 x (some ([],true))≠some ([],tg)) :
 Calls Tryz.prog 53 #[.bool true,.iface ty y] w fun e w'=>e=.returned (wholeV (ptA 0 x (some ([],true))))∧Below w.heap.size w w':=by
 have HC:=zz (tellT hG hv h0)
 clear hG hv h0
 generalize ptA 0 x (some ([],true))=st at *
 cases st with
 | none=>
  go_enter Tryz.func53,Tryz.ntmps53
  go_wp2_with fail
  refine HC.out.mono ?_
  rintro e w1 ⟨rfl,hB⟩
  have HB:=zz hB
  clear hB HC
  unfold told
  go_wp2_with fail
  go_ret2
  exact ⟨rfl,HB.out⟩
 | some q=>
  obtain ⟨o,tg⟩:=q
  go_enter Tryz.func53,Tryz.ntmps53
  go_wp2_with fail
  refine HC.out.mono ?_
  rintro e w1 ⟨rfl,hB⟩
  have HB:=zz hB
  clear hB HC
  unfold told
  go_wp2_with fail
  go_ret2
  exact ⟨rfl,HB.out⟩
end Go.Proofs.YtcnnlecjdkfdjaaGreatDoor
