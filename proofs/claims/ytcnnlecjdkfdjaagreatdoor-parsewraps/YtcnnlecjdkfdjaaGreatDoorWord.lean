/- Parts of the proof. -/
import Derived.Test.YtcnnlecjdkfdjaaGreatDoorLyBd
set_option linter.unusedVariables false
set_option linter.unusedSimpArgs false
set_option maxRecDepth 100000
set_option maxHeartbeats 8000000
namespace Go.Proofs.YtcnnlecjdkfdjaaGreatDoor
open Go.RowKit
def tkOf (t:Ly.Tok):Tk:=⟨t.kd,t.tx,t.nu,t.ln,t.co⟩
theorem km_of {w:World} {p:Option Addr} {ts:List Ly.Tok} {n:Nat} (h:Ly.TMem w p ts) (hk:∀ t ∈ ts,Ly.OkT n t) (hn:n≤281474976710656):KM (fun b=>b<w.heap.size) w p (ts.map tkOf):=by
 rcases h with rfl | ⟨b,o,rfl,hb,hm⟩
 ·exact .inl rfl
 ·refine .inr ⟨b,o,rfl,hb,fun i x hx=>?_⟩
  rw [List.getElem?_map] at hx
  cases ht:ts[i]? with
  | none=>rw [ht] at hx;cases hx
  | some t=>
   rw [ht] at hx
   cases hx
   obtain ⟨c0,c1,c2,c3,c4⟩:=hm i t ht
   obtain ⟨k1,k2,k3⟩:=hk t (List.mem_of_getElem? ht)
   refine ⟨tkC (tkOf t),rfl,fun j d hj=>?_,rfl,Nat.le_trans k1 hn,Int.le_trans (by decide) k2,k3⟩
   match j,hj with
   | 0,hj=>cases hj;exact c0
   | 1,hj=>cases hj;exact c1
   | 2,hj=>cases hj;exact c2
   | 3,hj=>cases hj;exact c3
   | 4,hj=>cases hj;exact c4
def toksOf (src:List UInt8):List Tk:=(Ly.layM (Ly.lexM src).1).1.map tkOf
theorem toks_ok (src:List UInt8):∀ t ∈ (Ly.layM (Ly.lexM src).1).1,Ly.OkT (src.length+1) t:=by
 refine Ly.lay_ok (K:=Ly.OkT (src.length+1)) (Ly.lexM src).1 fun t ht=>⟨?_,fun c=>⟨by show 1≤_;omega,Int.le_refl _,by show (0:Int)≤_;decide⟩⟩
 have:=Ly.lex_ok src t ht
 exact ⟨Nat.le_succ_of_le this.1,this.2⟩
theorem toks_len (src:List UInt8):(toksOf src).length≤8004:=by
 unfold toksOf
 rw [List.length_map]
 have h1:=Ly.lay_len (Ly.lexM src).1
 have h2:=Ly.lex_len src
 omega
def textOut (src:List UInt8):Pg × (Int × Int) × Int:=if Ly.ern src=0 then (if (Ly.layM (Ly.lexM src).1).2.2=0 then progOut (toksOf src) else (⟨[],[]⟩,(Ly.layM (Ly.lexM src).1).2)) else (⟨[],[]⟩,Ly.plc src,Ly.ern src)
theorem tmem_place {w:World} {p:Option Addr} {l:List Ly.Tok} {b:Nat} {x y:Int} {t:TypeId} (h:Ly.TMem w p l) (hb:Hold b #[.int .i64 x,.int .i64 y] t w) (i:Nat) (v:Value):Ly.TMem (w.setCell ⟨b,i,none⟩ v) p l:=by
 cases l with
 | nil=>exact .inl rfl
 | cons t0 r=>
  rcases h with h | ⟨g,o,rfl,hg,hc⟩
  ·cases h
  ·have hne:g≠b:=by
    rintro rfl
    have h1:=(hc 0 t0 rfl).2.1
    rw [hb.cell] at h1
    match o with
    | 0=>simp at h1
    | 1=>simp at h1
    | o+2=>simp at h1
   have e:∀ j,(w.setCell ⟨b,i,none⟩ v).cell? ⟨g,j,none⟩=w.cell? ⟨g,j,none⟩:=fun j=>World.cell?_of_block (Below.heap_setCell _ _ _ g hne)
   exact .inr ⟨g,o,rfl,by simpa using hg,fun k t ht=>by rw [e,e,e,e,e];exact hc k t ht⟩
theorem ptext_any {w:World} {p:Option Addr} {m c:Nat} {src:List UInt8} (hl:src.length=m) (hm:m≤2147480000) (hmc:m≤c) (hM:Ly.Mem w p src) (hp:p=none→c=0) (hg:Ly.Glob w) :
 Calls Tryz.prog 17 #[.slice p m c] w fun r w'=>∃ pd cd pf cf,r=.returned (.tuple #[.agg #[.slice pd (textOut src).1.ds.length cd,.slice pf (textOut src).1.fs.length cf],.agg #[.int .i64 (textOut src).2.1.1,.int .i64 (textOut src).2.1.2],.int .i64 (textOut src).2.2])∧PgIn2 (QU w') (fun b=>b<w'.heap.size∧w.heap.size≤b) w' (textOut src).1 [.slice pd (textOut src).1.ds.length cd,.slice pf (textOut src).1.fs.length cf]∧Below w.heap.size w w':=by
 obtain ⟨W1,hW1⟩:∃ W1,W1=(w.alloc (.cells #[.slice none 0 0,.slice none 0 0] 38)).alloc (.cells #[.int .i64 0,.int .i64 0] 29):=⟨_,rfl⟩
 have hB1:Below w.heap.size w W1:=by rw [hW1];exact ((Below.refl _ w).alloc (Nat.le_refl _) _).alloc (by simp) _
 have hs1:W1.heap.size=w.heap.size+2:=by rw [hW1];simp
 have hR:Hold w.heap.size #[.slice none 0 0,.slice none 0 0] 38 W1:=by rw [hW1];exact (Hold.new w _ 38).alloc _
 have hQ:Hold (w.heap.size+1) #[.int .i64 0,.int .i64 0] 29 W1:=by rw [hW1];have:=Hold.new (w.alloc (.cells #[.slice none 0 0,.slice none 0 0] 38)) #[.int .i64 0,.int .i64 0] 29;simpa using this
 have hM1:=hM.below (Nat.le_refl _) hB1
 have hg1:=hg.below (Nat.le_refl _) hB1
 have hlex:=Ly.lex_told p m c src W1 hl (by omega) hmc hM1 hp hg1
 have hEX:textOut src=if Ly.ern src=0 then (if (Ly.layM (Ly.lexM src).1).2.2=0 then progOut (toksOf src) else (⟨[],[]⟩,(Ly.layM (Ly.lexM src).1).2)) else (⟨[],[]⟩,Ly.plc src,Ly.ern src):=rfl
 have HEX:=zz hEX
 have HLEX:=zz hlex
 have HB1:=zz hB1
 have HR:=zz hR
 have HQ:=zz hQ
 have hlen:=Ly.lex_len src
 clear hEX hlex hB1 hR hQ hM1 hg1 hM hg
 subst hW1
 generalize textOut src=E at *
 go_enter Tryz.func17,Tryz.ntmps17
 go_wp2_with fail
 refine HLEX.out.mono ?_
 rintro r w2 ⟨pa,cp,rfl,hT,hcp,hb2⟩
 have hs2:=hb2.size
 have HR2:=zz (HR.out.below hb2 HR.out.lt)
 have HQ2:=zz (HQ.out.below hb2 HQ.out.lt)
 have HB2:=zz (HB1.out.trans (hb2.mono HB1.out.size))
 clear hb2 HR HQ HB1 HLEX
 by_cases h0:Ly.ern src=0
 ·have HEE:=zz (HEX.out.trans (if_pos h0))
  rw [h0]
  clear HEX
  go_wp2_with fail
  obtain ⟨W3,hW3⟩:∃ W3,W3=w2.alloc (.cells #[.int .i64 (Ly.plc src).1,.int .i64 (Ly.plc src).2] 29):=⟨_,rfl⟩
  have HR3:=zz (show Hold w.heap.size #[.slice none 0 0,.slice none 0 0] 38 W3 from by rw [hW3];exact HR2.out.alloc _)
  have HQ3:=zz (show Hold (w.heap.size+1) #[.int .i64 0,.int .i64 0] 29 W3 from by rw [hW3];exact HQ2.out.alloc _)
  have HP3:=zz (show Hold w2.heap.size #[.int .i64 (Ly.plc src).1,.int .i64 (Ly.plc src).2] 29 W3 from by rw [hW3];exact Hold.new w2 _ 29)
  have HB3:=zz (show Below w.heap.size w W3 from by rw [hW3];exact HB2.out.alloc HB2.out.size _)
  have hs3:W3.heap.size=w2.heap.size+1:=by rw [hW3];simp
  rw [← hW3]
  have hT3:Ly.TMem W3 pa (Ly.lexM src).1:=by rw [hW3];exact hT.below (Nat.le_refl _) ((Below.refl _ w2).alloc (Nat.le_refl _) _)
  refine (Ly.lay_any pa _ cp _ W3 rfl (by omega) hcp hT3).mono ?_
  rintro r w4 ⟨pb,cb,rfl,hTb,hb4⟩
  have hs4:=hb4.size
  have HR4:=zz (HR3.out.below hb4 HR3.out.lt)
  have HQ4:=zz (HQ3.out.below hb4 HQ3.out.lt)
  have HP4:=zz (HP3.out.below hb4 HP3.out.lt)
  have HB4:=zz (HB3.out.trans (hb4.mono HB3.out.size))
  have hln:=toks_len src
  have hTK:=toks_ok src
  have hE2:toksOf src=(Ly.layM (Ly.lexM src).1).1.map tkOf:=rfl
  clear hb4 HR3 HQ3 HP3 HB3 hT3 hW3 HR2 HQ2 HB2 hT
  generalize Ly.layM (Ly.lexM src).1=z at *
  obtain ⟨zl,⟨z1,z2⟩,ze⟩:=z
  simp only at hTb hTK hE2 HEE ⊢
  have n1:w2.heap.size≠w.heap.size:=by omega
  have n2:w2.heap.size≠w.heap.size+1:=by omega
  obtain ⟨W5,hW5⟩:∃ W5,W5=(w4.setCell ⟨w2.heap.size,0,none⟩ (.int .i64 z1)).setCell ⟨w2.heap.size,1,none⟩ (.int .i64 z2):=⟨_,rfl⟩
  have HP5:=zz (show Hold w2.heap.size #[.int .i64 z1,.int .i64 z2] 29 W5 from by rw [hW5];exact (HP4.out.set 0 (.int .i64 z1)).set 1 (.int .i64 z2))
  have HR5:=zz (show Hold w.heap.size #[.slice none 0 0,.slice none 0 0] 38 W5 from by rw [hW5];exact (HR4.out.other n1.symm 0 _).other n1.symm 1 _)
  have HQ5:=zz (show Hold (w.heap.size+1) #[.int .i64 0,.int .i64 0] 29 W5 from by rw [hW5];exact (HQ4.out.other n2.symm 0 _).other n2.symm 1 _)
  have HB5:=zz (show Below w.heap.size w W5 from by rw [hW5];exact (HB4.out.setCell (by show w.heap.size≤w2.heap.size;omega) _).setCell (by show w.heap.size≤w2.heap.size;omega) _)
  have HT5:=zz (show Ly.TMem W5 pb zl from by rw [hW5];exact tmem_place (tmem_place hTb HP4.out 0 _) (HP4.out.set 0 (.int .i64 z1)) 1 _)
  have p0:=HP4.out.cell 0
  have p1:=HP4.out.cell 1
  have q0:=HP4.out.frozen 0
  have q1:=HP4.out.frozen 1
  simp only [lGA,lGS,lGZ] at p0 p1
  by_cases h1:ze=0
  ·have HE1:=zz (HEE.out.trans (if_pos h1))
   obtain rfl:=h1
   clear HEE
   go_wp2_with fail
   rw [← hW5]
   clear hW5 p0 p1 q0 q1 hTb HP4 HR4 HQ4 HB4
   refine (pprog_any (P:=fun b=>b<W5.heap.size) (l:=toksOf src) (n:=zl.length) (fun b hb=>hb) (by rw [hE2,List.length_map]) (hE2 ▸ km_of HT5.out hTK (by omega)) (by rw [hE2,List.length_map] at hln;omega)).mono ?_
   rw [← HE1.out]
   rintro r w6 ⟨pd,cd,pf,cf,rfl,hE6,hb6⟩
   have HR6:=zz (HR5.out.below hb6 HR5.out.lt)
   have HQ6:=zz (HQ5.out.below hb6 HQ5.out.lt)
   have HB6:=zz (HB5.out.trans (hb6.mono HB5.out.size))
   have hs6:=hb6.size
   have hs5:=HQ5.out.lt
   have HE6:=zz hE6
   clear hb6 hE6 HP5 HR5 HQ5 HB5 HT5
   have a0:=HR6.out.cell 0
   have a1:=HR6.out.cell 1
   have d0:=HQ6.out.cell 0
   have d1:=HQ6.out.cell 1
   have f0:=HR6.out.frozen 0
   have f1:=HR6.out.frozen 1
   have g0:=HQ6.out.frozen 0
   have g1:=HQ6.out.frozen 1
   simp only [lGA,lGS,lGZ] at a0 a1 d0 d1
   go_wp2_with fail
   obtain ⟨x0,x1,x2,x3,qB,qK⟩:=put4_hold (.slice pd E.1.ds.length cd) (.slice pf E.1.fs.length cf) (.int .i64 E.2.1.1) (.int .i64 E.2.1.2) rfl rfl HR6.out HQ6.out HB6.out
   have hun:∀ b,QU w6 b→b≠w.heap.size∧b≠w.heap.size+1:=fun b hb=>by
    obtain ⟨h1,cs,t,h2,h3,h4⟩:=hb
    refine ⟨fun e=>?_,fun e=>?_⟩
    ·have h5:=HR6.out
     unfold Hold at h5
     rw [← e,h2] at h5
     cases h5
     exact h4 rfl
    ·have h5:=HQ6.out
     unfold Hold at h5
     rw [← e,h2] at h5
     cases h5
     exact h3 rfl
   have hin:=PgIn2.mono2 (Q:=QU w6) (Q':=QU (put4 w6 w.heap.size (.slice pd E.1.ds.length cd) (.slice pf E.1.fs.length cf) (.int .i64 E.2.1.1) (.int .i64 E.2.1.2))) (P':=fun b=>b<(put4 w6 w.heap.size (.slice pd E.1.ds.length cd) (.slice pf E.1.fs.length cf) (.int .i64 E.2.1.1) (.int .i64 E.2.1.2)).heap.size∧w.heap.size≤b) (qK.mono fun b hb=>hun b hb) (qK.mono fun b hb=>⟨by have:=hb.2;omega,by have:=hb.2;omega⟩) (fun b hb=>hb.keep qK.size (qK.block b (hun b hb))) (fun b hb=>⟨Nat.lt_of_lt_of_le hb.1 qK.size,by have:=hb.2;omega⟩) _ _ HE6.out
   unfold put4 at x0 x1 x2 x3 qB qK hin
   exact bodyPost_ret (v:=.tuple #[.agg #[.slice pd E.1.ds.length cd,.slice pf E.1.fs.length cf],.agg #[.int .i64 E.2.1.1,.int .i64 E.2.1.2],.int .i64 E.2.2]) (by simp only [results,Tryz.results17];go_simp) rfl ⟨pd,cd,pf,cf,rfl,hin,qB⟩
  ·obtain rfl:E=(⟨[],[]⟩,(z1,z2),ze):=HEE.out.trans (if_neg h1)
   have hn:(ze != 0)=true:=by simpa using h1
   clear HEE
   go_wp2_with fail
   rw [← hW5]
   clear hW5 p0 p1 q0 q1 hTb HP4 HR4 HQ4 HB4
   have a0:=HR5.out.cell 0
   have a1:=HR5.out.cell 1
   have d0:=HQ5.out.cell 0
   have d1:=HQ5.out.cell 1
   have e0:=HP5.out.cell 0
   have e1:=HP5.out.cell 1
   have f0:=HR5.out.frozen 0
   have f1:=HR5.out.frozen 1
   have g0:=HQ5.out.frozen 0
   have g1:=HQ5.out.frozen 1
   simp only [lGA,lGS,lGZ] at a0 a1 d0 d1 e0 e1
   go_region
   all_goals go_wp2_with fail
   all_goals
    obtain ⟨x0,x1,x2,x3,qB,qK⟩:=put4_hold (.slice none 0 0) (.slice none 0 0) (.int .i64 z1) (.int .i64 z2) rfl rfl HR5.out HQ5.out HB5.out
    unfold put4 at x0 x1 x2 x3 qB qK
    exact bodyPost_ret (v:=.tuple #[.agg #[.slice none 0 0,.slice none 0 0],.agg #[.int .i64 z1,.int .i64 z2],.int .i64 ze]) (by simp only [results,Tryz.results17];go_simp) rfl ⟨none,0,none,0,rfl,pg0_in _ _ _,qB.drew⟩
 ·obtain rfl:E=(⟨[],[]⟩,Ly.plc src,Ly.ern src):=HEX.out.trans (if_neg h0)
  have hn:(Ly.ern src != 0)=true:=by simpa using h0
  clear HEX
  go_wp2_with fail
  obtain ⟨W3,hW3⟩:∃ W3,W3=w2.alloc (.cells #[.int .i64 (Ly.plc src).1,.int .i64 (Ly.plc src).2] 29):=⟨_,rfl⟩
  have HR3:=zz (show Hold w.heap.size #[.slice none 0 0,.slice none 0 0] 38 W3 from by rw [hW3];exact HR2.out.alloc _)
  have HQ3:=zz (show Hold (w.heap.size+1) #[.int .i64 0,.int .i64 0] 29 W3 from by rw [hW3];exact HQ2.out.alloc _)
  have HP3:=zz (show Hold w2.heap.size #[.int .i64 (Ly.plc src).1,.int .i64 (Ly.plc src).2] 29 W3 from by rw [hW3];exact Hold.new w2 _ 29)
  have HB3:=zz (show Below w.heap.size w W3 from by rw [hW3];exact HB2.out.alloc HB2.out.size _)
  have hs3:W3.heap.size=w2.heap.size+1:=by rw [hW3];simp
  rw [← hW3]
  have a0:=HR3.out.cell 0
  have a1:=HR3.out.cell 1
  have d0:=HQ3.out.cell 0
  have d1:=HQ3.out.cell 1
  have e0:=HP3.out.cell 0
  have e1:=HP3.out.cell 1
  have f0:=HR3.out.frozen 0
  have f1:=HR3.out.frozen 1
  have g0:=HQ3.out.frozen 0
  have g1:=HQ3.out.frozen 1
  simp only [lGA,lGS,lGZ] at a0 a1 d0 d1 e0 e1
  clear hW3
  go_region
  all_goals go_wp2_with fail
  all_goals
   obtain ⟨x0,x1,x2,x3,qB,qK⟩:=put4_hold (.slice none 0 0) (.slice none 0 0) (.int .i64 (Ly.plc src).1) (.int .i64 (Ly.plc src).2) rfl rfl HR3.out HQ3.out HB3.out
   unfold put4 at x0 x1 x2 x3 qB qK
   exact bodyPost_ret (v:=.tuple #[.agg #[.slice none 0 0,.slice none 0 0],.agg #[.int .i64 (Ly.plc src).1,.int .i64 (Ly.plc src).2],.int .i64 (Ly.ern src)]) (by simp only [results,Tryz.results17];go_simp) rfl ⟨none,0,none,0,rfl,pg0_in _ _ _,qB.drew⟩
structure TXs (P:Nat→Prop) (t:Nat) (a0:Value) (pa:Option Addr) (ca:Nat) (o:List UInt8) (r:Int) (tg:Bool) (l:Int) (nn:Bool) (w:World):Prop where
 hold:Hold t #[a0,.slice pa o.length ca,.int .i64 r,.bool tg,.int .i64 l,.bool nn] 186 w
 own:w.ownsRow 0 5 1 (.slice pa o.length ca) o.length (o.map cl)
 self:a0=.pointer none∨a0=.pointer (some ⟨t,0,none⟩)
 room:o.length≤2147483647
 apart:∀ b,P b→b<w.heap.size∧b≠t∧some b≠(Value.slice pa o.length ca).ownBlock
def TX (P:Nat→Prop) (t:Nat) (st:St) (lv:Nat) (w:World):Prop:=∃ a0 pa ca o r tg l nn,TXs P t a0 pa ca o r tg l nn w∧match st with
 | some (o',tg')=>o=o'∧tg=tg'∧r=2147483647 - o.length∧l=lv∧nn=false
 | none=>nn=true
theorem TXs.cells {P:Nat→Prop} {t:Nat} {a0:Value} {pa:Option Addr} {ca:Nat} {o:List UInt8} {r:Int} {tg:Bool} {l:Int} {nn:Bool} {w:World} (h:TXs P t a0 pa ca o r tg l nn w) :
 w.cell? ⟨t,0,none⟩=some a0∧w.cell? ⟨t,1,none⟩=some (.slice pa o.length ca)∧w.cell? ⟨t,2,none⟩=some (.int .i64 r)∧w.cell? ⟨t,3,none⟩=some (.bool tg)∧w.cell? ⟨t,4,none⟩=some (.int .i64 l)∧w.cell? ⟨t,5,none⟩=some (.bool nn):=
 ⟨h.hold.cell 0,h.hold.cell 1,h.hold.cell 2,h.hold.cell 3,h.hold.cell 4,h.hold.cell 5⟩
theorem TXs.not {P:Nat→Prop} {t:Nat} {a0:Value} {pa:Option Addr} {ca:Nat} {o:List UInt8} {r:Int} {tg:Bool} {l:Int} {nn:Bool} {w:World} (h:TXs P t a0 pa ca o r tg l nn w):¬ P t:=fun hp=>(h.apart t hp).2.1 rfl
theorem TXs.set {P:Nat→Prop} {t:Nat} {a0:Value} {pa:Option Addr} {ca:Nat} {o:List UInt8} {r:Int} {tg:Bool} {l:Int} {nn:Bool} {w:World} (h:TXs P t a0 pa ca o r tg l nn w) {a0':Value} {r':Int} {tg':Bool} {l':Int} {nn':Bool} (i:Nat) (v:Value)
 (e:(#[a0,.slice pa o.length ca,.int .i64 r,.bool tg,.int .i64 l,.bool nn]:Array Value).setIfInBounds i v=#[a0',.slice pa o.length ca,.int .i64 r',.bool tg',.int .i64 l',.bool nn']) (hs:a0'=.pointer none∨a0'=.pointer (some ⟨t,0,none⟩)) :
 TXs P t a0' pa ca o r' tg' l' nn' (w.setCell ⟨t,i,none⟩ v)∧KP P w (w.setCell ⟨t,i,none⟩ v):=by
 refine ⟨⟨?_,row_other h.own h.hold (by decide) i v,hs,h.room,fun b hb=>?_⟩,KP.setCell _ _ _ _ h.not⟩
 ·have:=h.hold.set i v;rw [e] at this;exact this
 ·obtain ⟨h1,h2,h3⟩:=h.apart b hb
  exact ⟨by simpa using h1,h2,h3⟩
theorem TXs.room' {P:Nat→Prop} {t:Nat} {a0:Value} {pa:Option Addr} {ca:Nat} {o:List UInt8} {r:Int} {tg:Bool} {l:Int} {nn:Bool} {w:World} (h:TXs P t a0 pa ca o r tg l nn w) (r':Int):TXs P t a0 pa ca o r' tg l nn (w.setCell ⟨t,2,none⟩ (.int .i64 r'))∧KP P w (w.setCell ⟨t,2,none⟩ (.int .i64 r')):=h.set 2 _ rfl h.self
theorem TXs.tight' {P:Nat→Prop} {t:Nat} {a0:Value} {pa:Option Addr} {ca:Nat} {o:List UInt8} {r:Int} {tg:Bool} {l:Int} {nn:Bool} {w:World} (h:TXs P t a0 pa ca o r tg l nn w) (r':Bool):TXs P t a0 pa ca o r r' l nn (w.setCell ⟨t,3,none⟩ (.bool r'))∧KP P w (w.setCell ⟨t,3,none⟩ (.bool r')):=h.set 3 _ rfl h.self
theorem TXs.level' {P:Nat→Prop} {t:Nat} {a0:Value} {pa:Option Addr} {ca:Nat} {o:List UInt8} {r:Int} {tg:Bool} {l:Int} {nn:Bool} {w:World} (h:TXs P t a0 pa ca o r tg l nn w) (r':Int):TXs P t a0 pa ca o r tg r' nn (w.setCell ⟨t,4,none⟩ (.int .i64 r'))∧KP P w (w.setCell ⟨t,4,none⟩ (.int .i64 r')):=h.set 4 _ rfl h.self
theorem TXs.none' {P:Nat→Prop} {t:Nat} {a0:Value} {pa:Option Addr} {ca:Nat} {o:List UInt8} {r:Int} {tg:Bool} {l:Int} {nn:Bool} {w:World} (h:TXs P t a0 pa ca o r tg l nn w) (r':Bool):TXs P t a0 pa ca o r tg l r' (w.setCell ⟨t,5,none⟩ (.bool r'))∧KP P w (w.setCell ⟨t,5,none⟩ (.bool r')):=h.set 5 _ rfl h.self
theorem append_str_at (w:World) (t u ty e:TypeId) (i:TypeInfo) (ht:Tryz.prog.underlying t=some (.slice e)) (hu:Tryz.prog.underlying u=some .string) (hi:Tryz.prog.info? e=some i) (hz:i.zero=some (.int .u8 0))
 (hsize:i.size=1) (hby:i.bytes=1) (v:Value) (n:Nat) (xs:List Value) (hown:w.ownsRow 0 e 1 v n xs) (s:ByteArray) (hb:n+s.size≤2147483648) :
 ∃ v' w',(Builtin.append_ #[t,u] ty #[v,.string s]).run Tryz.prog w=.ok v' w'∧w'.ownsRow 0 e 1 v' (n+s.size) (xs ++ Lib.strCells s)∧w.grownBy w' v.ownBlock∧(v'.ownBlock=none∨v'.ownBlock=v.ownBlock∨v'.ownBlock=some w.heap.size):=by
 obtain ⟨v',w',hr,h1,h2,h3⟩:=Lib.run_append_own_string (P:=Tryz.prog) w 0 t u ty e i ht hu hi hz hsize hby v n xs hown s (by unfold maxLen;omega) (by omega) (Nat.zero_le _)
 refine ⟨v',w',hr,h1,h2,?_⟩
 have hxl:xs.length=n:=by simpa using hown.1
 rcases hown.2 with ⟨rfl,rfl⟩ | ⟨g,cap,cur,rfl,hbg,hg,hnc,hcm,hcs,htake⟩
 ·by_cases hm:s.size=0
  ·rw [h3.2 ⟨rfl,hm⟩];exact .inl rfl
  ·have hr2:=run_append_nil_string (P:=Tryz.prog) w t u ty e i (.int .u8 0) ht hu hi hz s (by omega) (by omega) (by rw [hby];omega)
   rw [hr2] at hr
   cases hr
   exact .inr (.inr rfl)
 ·by_cases hroom:n+s.size≤cap
  ·have hcs':cur.size=cap:=by simpa using hcs
   have hr2:=Lib.run_append_room_string (P:=Tryz.prog) w t u ty e i ht hu hi hsize g n cap cur hg s hroom (by omega)
   rw [hr2] at hr
   cases hr
   exact .inr (.inl rfl)
  ·have holds:∀ j u,xs[j]?=some u→w.cell? ((⟨g,0,none⟩:Addr).add j)=some u:=hown.cells (g:=g) rfl
   have hr2:=Lib.run_append_grow_string (P:=Tryz.prog) w t u ty e i (.int .u8 0) ht hu hi hz ⟨g,0,none⟩ n cap xs (by rw [hsize];simpa using hxl) holds s (by omega) (by omega) (by rw [hby];exact growslice_fits (by omega) (by omega))
   rw [hr2] at hr
   cases hr
   exact .inr (.inr rfl)
theorem wpList_append_str_at {w:World} {ops:Array Oper} {rest:List Oper} {o:Oper} {a:Act} {Q:Exit→Act→World→Prop} (hgd:o.guard=none) (sl x:Operand) (t u:TypeId)
 (ho:o.op=.call { callee:=.builtin .append,args:=#[sl,x],argTypes:=#[t,u] })
 (e:TypeId) (i:TypeInfo) (ht:Tryz.prog.underlying t=some (.slice e)) (hu:Tryz.prog.underlying u=some .string) (hi:Tryz.prog.info? e=some i) (hz:i.zero=some (.int .u8 0)) (hsize:i.size=1) (hby:i.bytes=1)
 (v:Value) (n:Nat) (xs:List Value) (hs:a.eval sl=v) (hown:w.ownsRow 0 e 1 v n xs) (s:ByteArray) (hx:a.eval x=.string s) (hb:n+s.size≤2147483648)
 (h:∀ v' w',w'.ownsRow 0 e 1 v' (n+s.size) (xs ++ Lib.strCells s)→w.grownBy w' v.ownBlock→(v'.ownBlock=none∨v'.ownBlock=v.ownBlock∨v'.ownBlock=some w.heap.size)→wpList Tryz.prog ops Q rest (a.put o.dst v') w'):wpList Tryz.prog ops Q (o :: rest) a w:=by
 refine wpList_plain hgd fun K hK=>?_
 obtain ⟨v',w',hr,h2,h3,h4⟩:=append_str_at w t u o.type e i ht hu hi hz hsize hby v n xs hown s hb
 unfold Oper.wp execOp
 simp only [ho,resolve,invoke,builtin,Sem.run_bind,Sem.run_pure,Result.andThen_ok,List.map_toArray,List.map_cons,List.map_nil,hs,hx,hr]
 exact hK _ _ (h v' w' h2 h3 h4)
theorem size73:(Tryz.prog.info? 184).map (fun i=>i.size)=some 2:=by kernel_rfl
theorem lies73:liesAt Tryz.prog Tryz.prog.depth 186 (6 / Tryz.prog.cellsOf 186) 0 184 1=true:=by kernel_rfl
theorem check_fresh (b:Nat) (w:World) (h0:w.cell? ⟨b,0,none⟩=some (.pointer none)) (hsh:w.shape? b=some (186,6)) (hfz:w.frozen? ⟨b,0,none⟩=false) :
 Calls Tryz.prog 239 #[.pointer (some ⟨b,0,none⟩)] w fun e w'=>e=.returned (.tuple #[])∧w'=w.setCell ⟨b,0,none⟩ (.pointer (some ⟨b,0,none⟩)):=by
 obtain ⟨j,hj,hjs⟩:=Option.map_eq_some_iff.1 size73
 have r1:=Lib.run_to_unsafe (P:=Tryz.prog) w ⟨b,0,none⟩ Tryz.underlying182 Tryz.underlying247 hj (by rw [hjs];decide) hsh (show 0<6 by decide)
 have r2:=Lib.run_from_unsafe (P:=Tryz.prog) w ⟨b,0,none⟩ Tryz.underlying247 Tryz.underlying182 hj hsh lies73
 have r3:(callFunc 244 #[.pointer (some ⟨b,0,none⟩)]).run Tryz.prog w=.ok (.value (.pointer (some ⟨b,0,none⟩))) w:=by
  rw [run_callFunc_extern Tryz.func244 (by kernel_rfl) (by kernel_rfl) (by kernel_rfl) (e:=Extern.AbiNoEscape.same) (by kernel_rfl),Lib.run_noEscape];rfl
 clear hsh hj hjs
 go_enter Tryz.func239,Tryz.ntmps239
 go_wp2
 go_end0
 exact ⟨rfl,rfl⟩
theorem check_used (b:Nat) (w:World) (h0:w.cell? ⟨b,0,none⟩=some (.pointer (some ⟨b,0,none⟩))) :
 Calls Tryz.prog 239 #[.pointer (some ⟨b,0,none⟩)] w fun e w'=>e=.returned (.tuple #[])∧w'=w:=by
 obtain ⟨j,hj,hjs⟩:=Option.map_eq_some_iff.1 size73
 have r1:=Lib.run_neq_ptr_same (P:=Tryz.prog) w ⟨b,0,none⟩ Tryz.underlying182 hj
 clear hj hjs
 go_enter Tryz.func239,Tryz.ntmps239
 go_wp2
 go_end0
 exact ⟨rfl,rfl⟩
theorem check_any {P:Nat→Prop} {t:Nat} {a0:Value} {pa:Option Addr} {ca:Nat} {o:List UInt8} {r:Int} {tg:Bool} {l:Int} {nn:Bool} {w:World} (h:TXs P t a0 pa ca o r tg l nn w) :
 Calls Tryz.prog 239 #[.pointer (some ⟨t,0,none⟩)] w fun e w'=>e=.returned (.tuple #[])∧TXs P t (.pointer (some ⟨t,0,none⟩)) pa ca o r tg l nn w'∧KP P w w':=by
 rcases h.self with rfl | rfl
 ·have hsh:w.shape? t=some (186,6):=by
   have:=h.hold
   unfold Hold at this
   simp [World.shape?,this]
  refine (check_fresh t w (h.hold.cell 0) hsh (h.hold.frozen 0)).mono ?_
  rintro e w' ⟨rfl,rfl⟩
  exact ⟨rfl,h.set 0 _ rfl (.inr rfl)⟩
 ·refine (check_used t w (h.hold.cell 0)).mono ?_
  rintro e w' ⟨rfl,rfl⟩
  exact ⟨rfl,h,KP.refl _ _⟩
theorem writeStr_any {P:Nat→Prop} {t:Nat} {a0:Value} {pa:Option Addr} {ca:Nat} {o:List UInt8} {r:Int} {tg:Bool} {lv:Int} {nn:Bool} {w:World} (l:List UInt8) (h:TXs P t a0 pa ca o r tg lv nn w) (hlen:o.length+l.length≤2147483647) :
 Calls Tryz.prog 230 #[.pointer (some ⟨t,0,none⟩),.string (S l)] w fun e w'=>(∃ n,e=.returned (.tuple #[.int .i64 n,.nilIface]))∧(∃ a0' pa' ca',TXs P t a0' pa' ca' (o ++ l) r tg lv nn w')∧KP P w w':=by
 obtain ⟨i0,hi,hz0,hz1,hz2⟩:=info_parts info5
 have HC:=zz (check_any h)
 have hsz:=S_size l
 have HST:Hid (Lib.strCells (S l)=l.map cl):=rfl
 clear h
 generalize S l=s at *
 go_enter Tryz.func230,Tryz.ntmps230
 go_wp2_with fail
 refine HC.out.mono ?_
 rintro e w1 ⟨rfl,hT,hk1⟩
 have c1:=(hT.hold.cell 1)
 have hlt:=hT.hold.lt
 have hne:=row_ne hT.hold hT.own (by decide)
 have HT:=zz hT
 have HSZ:=zz hsz
 have hown:=hT.own
 clear HC hT hsz
 simp only [lGA,lGS,lGZ] at c1
 go_wp2_with (at_builtin;refine wpList_append_str_at rfl _ _ 42 9 rfl 5 i0 Tryz.underlying42 Tryz.underlying9 hi hz0 hz1 hz2 _ _ _ rfl hown s rfl (by rw [HSZ.out];omega) ?_;intro v' w2 hown' hgrow0 hat0;have hgrow:w1.grownBy w2 (Value.slice pa o.length ca).ownBlock:=hgrow0;have hat:v'.ownBlock=none∨v'.ownBlock=(Value.slice pa o.length ca).ownBlock∨v'.ownBlock=some w1.heap.size:=hat0;clear hgrow0 hat0;obtain ⟨ao',cap',rfl⟩:=slice_of hown';have hb2:Hold t #[.pointer (some ⟨t,0,none⟩),.slice pa o.length ca,.int .i64 r,.bool tg,.int .i64 lv,.bool nn] 186 w2:=(hgrow.block t hlt hne).trans HT.out.hold;have c2:=hb2.cell 1;have f2:=hb2.frozen 1;have HB2:=zz hb2;have HAT:=zz hat;clear hb2 hat)
 go_ret2
 have hK2:KP P w1 w2:=KP.of_grown hgrow fun b hb=>⟨(HT.out.apart b hb).1,(HT.out.apart b hb).2.2⟩
 have hL:(o ++ l).length=o.length+s.size:=by rw [List.length_append,HSZ.out]
 refine ⟨⟨_,rfl⟩,⟨.pointer (some ⟨t,0,none⟩),ao',cap',?_⟩,(hk1.trans hK2).trans (KP.setCell _ _ _ _ HT.out.not)⟩
 have hset:=HB2.out.set 1 (.slice ao' (o.length+s.size) cap')
 refine ⟨?_,?_,.inr rfl,by rw [hL,HSZ.out];exact hlen,fun b hb=>?_⟩
 ·rw [hL];exact hset
 ·rw [hL]
  refine row_other ?_ HB2.out (by decide) 1 _
  rw [List.map_append,← HST.out];exact hown'
 ·obtain ⟨h1,h2,h3⟩:=HT.out.apart b hb
  refine ⟨by have:=hK2.size;simp;omega,h2,?_⟩
  rw [hL]
  rcases HAT.out with h | h | h
  ·rw [h];simp
  ·rw [h];exact h3
  ·rw [h];intro e;injection e with e;omega
theorem wordT {P:Nat→Prop} {t:Nat} {o:List UInt8} {tg:Bool} {lv:Nat} {w:World} (s:List UInt8) (hs:s.length≤281474976710656) (h:TX P t (some (o,tg)) lv w) :
 Calls Tryz.prog 203 #[.pointer (some ⟨t,0,none⟩),.string (S s)] w fun e w'=>e=.returned (.tuple #[])∧TX P t (wdA s (some (o,tg))) lv w'∧KP P w w':=by
 obtain ⟨a0,pa,ca,o1,r,tg1,l,nn,hT,rfl,rfl,rfl,rfl,rfl⟩:=h
 obtain ⟨c0,c1,c2,c3,c4,c5⟩:=hT.cells
 have HT:=zz hT
 have f2:=hT.hold.frozen 2
 have f5:=hT.hold.frozen 5
 have hroom:=hT.room
 clear hT
 generalize hg:(if tg1 then ([]:List UInt8) else [32])=g
 have hgl:g.length≤1:=by rw [← hg];cases tg1 <;> simp
 have HW:Hid (wdA s (some (o1,tg1))=if (o1 ++ (g ++ s)).length≤2147483647 then some (o1 ++ (g ++ s),false) else none):=by
  show wdA s (some (o1,tg1))=_
  rw [← hg];rfl
 have hgs:(S g).size=g.length:=S_size g
 have hss:(S s).size=s.length:=S_size s
 have HG:Hid (tg1=true∧g=[]∨tg1=false∧g=[32]):=by cases tg1 <;> simp at hg <;> simp [← hg,Hid]
 by_cases hfit:o1.length+(g.length+s.length)≤2147483647
 ·rcases HG.out with ⟨rfl,rfl⟩ | ⟨rfl,rfl⟩
  ·have hge:(0:Int)≤2147483647 - o1.length - s.length:=by simp at hfit;omega
   go_enter Tryz.func203,Tryz.ntmps203
   go_wp2_with fail
   refine (writeStr_any [] (HT.out.room' _).1 (by simp at *;omega)).mono ?_
   rintro e w1 ⟨⟨n1,rfl⟩,⟨a1,p1,c1',hT1⟩,hk1⟩
   have HT1:=zz hT1
   have HK1:=zz hk1
   clear hT1 hk1
   go_wp2_with fail
   refine (writeStr_any s HT1.out (by simp at *;omega)).mono ?_
   rintro e w2 ⟨⟨n2,rfl⟩,⟨a2,p2,c2',hT2⟩,hk2⟩
   have f3:=hT2.hold.frozen 3
   have c32:=hT2.cells.2.2.2.1
   have HT2:=zz hT2
   have HK2:=zz hk2
   clear hT2 hk2
   go_wp2_with fail
   go_end0
   obtain ⟨hT3,hK3⟩:=HT2.out.tight' false
   refine ⟨rfl,?_,(((HT.out.room' _).2.trans HK1.out).trans HK2.out).trans hK3⟩
   rw [HW.out,if_pos (by simp at *;omega)]
   refine ⟨_,_,_,_,_,_,_,_,hT3,by simp,rfl,?_,rfl,rfl⟩
   simp at *;omega
  ·have hge:(0:Int)≤2147483647 - o1.length - (1+s.length):=by simp at hfit;omega
   go_enter Tryz.func203,Tryz.ntmps203
   go_wp2_with fail
   refine (writeStr_any [32] (HT.out.room' _).1 (by simp at *;omega)).mono ?_
   rintro e w1 ⟨⟨n1,rfl⟩,⟨a1,p1,c1',hT1⟩,hk1⟩
   have HT1:=zz hT1
   have HK1:=zz hk1
   clear hT1 hk1
   go_wp2_with fail
   refine (writeStr_any s HT1.out (by simp at *;omega)).mono ?_
   rintro e w2 ⟨⟨n2,rfl⟩,⟨a2,p2,c2',hT2⟩,hk2⟩
   have f3:=hT2.hold.frozen 3
   have c32:=hT2.cells.2.2.2.1
   have HT2:=zz hT2
   have HK2:=zz hk2
   clear hT2 hk2
   go_wp2_with fail
   go_end0
   obtain ⟨hT3,hK3⟩:=HT2.out.tight' false
   refine ⟨rfl,?_,(((HT.out.room' _).2.trans HK1.out).trans HK2.out).trans hK3⟩
   rw [HW.out,if_pos (by simp at *;omega)]
   refine ⟨_,_,_,_,_,_,_,_,hT3,by simp,rfl,?_,rfl,rfl⟩
   simp at *;omega
 ·rcases HG.out with ⟨rfl,rfl⟩ | ⟨rfl,rfl⟩
  ·have hge:(2147483647:Int) - o1.length - s.length<0:=by simp at hfit;omega
   go_enter Tryz.func203,Tryz.ntmps203
   go_wp2_with fail
   refine bodyPost_ret (v:=.tuple #[]) (results_none (by rfl) _ _ _) rfl ?_
   obtain ⟨hT2,hK2⟩:=HT.out.room' _
   obtain ⟨hT3,hK3⟩:=hT2.none' true
   refine ⟨rfl,?_,hK2.trans hK3⟩
   rw [HW.out,if_neg (by simp at *;omega)]
   exact ⟨_,_,_,_,_,_,_,_,hT3,rfl⟩
  ·have hge:(2147483647:Int) - o1.length - (1+s.length)<0:=by simp at hfit;omega
   go_enter Tryz.func203,Tryz.ntmps203
   go_wp2_with fail
   refine bodyPost_ret (v:=.tuple #[]) (results_none (by rfl) _ _ _) rfl ?_
   obtain ⟨hT2,hK2⟩:=HT.out.room' _
   obtain ⟨hT3,hK3⟩:=hT2.none' true
   refine ⟨rfl,?_,hK2.trans hK3⟩
   rw [HW.out,if_neg (by simp at *;omega)]
   exact ⟨_,_,_,_,_,_,_,_,hT3,rfl⟩
end Go.Proofs.YtcnnlecjdkfdjaaGreatDoor
