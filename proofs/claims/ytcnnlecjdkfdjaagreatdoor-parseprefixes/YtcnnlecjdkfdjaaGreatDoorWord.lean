/- Word: the texts of these names, of which the claim is made. -/
import Derived.Test.YtcnnlecjdkfdjaaGreatDoorArms
import Derived.Shelf.Strings.BuilderK
import Derived.Test.YtcnnlecjdkfdjaaGreatDoorAl
set_option linter.unusedVariables false
set_option linter.unusedSimpArgs false
set_option maxRecDepth 100000
set_option maxHeartbeats 8000000
namespace Go.Proofs.YtcnnlecjdkfdjaaGreatDoor
open Go.RowKit
structure TXs (P:Nat→Prop) (t:Nat) (a0:Value) (pa:Option Addr) (ca:Nat) (o:List UInt8) (r:Int) (tg:Bool) (l:Int) (nn:Bool) (w:World):Prop where
 hold:Hold t #[a0,.slice pa o.length ca,.int .i64 r,.bool tg,.int .i64 l,.bool nn] 186 w
 own:w.ownsRow 0 5 1 (.slice pa o.length ca) o.length (o.map cl)
 self:a0=.pointer none∨a0=.pointer (some ⟨t,0,none⟩)
 room:o.length≤2147483647
 apart:∀ b,P b→b<w.heap.size∧b≠t∧some b≠(Value.slice pa o.length ca).ownBlock
def TX (P:Nat→Prop) (t:Nat) (st:St) (lv:Nat) (w:World):Prop:=∃ a0 pa ca o r tg l nn,TXs P t a0 pa ca o r tg l nn w∧match st with
 | some (o',tg')=>o=o'∧tg=tg'∧r=2147483647 - o.length∧l=lv∧nn=false
 | none=>nn=true
theorem TXs.cells {P:Nat→Prop} {t:Nat} {a0:Value} {pa:Option Addr} {ca:Nat} {o:List UInt8} {r:Int} {tg:Bool} {l:Int} {nn:Bool} {w:World} (h:TXs P t a0 pa ca o r tg l nn w) :
 w.cell? ⟨t,0,none⟩=some a0∧w.cell? ⟨t,1,none⟩=some (.slice pa o.length ca)∧w.cell? ⟨t,2,none⟩=some (.int .i64 r)∧w.cell? ⟨t,3,none⟩=some (.bool tg)∧w.cell? ⟨t,4,none⟩=some (.int .i64 l)∧w.cell? ⟨t,5,none⟩=some (.bool nn):=
 ⟨h.hold.cell 0,h.hold.cell 1,h.hold.cell 2,h.hold.cell 3,h.hold.cell 4,h.hold.cell 5⟩
theorem TXs.not {P:Nat→Prop} {t:Nat} {a0:Value} {pa:Option Addr} {ca:Nat} {o:List UInt8} {r:Int} {tg:Bool} {l:Int} {nn:Bool} {w:World} (h:TXs P t a0 pa ca o r tg l nn w):¬ P t:=fun hp=>(h.apart t hp).2.1 rfl
theorem TXs.set {P:Nat→Prop} {t:Nat} {a0:Value} {pa:Option Addr} {ca:Nat} {o:List UInt8} {r:Int} {tg:Bool} {l:Int} {nn:Bool} {w:World} (h:TXs P t a0 pa ca o r tg l nn w) {a0':Value} {r':Int} {tg':Bool} {l':Int} {nn':Bool} (i:Nat) (v:Value)
 (e:(#[a0,.slice pa o.length ca,.int .i64 r,.bool tg,.int .i64 l,.bool nn]:Array Value).setIfInBounds i v=#[a0',.slice pa o.length ca,.int .i64 r',.bool tg',.int .i64 l',.bool nn']) (hs:a0'=.pointer none∨a0'=.pointer (some ⟨t,0,none⟩)) :
 TXs P t a0' pa ca o r' tg' l' nn' (w.setCell ⟨t,i,none⟩ v)∧KP P w (w.setCell ⟨t,i,none⟩ v):=by
 refine ⟨⟨?_,row_other h.own h.hold (by decide) i v,hs,h.room,fun b hb=>?_⟩,KP.setCell _ _ _ _ h.not⟩
 ·have:=h.hold.set i v;rw [e] at this;exact this
 ·obtain ⟨h1,h2,h3⟩:=h.apart b hb
  exact ⟨by simpa using h1,h2,h3⟩
theorem TXs.room' {P:Nat→Prop} {t:Nat} {a0:Value} {pa:Option Addr} {ca:Nat} {o:List UInt8} {r:Int} {tg:Bool} {l:Int} {nn:Bool} {w:World} (h:TXs P t a0 pa ca o r tg l nn w) (r':Int):TXs P t a0 pa ca o r' tg l nn (w.setCell ⟨t,2,none⟩ (.int .i64 r'))∧KP P w (w.setCell ⟨t,2,none⟩ (.int .i64 r')):=h.set 2 _ rfl h.self
theorem TXs.tight' {P:Nat→Prop} {t:Nat} {a0:Value} {pa:Option Addr} {ca:Nat} {o:List UInt8} {r:Int} {tg:Bool} {l:Int} {nn:Bool} {w:World} (h:TXs P t a0 pa ca o r tg l nn w) (r':Bool):TXs P t a0 pa ca o r r' l nn (w.setCell ⟨t,3,none⟩ (.bool r'))∧KP P w (w.setCell ⟨t,3,none⟩ (.bool r')):=h.set 3 _ rfl h.self
theorem TXs.level' {P:Nat→Prop} {t:Nat} {a0:Value} {pa:Option Addr} {ca:Nat} {o:List UInt8} {r:Int} {tg:Bool} {l:Int} {nn:Bool} {w:World} (h:TXs P t a0 pa ca o r tg l nn w) (r':Int):TXs P t a0 pa ca o r tg r' nn (w.setCell ⟨t,4,none⟩ (.int .i64 r'))∧KP P w (w.setCell ⟨t,4,none⟩ (.int .i64 r')):=h.set 4 _ rfl h.self
theorem TXs.none' {P:Nat→Prop} {t:Nat} {a0:Value} {pa:Option Addr} {ca:Nat} {o:List UInt8} {r:Int} {tg:Bool} {l:Int} {nn:Bool} {w:World} (h:TXs P t a0 pa ca o r tg l nn w) (r':Bool):TXs P t a0 pa ca o r tg l r' (w.setCell ⟨t,5,none⟩ (.bool r'))∧KP P w (w.setCell ⟨t,5,none⟩ (.bool r')):=h.set 5 _ rfl h.self
theorem append_str_at (w:World) (t u ty e:TypeId) (i:TypeInfo) (ht:Tryz.prog.underlying t=some (.slice e)) (hu:Tryz.prog.underlying u=some .string) (hi:Tryz.prog.info? e=some i) (hz:i.zero=some (.int .u8 0))
 (hsize:i.size=1) (hby:i.bytes=1) (v:Value) (n:Nat) (xs:List Value) (hown:w.ownsRow 0 e 1 v n xs) (s:ByteArray) (hb:n+s.size≤2147483648) :
 ∃ v' w',(Builtin.append_ #[t,u] ty #[v,.string s]).run Tryz.prog w=.ok v' w'∧w'.ownsRow 0 e 1 v' (n+s.size) (xs ++ Lib.strCells s)∧w.grownBy w' v.ownBlock∧(v'.ownBlock=none∨v'.ownBlock=v.ownBlock∨v'.ownBlock=some w.heap.size):=by
 obtain ⟨v',w',hr,h1,h2,h3⟩:=Lib.run_append_own_string (P:=Tryz.prog) w 0 t u ty e i ht hu hi hz hsize hby v n xs hown s (by unfold maxLen;omega) (by omega) (Nat.zero_le _)
 refine ⟨v',w',hr,h1,h2,?_⟩
 have hxl:xs.length=n:=by simpa using hown.1
 rcases hown.2 with ⟨rfl,rfl⟩ | ⟨g,cap,cur,rfl,hbg,hg,hnc,hcm,hcs,htake⟩
 ·by_cases hm:s.size=0
  ·rw [h3.2 ⟨rfl,hm⟩];exact .inl rfl
  ·have hr2:=run_append_nil_string (P:=Tryz.prog) w t u ty e i (.int .u8 0) ht hu hi hz s (by omega) (by omega) (by rw [hby];omega)
   rw [hr2] at hr
   cases hr
   exact .inr (.inr rfl)
 ·by_cases hroom:n+s.size≤cap
  ·have hcs':cur.size=cap:=by simpa using hcs
   have hr2:=Lib.run_append_room_string (P:=Tryz.prog) w t u ty e i ht hu hi hsize g n cap cur hg s hroom (by omega)
   rw [hr2] at hr
   cases hr
   exact .inr (.inl rfl)
  ·have holds:∀ j u,xs[j]?=some u→w.cell? ((⟨g,0,none⟩:Addr).add j)=some u:=hown.cells (g:=g) rfl
   have hr2:=Lib.run_append_grow_string (P:=Tryz.prog) w t u ty e i (.int .u8 0) ht hu hi hz ⟨g,0,none⟩ n cap xs (by rw [hsize];simpa using hxl) holds s (by omega) (by omega) (by rw [hby];exact growslice_fits (by omega) (by omega))
   rw [hr2] at hr
   cases hr
   exact .inr (.inr rfl)
theorem wpList_append_str_at {w:World} {ops:Array Oper} {rest:List Oper} {o:Oper} {a:Act} {Q:Exit→Act→World→Prop} (hgd:o.guard=none) (sl x:Operand) (t u:TypeId)
 (ho:o.op=.call { callee:=.builtin .append,args:=#[sl,x],argTypes:=#[t,u] })
 (e:TypeId) (i:TypeInfo) (ht:Tryz.prog.underlying t=some (.slice e)) (hu:Tryz.prog.underlying u=some .string) (hi:Tryz.prog.info? e=some i) (hz:i.zero=some (.int .u8 0)) (hsize:i.size=1) (hby:i.bytes=1)
 (v:Value) (n:Nat) (xs:List Value) (hs:a.eval sl=v) (hown:w.ownsRow 0 e 1 v n xs) (s:ByteArray) (hx:a.eval x=.string s) (hb:n+s.size≤2147483648)
 (h:∀ v' w',w'.ownsRow 0 e 1 v' (n+s.size) (xs ++ Lib.strCells s)→w.grownBy w' v.ownBlock→(v'.ownBlock=none∨v'.ownBlock=v.ownBlock∨v'.ownBlock=some w.heap.size)→wpList Tryz.prog ops Q rest (a.put o.dst v') w'):wpList Tryz.prog ops Q (o :: rest) a w:=by
 refine wpList_plain hgd fun K hK=>?_
 obtain ⟨v',w',hr,h2,h3,h4⟩:=append_str_at w t u o.type e i ht hu hi hz hsize hby v n xs hown s hb
 unfold Oper.wp execOp
 simp only [ho,resolve,invoke,builtin,Sem.run_bind,Sem.run_pure,Result.andThen_ok,List.map_toArray,List.map_cons,List.map_nil,hs,hx,hr]
 exact hK _ _ (h v' w' h2 h3 h4)
theorem size73:(Tryz.prog.info? 184).map (fun i=>i.size)=some 2:=by kernel_rfl
theorem lies73:liesAt Tryz.prog Tryz.prog.depth 186 (6 / Tryz.prog.cellsOf 186) 0 184 1=true:=by kernel_rfl
theorem check_fresh (b:Nat) (w:World) (h0:w.cell? ⟨b,0,none⟩=some (.pointer none)) (hsh:w.shape? b=some (186,6)) (hfz:w.frozen? ⟨b,0,none⟩=false) :
 Calls Tryz.prog 239 #[.pointer (some ⟨b,0,none⟩)] w fun e w'=>e=.returned (.tuple #[])∧w'=w.setCell ⟨b,0,none⟩ (.pointer (some ⟨b,0,none⟩)):=by
 obtain ⟨j,hj,hjs⟩:=Option.map_eq_some_iff.1 size73
 have r1:=Lib.run_to_unsafe (P:=Tryz.prog) w ⟨b,0,none⟩ Tryz.underlying182 Tryz.underlying247 hj (by rw [hjs];decide) hsh (show 0<6 by decide)
 have r2:=Lib.run_from_unsafe (P:=Tryz.prog) w ⟨b,0,none⟩ Tryz.underlying247 Tryz.underlying182 hj hsh lies73
 have r3:(callFunc 244 #[.pointer (some ⟨b,0,none⟩)]).run Tryz.prog w=.ok (.value (.pointer (some ⟨b,0,none⟩))) w:=by
  rw [run_callFunc_extern Tryz.func244 (by kernel_rfl) (by kernel_rfl) (by kernel_rfl) (e:=Extern.AbiNoEscape.same) (by kernel_rfl),Lib.run_noEscape];rfl
 clear hsh hj hjs
 go_enter Tryz.func239,Tryz.ntmps239
 go_wp2
 go_end0
 exact ⟨rfl,rfl⟩
theorem check_used (b:Nat) (w:World) (h0:w.cell? ⟨b,0,none⟩=some (.pointer (some ⟨b,0,none⟩))) :
 Calls Tryz.prog 239 #[.pointer (some ⟨b,0,none⟩)] w fun e w'=>e=.returned (.tuple #[])∧w'=w:=by
 obtain ⟨j,hj,hjs⟩:=Option.map_eq_some_iff.1 size73
 have r1:=Lib.run_neq_ptr_same (P:=Tryz.prog) w ⟨b,0,none⟩ Tryz.underlying182 hj
 clear hj hjs
 go_enter Tryz.func239,Tryz.ntmps239
 go_wp2
 go_end0
 exact ⟨rfl,rfl⟩
theorem check_any {P:Nat→Prop} {t:Nat} {a0:Value} {pa:Option Addr} {ca:Nat} {o:List UInt8} {r:Int} {tg:Bool} {l:Int} {nn:Bool} {w:World} (h:TXs P t a0 pa ca o r tg l nn w) :
 Calls Tryz.prog 239 #[.pointer (some ⟨t,0,none⟩)] w fun e w'=>e=.returned (.tuple #[])∧TXs P t (.pointer (some ⟨t,0,none⟩)) pa ca o r tg l nn w'∧KP P w w':=by
 rcases h.self with rfl | rfl
 ·have hsh:w.shape? t=some (186,6):=by
   have:=h.hold
   unfold Hold at this
   simp [World.shape?,this]
  refine (check_fresh t w (h.hold.cell 0) hsh (h.hold.frozen 0)).mono ?_
  rintro e w' ⟨rfl,rfl⟩
  exact ⟨rfl,h.set 0 _ rfl (.inr rfl)⟩
 ·refine (check_used t w (h.hold.cell 0)).mono ?_
  rintro e w' ⟨rfl,rfl⟩
  exact ⟨rfl,h,KP.refl _ _⟩
theorem writeStr_any {P:Nat→Prop} {t:Nat} {a0:Value} {pa:Option Addr} {ca:Nat} {o:List UInt8} {r:Int} {tg:Bool} {lv:Int} {nn:Bool} {w:World} (l:List UInt8) (h:TXs P t a0 pa ca o r tg lv nn w) (hlen:o.length+l.length≤2147483647) :
 Calls Tryz.prog 230 #[.pointer (some ⟨t,0,none⟩),.string (S l)] w fun e w'=>(∃ n,e=.returned (.tuple #[.int .i64 n,.nilIface]))∧(∃ a0' pa' ca',TXs P t a0' pa' ca' (o ++ l) r tg lv nn w')∧KP P w w':=by
 obtain ⟨i0,hi,hz0,hz1,hz2⟩:=info_parts info5
 have HC:=hide (check_any h)
 have hsz:=S_size l
 have HST:Hid (Lib.strCells (S l)=l.map cl):=rfl
 clear h
 generalize S l=s at *
 go_enter Tryz.func230,Tryz.ntmps230
 go_wp2_with fail
 refine HC.out.mono ?_
 rintro e w1 ⟨rfl,hT,hk1⟩
 have c1:=(hT.hold.cell 1)
 have hlt:=hT.hold.lt
 have hne:=row_ne hT.hold hT.own (by decide)
 have HT:=hide hT
 have HSZ:=hide hsz
 have hown:=hT.own
 clear HC hT hsz
 simp only [lGA,lGS,lGZ] at c1
 go_wp2_with (at_builtin;refine wpList_append_str_at rfl _ _ 42 9 rfl 5 i0 Tryz.underlying42 Tryz.underlying9 hi hz0 hz1 hz2 _ _ _ rfl hown s rfl (by rw [HSZ.out];omega) ?_;intro v' w2 hown' hgrow0 hat0;have hgrow:w1.grownBy w2 (Value.slice pa o.length ca).ownBlock:=hgrow0;have hat:v'.ownBlock=none∨v'.ownBlock=(Value.slice pa o.length ca).ownBlock∨v'.ownBlock=some w1.heap.size:=hat0;clear hgrow0 hat0;obtain ⟨ao',cap',rfl⟩:=slice_of hown';have hb2:Hold t #[.pointer (some ⟨t,0,none⟩),.slice pa o.length ca,.int .i64 r,.bool tg,.int .i64 lv,.bool nn] 186 w2:=(hgrow.block t hlt hne).trans HT.out.hold;have c2:=hb2.cell 1;have f2:=hb2.frozen 1;have HB2:=hide hb2;have HAT:=hide hat;clear hb2 hat)
 go_ret2
 have hK2:KP P w1 w2:=KP.of_grown hgrow fun b hb=>⟨(HT.out.apart b hb).1,(HT.out.apart b hb).2.2⟩
 have hL:(o ++ l).length=o.length+s.size:=by rw [List.length_append,HSZ.out]
 refine ⟨⟨_,rfl⟩,⟨.pointer (some ⟨t,0,none⟩),ao',cap',?_⟩,(hk1.trans hK2).trans (KP.setCell _ _ _ _ HT.out.not)⟩
 have hset:=HB2.out.set 1 (.slice ao' (o.length+s.size) cap')
 refine ⟨?_,?_,.inr rfl,by rw [hL,HSZ.out];exact hlen,fun b hb=>?_⟩
 ·rw [hL];exact hset
 ·rw [hL]
  refine row_other ?_ HB2.out (by decide) 1 _
  rw [List.map_append,← HST.out];exact hown'
 ·obtain ⟨h1,h2,h3⟩:=HT.out.apart b hb
  refine ⟨by have:=hK2.size;simp;omega,h2,?_⟩
  rw [hL]
  rcases HAT.out with h | h | h
  ·rw [h];simp
  ·rw [h];exact h3
  ·rw [h];intro e;injection e with e;omega
theorem wordT {P:Nat→Prop} {t:Nat} {o:List UInt8} {tg:Bool} {lv:Nat} {w:World} (s:List UInt8) (hs:s.length≤281474976710656) (h:TX P t (some (o,tg)) lv w) :
 Calls Tryz.prog 203 #[.pointer (some ⟨t,0,none⟩),.string (S s)] w fun e w'=>e=.returned (.tuple #[])∧TX P t (wdA s (some (o,tg))) lv w'∧KP P w w':=by
 obtain ⟨a0,pa,ca,o1,r,tg1,l,nn,hT,rfl,rfl,rfl,rfl,rfl⟩:=h
 obtain ⟨c0,c1,c2,c3,c4,c5⟩:=hT.cells
 have HT:=hide hT
 have f2:=hT.hold.frozen 2
 have f5:=hT.hold.frozen 5
 have hroom:=hT.room
 clear hT
 generalize hg:(if tg1 then ([]:List UInt8) else [32])=g
 have hgl:g.length≤1:=by rw [← hg];cases tg1 <;> simp
 have HW:Hid (wdA s (some (o1,tg1))=if (o1 ++ (g ++ s)).length≤2147483647 then some (o1 ++ (g ++ s),false) else none):=by
  show wdA s (some (o1,tg1))=_
  rw [← hg];rfl
 have hgs:(S g).size=g.length:=S_size g
 have hss:(S s).size=s.length:=S_size s
 have HG:Hid (tg1=true∧g=[]∨tg1=false∧g=[32]):=by cases tg1 <;> simp at hg <;> simp [← hg,Hid]
 by_cases hfit:o1.length+(g.length+s.length)≤2147483647
 ·rcases HG.out with ⟨rfl,rfl⟩ | ⟨rfl,rfl⟩
  ·have hge:(0:Int)≤2147483647 - o1.length - s.length:=by simp at hfit;omega
   go_enter Tryz.func203,Tryz.ntmps203
   go_wp2_with fail
   refine (writeStr_any [] (HT.out.room' _).1 (by simp at *;omega)).mono ?_
   rintro e w1 ⟨⟨n1,rfl⟩,⟨a1,p1,c1',hT1⟩,hk1⟩
   have HT1:=hide hT1
   have HK1:=hide hk1
   clear hT1 hk1
   go_wp2_with fail
   refine (writeStr_any s HT1.out (by simp at *;omega)).mono ?_
   rintro e w2 ⟨⟨n2,rfl⟩,⟨a2,p2,c2',hT2⟩,hk2⟩
   have f3:=hT2.hold.frozen 3
   have c32:=hT2.cells.2.2.2.1
   have HT2:=hide hT2
   have HK2:=hide hk2
   clear hT2 hk2
   go_wp2_with fail
   go_end0
   obtain ⟨hT3,hK3⟩:=HT2.out.tight' false
   refine ⟨rfl,?_,(((HT.out.room' _).2.trans HK1.out).trans HK2.out).trans hK3⟩
   rw [HW.out,if_pos (by simp at *;omega)]
   refine ⟨_,_,_,_,_,_,_,_,hT3,by simp,rfl,?_,rfl,rfl⟩
   simp at *;omega
  ·have hge:(0:Int)≤2147483647 - o1.length - (1+s.length):=by simp at hfit;omega
   go_enter Tryz.func203,Tryz.ntmps203
   go_wp2_with fail
   refine (writeStr_any [32] (HT.out.room' _).1 (by simp at *;omega)).mono ?_
   rintro e w1 ⟨⟨n1,rfl⟩,⟨a1,p1,c1',hT1⟩,hk1⟩
   have HT1:=hide hT1
   have HK1:=hide hk1
   clear hT1 hk1
   go_wp2_with fail
   refine (writeStr_any s HT1.out (by simp at *;omega)).mono ?_
   rintro e w2 ⟨⟨n2,rfl⟩,⟨a2,p2,c2',hT2⟩,hk2⟩
   have f3:=hT2.hold.frozen 3
   have c32:=hT2.cells.2.2.2.1
   have HT2:=hide hT2
   have HK2:=hide hk2
   clear hT2 hk2
   go_wp2_with fail
   go_end0
   obtain ⟨hT3,hK3⟩:=HT2.out.tight' false
   refine ⟨rfl,?_,(((HT.out.room' _).2.trans HK1.out).trans HK2.out).trans hK3⟩
   rw [HW.out,if_pos (by simp at *;omega)]
   refine ⟨_,_,_,_,_,_,_,_,hT3,by simp,rfl,?_,rfl,rfl⟩
   simp at *;omega
 ·rcases HG.out with ⟨rfl,rfl⟩ | ⟨rfl,rfl⟩
  ·have hge:(2147483647:Int) - o1.length - s.length<0:=by simp at hfit;omega
   go_enter Tryz.func203,Tryz.ntmps203
   go_wp2_with fail
   refine bodyPost_ret (v:=.tuple #[]) (results_none (by rfl) _ _ _) rfl ?_
   obtain ⟨hT2,hK2⟩:=HT.out.room' _
   obtain ⟨hT3,hK3⟩:=hT2.none' true
   refine ⟨rfl,?_,hK2.trans hK3⟩
   rw [HW.out,if_neg (by simp at *;omega)]
   exact ⟨_,_,_,_,_,_,_,_,hT3,rfl⟩
  ·have hge:(2147483647:Int) - o1.length - (1+s.length)<0:=by simp at hfit;omega
   go_enter Tryz.func203,Tryz.ntmps203
   go_wp2_with fail
   refine bodyPost_ret (v:=.tuple #[]) (results_none (by rfl) _ _ _) rfl ?_
   obtain ⟨hT2,hK2⟩:=HT.out.room' _
   obtain ⟨hT3,hK3⟩:=hT2.none' true
   refine ⟨rfl,?_,hK2.trans hK3⟩
   rw [HW.out,if_neg (by simp at *;omega)]
   exact ⟨_,_,_,_,_,_,_,_,hT3,rfl⟩
end Go.Proofs.YtcnnlecjdkfdjaaGreatDoor
