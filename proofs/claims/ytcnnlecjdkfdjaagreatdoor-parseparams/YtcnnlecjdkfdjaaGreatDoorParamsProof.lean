/-
  ParseParams, for every list of numbers and every list of tokens: the law returns true, and its arguments read as they did. The condition: the listed variables of Go's library hold what its text lays (tied by the card).
-/
import Derived.Test.YtcnnlecjdkfdjaaGreatDoorSame2
set_option linter.unusedVariables false
set_option linter.unusedSimpArgs false
set_option maxRecDepth 100000
set_option maxHeartbeats 8000000
namespace Go.Proofs.YtcnnlecjdkfdjaaGreatDoor
open Go.RowKit
theorem signed_any (s:List UInt8) (w:World):Calls Tryz.prog 23 #[.string (S s)] w fun r w'=>r=.returned (.agg (tkC (sgn s)).toArray)∧Below w.heap.size w w':=by
 have hB:Below w.heap.size w (w.alloc (.cells #[.int .i64 4,.string (S s),.int .i64 0,.int .i64 0,.int .i64 0] 51)):=(Below.refl _ w).alloc (Nat.le_refl _) _
 go_enter Tryz.func23,Tryz.ntmps23
 go_wp2_with fail
 exact bodyPost_ret (v:=.agg (tkC (sgn s)).toArray) (by simp only [results,Tryz.results23];go_simp;rfl) rfl ⟨rfl,hB⟩
theorem nameL_any (s:List UInt8) (w:World):Calls Tryz.prog 24 #[.string (S s)] w fun r w'=>r=.returned (.agg (tkC (nam s)).toArray)∧Below w.heap.size w w':=by
 have hB:Below w.heap.size w (w.alloc (.cells #[.int .i64 2,.string (S s),.int .i64 0,.int .i64 0,.int .i64 0] 51)):=(Below.refl _ w).alloc (Nat.le_refl _) _
 go_enter Tryz.func24,Tryz.ntmps24
 go_wp2_with fail
 exact bodyPost_ret (v:=.agg (tkC (nam s)).toArray) (by simp only [results,Tryz.results24];go_simp;rfl) rfl ⟨rfl,hB⟩
theorem KM.one' {P:Nat→Prop} {w:World} {g:Nat} {t:Tk} (hP:P g) (h:Hold g (tkC t).toArray 51 w) (ht:TkB t):KM P w (some ⟨g,0,none⟩) [t]:=by
 refine .inr ⟨g,0,rfl,hP,fun i t' hi=>?_⟩
 cases i with
 | zero=>
  cases hi
  refine ⟨tkC t,rfl,fun j d hj=>?_,rfl,ht⟩
  rw [show 0+0 * 5+j=j by omega,h.cell j]
  simpa using hj
 | succ i=>cases hi
theorem lamsT_len (xs:List (List UInt8)):(lamsT xs).length=3 * xs.length:=by
 unfold lamsT
 induction xs with
 | nil=>rfl
 | cons a r ih=>simp only [List.flatMap_cons,List.length_append,List.length_cons,List.length_nil,ih];omega
theorem TR.ge {base:Nat} {w:World} {v:Value} {l:List Tk} (h:TR base w v l):∀ g,v.ownBlock=some g→base≤g:=by
 intro g e
 rcases h.1.2 with ⟨rfl,_⟩ | ⟨g',cap,cur,rfl,h2,h3,_⟩
 ·cases e
 ·cases e;exact h2
theorem TR.fresh {base:Nat} {w:World} {v:Value} {l:List Tk} (h:TR base w v l):v.ownBlock≠some w.heap.size:=by
 rcases h.1.2 with ⟨rfl,_⟩ | ⟨g',cap,cur,rfl,_,h3,_⟩
 ·intro e;cases e
 ·intro e
  have h4:g'=w.heap.size:=Option.some.inj e
  have:=(Array.getElem?_eq_some_iff.1 h3).1
  omega
theorem bel_app {w W W':World} {v:Value} (hB:Below w.heap.size w W) (hT:∀ g,v.ownBlock=some g→w.heap.size≤g) (hg:W.grownBy W' v.ownBlock):Below w.heap.size w W':=⟨hg.os.trans hB.os,hg.tape.trans hB.tape,hg.output.trans hB.output,Nat.le_trans hB.size hg.size,fun b hb=>(hg.block b (Nat.lt_of_lt_of_le hb hB.size) (fun e=>absurd (hT b e.symm) (by omega))).trans (hB.block b hb)⟩
theorem TR.other {base:Nat} {W W':World} {u v:Value} {k:List Tk} (h:TR base W u k) (hg:W.grownBy W' v.ownBlock) (hne:u.ownBlock≠v.ownBlock):TR base W' u k:=h.keep fun g hx hlt=>hg.block g hlt fun e=>hne (by rw [hx,← e])
theorem ne_app {base:Nat} {W:World} {u v v':Value} {k:List Tk} (hne:u.ownBlock≠v.ownBlock) (hT:TR base W u k) (ho:v'.ownBlock=v.ownBlock∨v'.ownBlock=some W.heap.size):u.ownBlock≠v'.ownBlock:=by
 rcases ho with h | h
 ·rw [h];exact hne
 ·rw [h];exact hT.fresh
theorem out_eq {a b:List Tk} (h:outP (progRun a)=outP (progRun b)):(progOut a).1=(progOut b).1∧(progOut a).2.2=(progOut b).2.2:=by
 unfold progOut
 cases h1:progRun a with
 | inl n=>
  rw [h1] at h
  cases h2:progRun b with
  | inl k=>exact ⟨rfl,rfl⟩
  | inr q=>rw [h2] at h;cases h
 | inr p=>
  rw [h1] at h
  cases h2:progRun b with
  | inl k=>rw [h2] at h;cases h
  | inr q=>
   rw [h2] at h
   have h3:(p.ds,p.fs)=(q.ds,q.fs):=Option.some.inj h
   simp only [Prod.mk.injEq] at h3
   simp only [h3.1,h3.2]
   split <;> exact ⟨rfl,rfl⟩
theorem wpList_appT {w:World} {ops:Array Oper} {rest:List Oper} {o:Oper} {a:Act} {Q:Exit→Act→World→Prop} (hgd:o.guard=none) (s x:Operand)
 (ho:o.op=.call { callee:=.builtin .append,args:=#[s,x],argTypes:=#[22,22] })
 (base:Nat) (v:Value) (xs:List Tk) (hs:a.eval s=v) (hR:TR base w v xs)
 {P:Nat→Prop} (p:Option Addr) (m c:Nat) (l:List Tk) (hx:a.eval x=.slice p m c) (hl:l.length=m) (hK:KM P w p l) (hp:p=none→c=0)
 (hb:xs.length+m≤1000000) (hbase:base≤w.heap.size)
 (h:∀ v' w',TR base w' v' (xs ++ l)→w.grownBy w' v.ownBlock→(v'.ownBlock=v.ownBlock∨v'.ownBlock=some w.heap.size)→wpList Tryz.prog ops Q rest (a.put o.dst v') w'):wpList Tryz.prog ops Q (o :: rest) a w:=
 wpList_plain hgd fun _ hK'=>wp_appT s x ho base v xs hs hR p m c l hx hl hK hp hb hbase fun v' w' h1 h2 h3=>hK' _ _ (h v' w' h1 h2 h3)
theorem two_new2 (w:World) (A B:Array Value) (t u:TypeId):Below w.heap.size w ((w.alloc (.cells A t)).alloc (.cells B u))∧Hold w.heap.size A t ((w.alloc (.cells A t)).alloc (.cells B u)):=⟨((Below.refl _ w).alloc (Nat.le_refl _) _).alloc (by simp) _,(Hold.new w A t).alloc _⟩
theorem pgin_at {w W:World} {e:Pg} {cs:List Value} (h:PgIn2 (QU w) (fun b=>b<w.heap.size) w e cs) (hb:Below w.heap.size w W):PgIn (fun b=>b<W.heap.size) W e cs:=PgIn2.join (KP.of_below hb fun b hb=>hb.1) (KP.of_below hb fun b hb=>hb) (fun b hb'=>Nat.lt_of_lt_of_le hb'.1 hb.size) (fun b hb'=>Nat.lt_of_lt_of_le hb' hb.size) _ _ h
def txs:List (List UInt8):=[[120],[121],[122],[97,66],[99,49]]
def txC:Array Value:=#[.string ⟨#[120]⟩,.string ⟨#[121]⟩,.string ⟨#[122]⟩,.string ⟨#[97,66]⟩,.string ⟨#[99,49]⟩]
theorem tx_at:∀ k,k<5→txC[k]?=some (.string (S (txs.getD k []))):=by
 intro k hk
 match k,hk with
 | 0,_=>rfl
 | 1,_=>rfl
 | 2,_=>rfl
 | 3,_=>rfl
 | 4,_=>rfl
theorem tx_len (k:Nat):(txs.getD k []).length≤2:=by
 match k with
 | 0=>decide
 | 1=>decide
 | 2=>decide
 | 3=>decide
 | 4=>decide
 | k+5=>rw [List.getD_eq_getElem?_getD,List.getElem?_eq_none (by show 5≤_;omega)];decide
def xsOf (ns:List UInt8):List (List UInt8):=ns.map fun x=>txs.getD (x.toNat % 5) []
theorem tkb_sgn (s:List UInt8) (h:s.length≤2):TkB (sgn s):=⟨by show s.length≤_;omega,by show _≤(0:Int);omega,by show (0:Int)≤_;omega⟩
theorem tkb_nam (s:List UInt8) (h:s.length≤2):TkB (nam s):=⟨by show s.length≤_;omega,by show _≤(0:Int);omega,by show (0:Int)≤_;omega⟩
theorem params_walk {pn p:Option Addr} {nn nc m c:Nat} {ns:List UInt8} {l:List Tk} (w:World) (hln:ns.length=nn) (hnn:nn≤10) (hnc:nn≤nc) (hMn:Ly.Mem w pn ns) (hl:l.length=m) (hm:m≤200) (hmc:m≤c) (hK:KM (fun b=>b<w.heap.size) w p l) (hp:p=none→c=0) (hg:Ly.Glob w) (hG:GP (fun b=>b<w.heap.size) w):Calls Tryz.prog 9 #[.slice pn nn nc,.slice p m c] w fun e w'=>e=.returned (.bool true)∧Below w.heap.size w w':=by
 have hm2:¬ (200:Int)<m:=by omega
 have hm3:¬ (10:Int)<nn:=by omega
 have HL:=zz hg
 have HG:=zz hG
 have HK:=zz hK
 have HMN:=zz hMn
 clear hG hg hK hMn
 go_enter Tryz.func9,Tryz.ntmps9
 go_wp2_with fail
 refine (awake_any w HL.out HG.out).mono ?_
 rintro r w1 ⟨rfl,hb1⟩
 have HB1:=zz hb1
 clear hb1
 go_upto_region 5 with fail
 have HT0:=zz (Hold.new w1 txC 9)
 have hb2:Below w1.heap.size w1 (w1.alloc (.cells txC 9)):=(Below.refl _ w1).alloc (Nat.le_refl _) _
 have HB2:=zz (HB1.out.trans (hb2.mono HB1.out.size))
 have HG6:Hid (w.heap.size≤w1.heap.size):=HB1.out.size
 show Code.wp _ _ _ _ (w1.alloc (.cells txC 9))
 generalize w1.alloc (.cells txC 9)=w2 at *
 generalize w1.heap.size=g6 at *
 clear hb2 HB1
 go_wp2_with fail
 refine (signed_any [123] w2).mono ?_
 rintro r w3 ⟨rfl,hb3⟩
 have HB3:=zz (HB2.out.trans (hb3.mono HB2.out.size))
 have HT3:=zz (HT0.out.below hb3 HT0.out.lt)
 clear hb3 HB2 HT0
 unfold tkC sgn
 go_wp2_with fail
 refine (nameL_any [102] w3).mono ?_
 rintro r w4 ⟨rfl,hb4⟩
 have HB4:=zz (HB3.out.trans (hb4.mono HB3.out.size))
 have HT4:=zz (HT3.out.below hb4 HT3.out.lt)
 clear hb4 HB3 HT3
 unfold tkC nam
 go_upto_region 6 with fail
 have hTa:TR w.heap.size (w4.alloc (.cells (tcs [sgn [123],nam [102]]).toArray 51)) (.slice (some ⟨w4.heap.size,0,none⟩) 2 2) [sgn [123],nam [102]]:=TR.lit (l:=[sgn [123],nam [102]]) (fun t ht=>by
  rcases List.mem_cons.1 ht with rfl | ht
  ·exact tkb_sgn _ (by decide)
  ·obtain rfl:=List.mem_singleton.1 ht;exact tkb_nam _ (by decide)) (by decide) _ HB4.out.size
 have HTA:=zz hTa
 have hb5:Below w4.heap.size w4 (w4.alloc (.cells (tcs [sgn [123],nam [102]]).toArray 51)):=(Below.refl _ w4).alloc (Nat.le_refl _) _
 have HB5:=zz (HB4.out.trans (hb5.mono HB4.out.size))
 have HT5:=zz (HT4.out.below hb5 HT4.out.lt)
 show Code.wp _ _ _ _ (w4.alloc (.cells (tcs [sgn [123],nam [102]]).toArray 51))
 generalize w4.alloc (.cells (tcs [sgn [123],nam [102]]).toArray 51)=w5 at *
 clear hb5 HB4 HT4 hTa
 generalize w4.heap.size=ga at *
 go_wp2_with fail
 refine (signed_any [123] w5).mono ?_
 rintro r w6 ⟨rfl,hb6⟩
 have HB6:=zz (HB5.out.trans (hb6.mono HB5.out.size))
 have HT6:=zz (HT5.out.below hb6 HT5.out.lt)
 have HTA6:=zz (HTA.out.below hb6)
 clear hb6 HB5 HT5 HTA
 unfold tkC sgn
 go_wp2_with fail
 refine (nameL_any [102] w6).mono ?_
 rintro r w7 ⟨rfl,hb7⟩
 have HB7:=zz (HB6.out.trans (hb7.mono HB6.out.size))
 have HT7:=zz (HT6.out.below hb7 HT6.out.lt)
 have HTA7:=zz (HTA6.out.below hb7)
 clear hb7 HB6 HT6 HTA6
 unfold tkC nam
 go_wp2_with fail
 refine (signed_any [61] w7).mono ?_
 rintro r w8 ⟨rfl,hb8⟩
 have HB8:=zz (HB7.out.trans (hb8.mono HB7.out.size))
 have HT8:=zz (HT7.out.below hb8 HT7.out.lt)
 have HTA8:=zz (HTA7.out.below hb8)
 clear hb8 HB7 HT7 HTA7
 unfold tkC sgn
 go_upto_region 7 with fail
 have hTb:TR w.heap.size (w8.alloc (.cells (tcs [sgn [123],nam [102],sgn [61]]).toArray 51)) (.slice (some ⟨w8.heap.size,0,none⟩) 3 3) [sgn [123],nam [102],sgn [61]]:=TR.lit (l:=[sgn [123],nam [102],sgn [61]]) (fun t ht=>by
  rcases List.mem_cons.1 ht with rfl | ht
  ·exact tkb_sgn _ (by decide)
  ·rcases List.mem_cons.1 ht with rfl | ht
   ·exact tkb_nam _ (by decide)
   ·obtain rfl:=List.mem_singleton.1 ht;exact tkb_sgn _ (by decide)) (by decide) _ HB8.out.size
 have HTB:=zz hTb
 have hne:ga≠w8.heap.size:=by
  have h1:=TR.fresh HTA8.out
  intro e
  exact h1 (by rw [← e];rfl)
 have hb9:Below w8.heap.size w8 (w8.alloc (.cells (tcs [sgn [123],nam [102],sgn [61]]).toArray 51)):=(Below.refl _ w8).alloc (Nat.le_refl _) _
 have HB9:=zz (HB8.out.trans (hb9.mono HB8.out.size))
 have HT9:=zz (HT8.out.below hb9 HT8.out.lt)
 have HTA9:=zz (HTA8.out.below hb9)
 show Code.wp _ _ _ _ (w8.alloc (.cells (tcs [sgn [123],nam [102],sgn [61]]).toArray 51))
 generalize w8.alloc (.cells (tcs [sgn [123],nam [102],sgn [61]]).toArray 51)=w9 at *
 clear hb9 HB8 HT8 hTb HTA8
 generalize w8.heap.size=gb at *
 go_wp2_with fail
 go_loopw [7,8,9] (fun va vb vi wr=>∃ j:Nat,j≤nn∧vi=.int .i64 j∧TR w.heap.size wr va ([sgn [123],nam [102]] ++ ((xsOf ns).take j).map nam)∧TR w.heap.size wr vb ([sgn [123],nam [102],sgn [61]] ++ lamsT ((xsOf ns).take j))∧va.ownBlock≠vb.ownBlock∧Below w.heap.size w wr∧Hold g6 txC 9 wr) (fun _ _ i _=>nn - (intOf i).toNat)
 case atStart=>exact ⟨0,Nat.zero_le _,rfl,HTA9.out,HTB.out,fun e=>hne (Option.some.inj e),HB9.out,HT9.out⟩
 case round=>
  obtain ⟨j,hj,rfl,hTA,hTB,hne2,hBr,hTx⟩:=hrel
  by_cases hlt:j<nn
  ·obtain ⟨pb,po,rfl⟩:∃ b o,pn=some ⟨b,o,none⟩:=by
    rcases HMN.out with h | ⟨b,o,h,_⟩
    ·rw [h] at hln;simp at hln;omega
    ·exact ⟨b,o,h⟩
   have hjl:j<ns.length:=by omega
   have q0:wr.cell? ⟨pb,po+j,none⟩=some (.int .u8 ns[j].toNat):=by
    rcases HMN.out.below (Nat.le_refl _) hBr with h | ⟨b,o,h,_,h2⟩
    ·rw [h] at hln;simp at hln;omega
    ·cases h;exact h2 j _ (List.getElem?_eq_getElem hjl)
   have hmod:ns[j].toNat % 5<5:=Nat.mod_lt _ (by omega)
   have q1:=hTx.cell (ns[j].toNat % 5)
   rw [tx_at _ hmod] at q1
   have hrem:((ns[j].toNat:Nat):Int).tmod 5=((ns[j].toNat % 5:Nat):Int):=by rw [Int.ofNat_tmod];rfl
   have hu8:ns[j].toNat<256:=UInt8.toNat_lt _
   have htk:(xsOf ns).take (j+1)=(xsOf ns).take j ++ [txs.getD (ns[j].toNat % 5) []]:=by
    unfold xsOf
    rw [List.take_add_one,List.getElem?_map,List.getElem?_eq_getElem hjl]
    rfl
   have HTK:=zz htk
   have htl:=tx_len (ns[j].toNat % 5)
   clear htk
   generalize txs.getD (ns[j].toNat % 5) []=tx at *
   generalize ns[j].toNat % 5=k5 at *
   generalize hbv:ns[j].toNat=bv at *
   have HTA1:=zz hTA
   have HTB1:=zz hTB
   have HBR:=zz hBr
   have HTX:=zz hTx
   have HN2:=zz hne2
   clear hTA hTB hBr hTx hne2 hbv
   have hjI:(j:Int)<nn:=by omega
   have hk5:(k5:Int)<5:=by omega
   go_wp2_with fail
   refine (nameL_any tx wr).mono ?_
   rintro r v1 ⟨rfl,hb⟩
   have HBa:=zz (HBR.out.trans (hb.mono HBR.out.size))
   have HTXa:=zz (HTX.out.below hb HTX.out.lt)
   have HTAa:=zz (HTA1.out.below hb)
   have HTBa:=zz (HTB1.out.below hb)
   clear hb HBR HTX HTA1 HTB1 q0 q1
   unfold tkC nam
   go_upto_region 11 with fail
   have hz:=HBa.out.size
   have hb:Below v1.heap.size v1 (v1.alloc (.cells (tkC (nam tx)).toArray 51)):=(Below.refl _ _).alloc (Nat.le_refl _) _
   have HBb:=zz (HBa.out.trans (hb.mono hz))
   have HTXb:=zz (HTXa.out.below hb HTXa.out.lt)
   have HTAb:=zz (HTAa.out.below hb)
   have HTBb:=zz (HTBa.out.below hb)
   have HXb:=zz (Hold.new v1 (tkC (nam tx)).toArray 51)
   have HFb:Hid (u7.ownBlock≠some v1.heap.size∧u8.ownBlock≠some v1.heap.size∧w.heap.size≤v1.heap.size):=⟨TR.fresh HTAa.out,TR.fresh HTBa.out,hz⟩
   show Code.wp _ _ _ _ (v1.alloc (.cells (tkC (nam tx)).toArray 51))
   generalize v1.alloc (.cells (tkC (nam tx)).toArray 51)=v2 at *
   generalize v1.heap.size=gx at *
   clear hb hz HBa HTXa HTAa HTBa
   have c0:=HXb.out.cell 0
   have c1:=HXb.out.cell 1
   have c2:=HXb.out.cell 2
   have c3:=HXb.out.cell 3
   have c4:=HXb.out.cell 4
   unfold tkC nam at c0 c1 c2 c3 c4
   simp only [lGA,lGS,lGZ] at c0 c1 c2 c3 c4
   have hz2:=HBb.out.size
   have hb:Below v2.heap.size v2 (v2.alloc (.cells (tkC (nam tx)).toArray 51)):=(Below.refl _ _).alloc (Nat.le_refl _) _
   have HBc:=zz (HBb.out.trans (hb.mono hz2))
   have HTXc:=zz (HTXb.out.below hb HTXb.out.lt)
   have HTAc:=zz (HTAb.out.below hb)
   have HTBc:=zz (HTBb.out.below hb)
   have HXc:=zz (HXb.out.below hb HXb.out.lt)
   have HYc:=zz (Hold.new v2 (tkC (nam tx)).toArray 51)
   have HFc:Hid (u7.ownBlock≠some v2.heap.size∧w.heap.size≤(v2.alloc (.cells (tkC (nam tx)).toArray 51)).heap.size):=⟨TR.fresh HTAb.out,HBc.out.size⟩
   clear hb hz2 HBb HTXb HTAb HTBb HXb
   have hlen:([sgn [123],nam [102]] ++ ((xsOf ns).take j).map nam).length≤1000:=by
    rw [List.length_append,List.length_map,List.length_take]
    show 2+min j _≤1000
    omega
   go_wp2_with (at_builtin;refine wpList_appT rfl _ _ rfl w.heap.size u7 ([sgn [123],nam [102]] ++ ((xsOf ns).take j).map nam) rfl HTAc.out (some ⟨v2.heap.size,0,none⟩) 1 1 [nam tx] rfl rfl (KM.one' (P:=fun b=>True) trivial HYc.out (tkb_nam _ htl)) (fun h=>by cases h) (by omega) HFc.out.2 ?_;intro va v3 hTa hgr hob)
   have hBe:Below w.heap.size w v3:=⟨hgr.os.trans HBc.out.os,hgr.tape.trans HBc.out.tape,hgr.output.trans HBc.out.output,Nat.le_trans HBc.out.size hgr.size,fun b hb=>(hgr.block b (Nat.lt_of_lt_of_le hb HBc.out.size) (fun e=>absurd (TR.ge HTAc.out b e.symm) (by omega))).trans (HBc.out.block b hb)⟩
   have hTe:TR w.heap.size v3 u8 ([sgn [123],nam [102],sgn [61]] ++ lamsT ((xsOf ns).take j)):=HTBc.out.keep fun g hg hlt=>hgr.block g hlt fun e=>HN2.out (by rw [hg,← e])
   have hXe:Hold gx (tkC (nam tx)).toArray 51 v3:=(hgr.block _ HXc.out.lt fun e=>HFb.out.1 e.symm).trans HXc.out
   have hGe:Hold g6 txC 9 v3:=(hgr.block _ HTXc.out.lt (row_ne HTXc.out HTAc.out.1 (by decide))).trans HTXc.out
   have hne3:va.ownBlock≠u8.ownBlock:=by
    rcases hob with h | h
    ·rw [h];exact HN2.out
    ·rw [h];exact fun e=>TR.fresh HTBc.out e.symm
   have HBd:=zz hBe
   have HTBd:=zz hTe
   have HTAd:=zz hTa
   have HXd:=zz hXe
   have HGd:=zz hGe
   have HNd:=zz hne3
   clear hBe hTe hTa hXe hGe hne3 hgr hob HBc HTXc HTAc HTBc HXc HYc HFc c0 c1 c2 c3 c4
   refine region_J 7 (N:=6) (S:=fun W':World=>Hold gx (tkC (nam tx)).toArray 51 W') (by kernel_rfl) (by kernel_rfl) ?_
   have hS:(fun W':World=>Hold gx (tkC (nam tx)).toArray 51 W') v3.drew:=HXd.out
   refine take_F 0 57 u8 hS ?_
   refine take_E 2 59 (.agg #[.int .i64 2,.string (S tx),.int .i64 0,.int .i64 0,.int .i64 0]) rfl (Or.inl ⟨by rfl,fun W' hW=>by (have c0:=Hold.cell hW 0;have c1:=Hold.cell hW 1;have c2:=Hold.cell hW 2;have c3:=Hold.cell hW 3;have c4:=Hold.cell hW 4;unfold tkC nam at c0 c1 c2 c3 c4;simp only [lGA,lGS,lGZ] at c0 c1 c2 c3 c4;go_simp)⟩) hS ?_
   simp only [Act.put,lSI,lSZ,lSS]
   have HTd:Hid (TR w.heap.size v3.drew u8 ([sgn [123],nam [102],sgn [61]] ++ lamsT ((xsOf ns).take j))):=HTBd.out
   refine ready_1 1 (op_E fun K hK=>?_)
   go_simp
   refine (signed_any [92] v3.drew).mono ?_
   rintro r v4 ⟨rfl,hb⟩
   have hb':Below v3.heap.size v3 v4:=⟨hb.os,hb.tape,hb.output,hb.size,hb.block⟩
   have HBf:=zz (HBd.out.trans (hb'.mono HBd.out.size))
   have HTBf:=zz (HTBd.out.below hb')
   have HTAf:=zz (HTAd.out.below hb')
   have HXf:=zz (HXd.out.below hb' HXd.out.lt)
   have HGf:=zz (HGd.out.below hb' HGd.out.lt)
   refine hK _ _ ⟨fun _=>HXf.out,?_⟩
   clear hK K hb hb' HBd HTBd HTAd HXd HGd HTd hS
   refine ready_1 3 (op_E fun K hK=>?_)
   go_simp
   refine (signed_any [45,62] v4).mono ?_
   rintro r v5 ⟨rfl,hb⟩
   have HBh:=zz (HBf.out.trans (hb.mono HBf.out.size))
   have HTBh:=zz (HTBf.out.below hb)
   have HTAh:=zz (HTAf.out.below hb)
   have HXh:=zz (HXf.out.below hb HXf.out.lt)
   have HGh:=zz (HGf.out.below hb HGf.out.lt)
   refine hK _ _ ⟨fun _=>HXh.out,?_⟩
   clear hK K hb HBf HTBf HTAf HXf HGf
   refine ready_1 4 ?_
   unfold tkC sgn
   refine op_E fun K hK=>?_
   go_simp
   have hz:=HBh.out.size
   have hlit:TR w.heap.size (v5.alloc (.cells (tcs [sgn [92],nam tx,sgn [45,62]]).toArray 51)) (.slice (some ⟨v5.heap.size,0,none⟩) 3 3) [sgn [92],nam tx,sgn [45,62]]:=TR.lit (l:=[sgn [92],nam tx,sgn [45,62]]) (fun t ht=>by
    rcases List.mem_cons.1 ht with rfl | ht
    ·exact tkb_sgn _ (by decide)
    ·rcases List.mem_cons.1 ht with rfl | ht
     ·exact tkb_nam _ htl
     ·obtain rfl:=List.mem_singleton.1 ht;exact tkb_sgn _ (by decide)) (by show 3≤_;omega) _ hz
   have HLIT:=zz hlit.km
   have hb:Below v5.heap.size v5 (v5.alloc (.cells (tcs [sgn [92],nam tx,sgn [45,62]]).toArray 51)):=(Below.refl _ _).alloc (Nat.le_refl _) _
   have HBi:=zz (HBh.out.trans (hb.mono hz))
   have HTBi:=zz (HTBh.out.below hb)
   have HTAi:=zz (HTAh.out.below hb)
   have HXi:=zz (HXh.out.below hb HXh.out.lt)
   have HGi:=zz (HGh.out.below hb HGh.out.lt)
   refine hK _ (v5.alloc (.cells (tcs [sgn [92],nam tx,sgn [45,62]]).toArray 51)) ⟨fun _=>HXi.out,?_⟩
   clear hK K hb HBh HTBh HTAh HXh HGh hlit hz
   generalize v5.alloc (.cells (tcs [sgn [92],nam tx,sgn [45,62]]).toArray 51)=v6 at *
   generalize v5.heap.size=gy at *
   refine ready_1 5 ?_
   have hlen:([sgn [123],nam [102],sgn [61]] ++ lamsT ((xsOf ns).take j)).length≤1000:=by
    rw [List.length_append,lamsT_len,List.length_take]
    show 3+3 * min j _≤1000
    omega
   refine op_E fun K hK=>?_
   refine wp_appT (.tmp 57) (.tmp 61) rfl w.heap.size u8 ([sgn [123],nam [102],sgn [61]] ++ lamsT ((xsOf ns).take j)) rfl HTBi.out (some ⟨gy,0,none⟩) 3 3 [sgn [92],nam tx,sgn [45,62]] rfl rfl HLIT.out (fun h=>by cases h) (by omega) HBi.out.size ?_
   intro vb v7 hTb hgr hob
   have hBe:Below w.heap.size w v7:=⟨hgr.os.trans HBi.out.os,hgr.tape.trans HBi.out.tape,hgr.output.trans HBi.out.output,Nat.le_trans HBi.out.size hgr.size,fun b hb=>(hgr.block b (Nat.lt_of_lt_of_le hb HBi.out.size) (fun e=>absurd (TR.ge HTBi.out b e.symm) (by omega))).trans (HBi.out.block b hb)⟩
   have hTe:TR w.heap.size v7 va (([sgn [123],nam [102]] ++ ((xsOf ns).take j).map nam) ++ [nam tx]):=HTAi.out.keep fun g hg hlt=>hgr.block g hlt fun e=>HNd.out (by rw [hg,← e])
   have hXe:Hold gx (tkC (nam tx)).toArray 51 v7:=(hgr.block _ HXi.out.lt fun e=>HFb.out.2.1 e.symm).trans HXi.out
   have hGe:Hold g6 txC 9 v7:=(hgr.block _ HGi.out.lt (row_ne HGi.out HTBi.out.1 (by decide))).trans HGi.out
   have hne3:va.ownBlock≠vb.ownBlock:=by
    rcases hob with h | h
    ·rw [h];exact HNd.out
    ·rw [h];exact TR.fresh HTAi.out
   refine hK _ _ ⟨fun _=>hXe,?_⟩
   have HBj:=zz hBe
   have HTBj:=zz hTb
   have HTAj:=zz hTe
   have HGj:=zz hGe
   have HNj:=zz hne3
   clear hK K hBe hTe hTb hXe hGe hne3 hgr hob HBi HTBi HTAi HXi HGi HLIT hlen
   refine ready_1 6 (op_E fun K hK=>?_)
   go_simp
   refine hK _ _ ⟨fun h=>absurd h (by omega),?_⟩
   clear hK K
   refine done_J (by kernel_rfl) ?_ _
   go_wp2_with fail
   go_roundw
   case rel=>
    refine ⟨j+1,hlt,by simp,?_,?_,HNj.out,HBj.out,HGj.out⟩
    ·rw [HTK.out,List.map_append,← List.append_assoc];exact HTAj.out
    ·have e:lamsT ((xsOf ns).take (j+1))=lamsT ((xsOf ns).take j) ++ [sgn [92],nam tx,sgn [45,62]]:=by rw [HTK.out];unfold lamsT;rw [List.flatMap_append];rfl
     rw [e,← List.append_assoc];exact HTBj.out
   case measure=>simp [intOf];omega
  ·have hjn:j=nn:=by omega
   subst hjn
   have hx:(xsOf ns).take j=xsOf ns:=List.take_of_length_le (by unfold xsOf;rw [List.length_map];omega)
   have hxl:(xsOf ns).length=j:=by unfold xsOf;rw [List.length_map];omega
   rw [hx] at hTA hTB
   generalize xsOf ns=xs at *
   have HTA1:=zz hTA
   have HTB1:=zz hTB
   have HBR:=zz hBr
   have HN2:=zz hne2
   clear hTA hTB hBr hTx hne2 hx HTA9 HTB HT9 HB9 HMN
   have hjI:¬ (j:Int)<j:=by omega
   have hlA:([sgn [123],nam [102]] ++ xs.map nam).length≤100:=by
    rw [List.length_append,List.length_map]
    show 2+xs.length≤100
    omega
   have hlB:([sgn [123],nam [102],sgn [61]] ++ lamsT xs).length≤100:=by
    rw [List.length_append,lamsT_len]
    show 3+3 * xs.length≤100
    omega
   generalize hA:[sgn [123],nam [102]] ++ xs.map nam=A at *
   generalize hBb:[sgn [123],nam [102],sgn [61]] ++ lamsT xs=B at *
   go_wp2_with fail
   refine (signed_any [61] wr).mono ?_
   rintro r v1 ⟨rfl,hb⟩
   have HB1:=zz (HBR.out.trans (hb.mono HBR.out.size))
   have HTA2:=zz (HTA1.out.below hb)
   have HTB2:=zz (HTB1.out.below hb)
   clear hb HBR HTA1 HTB1
   unfold tkC sgn
   have hz:=HB1.out.size
   have hb:Below v1.heap.size v1 (v1.alloc (.cells (tcs [sgn [61]]).toArray 51)):=(Below.refl _ _).alloc (Nat.le_refl _) _
   have hlit:TR w.heap.size (v1.alloc (.cells (tcs [sgn [61]]).toArray 51)) (.slice (some ⟨v1.heap.size,0,none⟩) 1 1) [sgn [61]]:=TR.lit (l:=[sgn [61]]) (fun t ht=>by
    obtain rfl:=List.mem_singleton.1 ht;exact tkb_sgn _ (by decide)) (by decide) _ hz
   have HB2:=zz (HB1.out.trans (hb.mono hz))
   have HTA3:=zz (HTA2.out.below hb)
   have HTB3:=zz (HTB2.out.below hb)
   have HL3:=zz hlit.km
   have HGE:=zz HTA3.out.ge
   have HKM:=zz fun (W:World) (h:Below w.heap.size w W)=>HK.out.keep (Q:=fun b=>b<W.heap.size) (R':=fun t ds=>ds=tkC t∧t.tx.length≤281474976710656∧-9223372036854775808≤t.nu∧t.nu≤9223372036854775807) (KP.of_below h (fun b hb=>hb)) (fun b hb=>Nat.lt_of_lt_of_le hb h.size) (fun _ _ h=>h)
   have hlA2:(A ++ [sgn [61]]).length≤101:=by rw [List.length_append,List.length_singleton];omega
   clear hb hz hlit HB1 HTA2 HTB2
   go_wp2_with (first
    | (at_builtin;refine wpList_appT rfl _ _ rfl w.heap.size u7 A rfl HTA3.out (some ⟨v1.heap.size,0,none⟩) 1 1 [sgn [61]] rfl rfl HL3.out (fun h=>by cases h) (by omega) HB2.out.size ?_;intro va x1 hT1 hg1 ho1;have hb1:=bel_app HB2.out HGE.out hg1)
    | (at_builtin;refine wpList_appT rfl _ _ rfl w.heap.size va (A ++ [sgn [61]]) rfl hT1 p m c l rfl hl (HKM.out x1 hb1) hp (by omega) hb1.size ?_;intro va2 x2 hT2 hg2 ho2))
   have hb2:=bel_app hb1 hT1.ge hg2
   have hN1:=ne_app HN2.out.symm HTB3.out ho1
   have hTB4:=HTB3.out.other hg1 HN2.out.symm
   have hN3:=ne_app hN1 hTB4 ho2
   have HTB5:=zz (hTB4.other hg2 hN1)
   have HTA5:=zz hT2
   have HB5:=zz hb2
   have HN5:=zz hN3
   clear hb2 hN1 hTB4 hN3 hT2 hb1 hT1 hg1 ho1 hg2 ho2 HB2 HTA3 HTB3 HL3 HGE HN2
   refine (signed_any [125] x2).mono ?_
   rintro r v3 ⟨rfl,hb⟩
   have HB6:=zz (HB5.out.trans (hb.mono HB5.out.size))
   have HTA6:=zz (HTA5.out.below hb)
   have HTB6:=zz (HTB5.out.below hb)
   clear hb HB5 HTA5 HTB5
   unfold tkC sgn
   have hz:=HB6.out.size
   have hb:Below v3.heap.size v3 (v3.alloc (.cells (tcs [sgn [125]]).toArray 51)):=(Below.refl _ _).alloc (Nat.le_refl _) _
   have hlit:TR w.heap.size (v3.alloc (.cells (tcs [sgn [125]]).toArray 51)) (.slice (some ⟨v3.heap.size,0,none⟩) 1 1) [sgn [125]]:=TR.lit (l:=[sgn [125]]) (fun t ht=>by
    obtain rfl:=List.mem_singleton.1 ht;exact tkb_sgn _ (by decide)) (by decide) _ hz
   have HB7:=zz (HB6.out.trans (hb.mono hz))
   have HTA7:=zz (HTA6.out.below hb)
   have HTB7:=zz (HTB6.out.below hb)
   have HL7:=zz hlit.km
   have hlA3:((A ++ [sgn [61]]) ++ l).length≤400:=by rw [List.length_append];omega
   clear hb hz hlit HB6 HTA6 HTB6
   go_upto_region 14 with (at_builtin;refine wpList_appT rfl _ _ rfl w.heap.size va2 ((A ++ [sgn [61]]) ++ l) rfl HTA7.out (some ⟨v3.heap.size,0,none⟩) 1 1 [sgn [125]] rfl rfl HL7.out (fun h=>by cases h) (by omega) HB7.out.size ?_;intro va3 x3 hT3 hg3 ho3)
   have HB8:=zz (bel_app HB7.out HTA7.out.ge hg3)
   have HTA8:=zz hT3
   have HTB8:=zz (HTB7.out.other hg3 HN5.out)
   have HN8:=zz (ne_app HN5.out HTB7.out ho3)
   clear hT3 hg3 ho3 HB7 HTA7 HTB7 HL7 HN5
   go_wp2_with (at_builtin;refine wpList_appT rfl _ _ rfl w.heap.size u8 B rfl HTB8.out p m c l rfl hl (HKM.out x3 HB8.out) hp (by omega) HB8.out.size ?_;intro vb1 x4 hT4 hg4 ho4)
   have HB9:=zz (bel_app HB8.out HTB8.out.ge hg4)
   have HTB9:=zz hT4
   have HTA9:=zz (HTA8.out.other hg4 HN8.out.symm)
   have HN9:=zz (ne_app HN8.out.symm HTA8.out ho4)
   clear hT4 hg4 ho4 HB8 HTA8 HTB8 HN8
   refine (signed_any [125] x4).mono ?_
   rintro r v5 ⟨rfl,hb⟩
   have HBa:=zz (HB9.out.trans (hb.mono HB9.out.size))
   have HTAa:=zz (HTA9.out.below hb)
   have HTBa:=zz (HTB9.out.below hb)
   clear hb HB9 HTA9 HTB9
   unfold tkC sgn
   have hz:=HBa.out.size
   have hb:Below v5.heap.size v5 (v5.alloc (.cells (tcs [sgn [125]]).toArray 51)):=(Below.refl _ _).alloc (Nat.le_refl _) _
   have hlit:TR w.heap.size (v5.alloc (.cells (tcs [sgn [125]]).toArray 51)) (.slice (some ⟨v5.heap.size,0,none⟩) 1 1) [sgn [125]]:=TR.lit (l:=[sgn [125]]) (fun t ht=>by
    obtain rfl:=List.mem_singleton.1 ht;exact tkb_sgn _ (by decide)) (by decide) _ hz
   have HBb:=zz (HBa.out.trans (hb.mono hz))
   have HTAb:=zz (HTAa.out.below hb)
   have HTBb:=zz (HTBa.out.below hb)
   have HLb:=zz hlit.km
   have hlB3:(B ++ l).length≤400:=by rw [List.length_append];omega
   clear hb hz hlit HBa HTAa HTBa
   go_upto_region 15 with (at_builtin;refine wpList_appT rfl _ _ rfl w.heap.size vb1 (B ++ l) rfl HTBb.out (some ⟨v5.heap.size,0,none⟩) 1 1 [sgn [125]] rfl rfl HLb.out (fun h=>by cases h) (by omega) HBb.out.size ?_;intro vb2 x5 hT5 hg5 ho5)
   have HBc:=zz (bel_app HBb.out HTBb.out.ge hg5)
   have HTBc:=zz hT5
   have HTAc:=zz (HTAb.out.other hg5 HN9.out)
   clear hT5 hg5 ho5 HBb HTBb HTAb HN9 HLb HKM
   have hLA:A ++ [sgn [61]] ++ l ++ [sgn [125]]=sgn sCurl :: nam [102] :: (xs.map nam ++ sgn sEq :: (l ++ [sgn [125]])):=by
    rw [← hA];simp only [List.cons_append,List.nil_append,List.append_assoc];rfl
   have hLB:B ++ l ++ [sgn [125]]=sgn sCurl :: nam [102] :: sgn sEq :: (lamsT xs ++ (l ++ [sgn [125]])):=by
    rw [← hBb];simp only [List.cons_append,List.nil_append,List.append_assoc];rfl
   have hEq:outP (progRun (A ++ [sgn [61]] ++ l ++ [sgn [125]]))=outP (progRun (B ++ l ++ [sgn [125]])):=by
    rw [hLA,hLB];exact params [102] xs (l ++ [sgn [125]])
   have hla:(A ++ [sgn [61]] ++ l ++ [sgn [125]]).length≤1000:=by rw [List.length_append,List.length_singleton];omega
   have hlb:(B ++ l ++ [sgn [125]]).length≤1000:=by rw [List.length_append,List.length_singleton];omega
   obtain ⟨hE1,hE2⟩:=out_eq hEq
   generalize A ++ [sgn [61]] ++ l ++ [sgn [125]]=LA at *
   generalize B ++ l ++ [sgn [125]]=LB at *
   have HE1:=zz hE1
   have HE2:=zz hE2
   clear hLA hLB hEq hA hBb hE1 hE2 hlA hlB hlA2 hlA3 hlB3
   obtain ⟨qa,ca,rfl,_,_⟩:=HTAc.out.slice
   obtain ⟨qb,cb,rfl,_,_⟩:=HTBc.out.slice
   generalize hna:LA.length=na at *
   generalize hnb:LB.length=nb at *
   have HNA:=zz hna
   have HNB:=zz hnb
   clear hna hnb
   go_wp2_with fail
   refine (pprog_any (fun b hb=>hb.2) HNA.out HTAc.out.km (by omega)).mono ?_
   rintro r y1 ⟨pd,cd,pf,cf,rfl,hPa,hb⟩
   have HBd:=zz (HBc.out.trans (hb.mono HBc.out.size))
   have HTBd:=zz (HTBc.out.below hb)
   have HPa:=zz (PgIn2.mono2 (Q':=QU y1) (P':=fun b=>b<y1.heap.size) (KP.refl _ _) (KP.refl _ _) (fun b hb=>hb) (fun b hb=>hb.1) _ _ hPa)
   clear hb hPa HBc HTBc HTAc
   generalize progOut LA=EA at *
   obtain ⟨EA,⟨a0,a1⟩,ea⟩:=EA
   simp only at HE1 HE2 HPa ⊢
   go_upto_region 16 with fail
   obtain ⟨nB,n0⟩:=two_new2 y1 #[.slice pd EA.ds.length cd,.slice pf EA.fs.length cf] #[.int .i64 a0,.int .i64 a1] 38 29
   have HBe:=zz (HBd.out.trans (nB.mono HBd.out.size))
   have HTBe:=zz (HTBd.out.below nB)
   have HPe:=zz (pgin_to HPa.out nB)
   have HHe:=zz n0
   generalize (y1.alloc (.cells #[.slice pd EA.ds.length cd,.slice pf EA.fs.length cf] 38)).alloc (.cells #[.int .i64 a0,.int .i64 a1] 29)=y2 at *
   generalize y1.heap.size=ba at *
   clear nB n0 HBd HTBd HPa
   go_wp2_with fail
   refine (pprog_any (fun b hb=>hb.2) HNB.out HTBe.out.km (by omega)).mono ?_
   rintro r y3 ⟨pd2,cd2,pf2,cf2,rfl,hPb,hb⟩
   have HBf:=zz (HBe.out.trans (hb.mono HBe.out.size))
   have HPf:=zz (pgin_to HPe.out hb)
   have HHf:=zz (HHe.out.below hb HHe.out.lt)
   have HQf:=zz (PgIn2.mono2 (Q':=QU y3) (P':=fun b=>b<y3.heap.size) (KP.refl _ _) (KP.refl _ _) (fun b hb=>hb) (fun b hb=>hb.1) _ _ hPb)
   clear hb hPb HBe HTBe HPe HHe
   generalize progOut LB=EB at *
   obtain ⟨EB,⟨b0,b1⟩,eb⟩:=EB
   simp only at HE1 HE2 HQf ⊢
   go_upto_region 17 with fail
   obtain ⟨nB,n0⟩:=two_new2 y3 #[.slice pd2 EB.ds.length cd2,.slice pf2 EB.fs.length cf2] #[.int .i64 b0,.int .i64 b1] 38 29
   have HBg:=zz (HBf.out.trans (nB.mono HBf.out.size))
   have HPg:=zz (pgin_at HPf.out nB)
   have HQg:=zz (pgin_at HQf.out nB)
   have HHg:=zz (HHf.out.below nB HHf.out.lt)
   have HIg:=zz n0
   generalize (y3.alloc (.cells #[.slice pd2 EB.ds.length cd2,.slice pf2 EB.fs.length cf2] 38)).alloc (.cells #[.int .i64 b0,.int .i64 b1] 29)=y4 at *
   generalize y3.heap.size=bb at *
   clear nB n0 HBf HPf HQf HHf
   have k1:=HE1.out
   have k2:=HE2.out
   subst k1 k2
   have c0:=HHg.out.cell 0
   have c1:=HHg.out.cell 1
   have d0:=HIg.out.cell 0
   have d1:=HIg.out.cell 1
   simp only [lGA,lGS,lGZ] at c0 c1 d0 d1
   have HS:=zz (same_prog (fun b hb=>hb) HPg.out HQg.out)
   go_wp2_with fail
   refine HS.out.mono ?_
   rintro r y5 ⟨ht,-,hb⟩
   obtain rfl:=ht trivial
   have HBh:=zz (HBg.out.trans (hb.mono HBg.out.size))
   clear hb ht
   go_wp2_with fail
   go_ret
   exact ⟨rfl,HBh.out⟩
theorem params_long {pn p:Option Addr} {nn nc m c:Nat} (w:World) (hg:Ly.Glob w) (hG:GP (fun b=>b<w.heap.size) w) (hm:10<nn∨200<m):Calls Tryz.prog 9 #[.slice pn nn nc,.slice p m c] w fun e w'=>e=.returned (.bool true)∧Below w.heap.size w w':=by
 by_cases h1:10<nn
 ·have hm2:(10:Int)<nn:=by omega
  go_enter Tryz.func9,Tryz.ntmps9
  go_wp2_with fail
  refine (awake_any w hg hG).mono ?_
  rintro r w1 ⟨rfl,hb1⟩
  have HB1:=zz hb1
  clear hb1
  go_wp2_with fail
  go_ret
  exact ⟨rfl,HB1.out⟩
 ·have hm2:¬ (10:Int)<nn:=by omega
  have hm3:(200:Int)<m:=by omega
  clear hm h1
  go_enter Tryz.func9,Tryz.ntmps9
  go_wp2_with fail
  refine (awake_any w hg hG).mono ?_
  rintro r w1 ⟨rfl,hb1⟩
  have HB1:=zz hb1
  clear hb1
  go_wp2_with fail
  go_ret
  exact ⟨rfl,HB1.out⟩
end Go.Proofs.YtcnnlecjdkfdjaaGreatDoor
namespace Go.Proofs.YtcnnlecjdkfdjaaGreatDoor.parseParams
open Go.ChangeShapes Go.WideShapes Go.ChangeAt Go.RowKit
theorem walk (pn:Option Addr) (ns:List UInt8) (nn nc:Nat) (p:Option Addr) (l:List Tk) (c:Nat) (W:World) (hg:Ly.Glob W∧GP (fun b=>b<W.heap.size) W) (hln:ns.length=nn) (hnc:nn≤nc) (hMn:Ly.Mem W pn ns) (hs:SlOK p l.length c) (hK:KM (fun b=>b<W.heap.size) W p l) :
 Calls Tryz.prog 9 #[.slice pn nn nc,.slice p l.length c] W fun e W'=>e=.returned (.bool true)∧Below W.heap.size W W':=by
 by_cases h:10<nn∨200<l.length
 ·exact params_long W hg.1 hg.2 h
 ·exact params_walk W hln (by omega) hnc hMn rfl (by omega) hs.1 hK hs.2.2 hg.1 hg.2
theorem lifted (os:Os) (started:os.Started) (H:Type) (enc:TypeId × Value→H) :
 ReturnsInHanded {} Tryz.checked os 9 .any (fun w args=>(Rows.parseParamsSpec.pre enc Tryz.prog Tryz.f9 Rows.parseParamsRow.domain false w args∧laidMetH Tryz.prog Rows.parseParamsRow.laid w)∧sizedMet enc Tryz.prog Tryz.f9 (OpenSpec.ofChange Rows.parseParamsSpec) false w args)
  (Rows.parseParamsSpec.post enc Tryz.prog Tryz.f9 false true false false):=by
 refine returnsInHanded_of_change_and (C:=Tryz.checked) (X:=fun w _=>laidMetH Tryz.prog Rows.parseParamsRow.laid w) (fun _ _ _ hh h=>h.of_heap hh) own started (by kernel_rfl) Tryz.func9
  (ChangeSpec.witness_shaped (enc:=enc) (C:=Tryz.checked) (os:=os) (X:=fun w _=>laidMetH Tryz.prog Rows.parseParamsRow.laid w) false (World.doorLaid Tryz.prog 400 os) #[.slice none 0 0,.slice none 0 0] 8 rfl (World.shaped_of_RefB (by kernel_rfl) (by kernel_rfl)) (by kernel_rfl) (by kernel_rfl) (by kernel_rfl) (door_met os _)) ?_
 intro W base args ds gs before hval0 hW _ hz hL _
 have hval:∀ (j:Nat) t v,Tryz.f9.params[j]?=some t→args[j]?=some v→Value.okWide Tryz.prog W .any base t v:=hval0
 have hW':=hW
 obtain ⟨p,q,hA0,hV,rfl,_,_⟩:=hW
 have hA:DataW.TrodAll enc Tryz.prog W 0 (fun _=>true) true Tryz.f9.params.toList args.toList ds p:=hA0
 have hz':(DataW.weightsEach Tryz.prog (Tryz.f9.params.toList ++ Rows.parseParamsSpec.plain.varTypes Tryz.prog) (ds ++ gs)).all (·≤reachBytes)=true:=hz
 rw [Tryz.params9] at hA hval hz'
 obtain ⟨v0,vs0,d0,ds0,p0,q0,hargs,rfl,rfl,h0,r0⟩:=trodAll_cons hA
 obtain ⟨v1,vs1,d1,ds1,p1,q1,rfl,rfl,rfl,h1,r1⟩:=trodAll_cons r0
 obtain ⟨rfl,rfl,rfl⟩:=trodAll_nil r1
 obtain rfl:args=#[v0,v1]:=by cases args;simp_all
 obtain ⟨rfl,rfl⟩:=trodVars_none hV
 have hw1:light 22 d1:=by
  unfold light
  simp only [List.cons_append,List.nil_append,DataW.weightsEach,List.all_append,Bool.and_eq_true] at hz'
  exact hz'.2.1
 obtain ⟨a0,n0,c0,rfl⟩:=okWide_slice Tryz.underlying42 (hval 0 42 v0 rfl rfl)
 obtain ⟨ns,hln,hnc,hMn,_⟩:=bytes_of h0
 obtain ⟨a1,l,c1,rfl,hs1,hK1⟩:=toks_of h1 (okWide_slice Tryz.underlying22 (hval 1 22 v1 rfl rfl)) hw1
 clear hA0 hval0 hz
 simp only [List.append_nil] at hW'
 have hlt:∀ y ∈ p0 ++ p1,y.block<W.heap.size:=fun y hy=>by simpa using hW'.lt y (by simpa using hy)
 refine (walk a0 ns n0 c0 a1 l c1 W (glob_of hL) hln hnc hMn hs1 hK1).mono fun e W' ⟨he,hnx⟩=>?_
 subst he
 have harg0:DataW.Trod enc Tryz.prog W' 0 (fun b=>decide (b<W.heap.size)) true 42 (.slice a0 n0 c0) d0 p0:=
  Below.trod laidOut (by kernel_rfl) (of_decide_eq_true (by kernel_rfl)) h0 hnx fun y hy=>hlt y (List.mem_append_left _ hy)
 have harg1:DataW.Trod enc Tryz.prog W' 0 (fun b=>decide (b<W.heap.size)) true 22 (.slice a1 l.length c1) d1 p1:=
  Below.trod laidOut (by kernel_rfl) (of_decide_eq_true (by kernel_rfl)) h1 hnx fun y hy=>hlt y (List.mem_append_right _ hy)
 refine ⟨_,rfl,_,_,_,[],_,[],hW',?_,(trodAll_cons_mk harg0 (trodAll_cons_mk harg1 trodAll_mk0)),rfl,hnx.frame _,fun h=>by cases h⟩
 exact trodAll_mk1 (shut_bool Tryz.underlying4 _)
theorem over:Rows.ParseParamsSaid:=
 OpenClaim.holds_of_wide 9 Tryz.f9 rfl rfl rfl rfl rfl rfl rfl ⟨rfl,rfl,rfl,rfl,rfl⟩ rfl rfl rfl rfl rfl (by kernel_rfl) Tryz.func9 (by kernel_rfl)
  (of_decide_eq_true (by kernel_rfl)) (by unfold Func.isWrapper;first | (rw [if_pos (by decide +kernel)];kernel_rfl) | (rw [if_neg (by decide +kernel)];exact ⟨rfl,rfl⟩))
  (fun os started H enc _=>lifted os started H enc)
theorem proved:Rows.ParseParamsCardSaid:=
 Claim7.holds_tied_plain_at .later [] [.data,.data,.data,.sentinel,.sentinel] true Rows.parseParamsCard.stood.harness true
  over (fun _ h=>by cases h) (by kernel_rfl) (fun _ h=>by cases h) parseParams_row_tie rfl ⟨rfl,rfl⟩ (by kernel_rfl) rfl
  (fun f fn hf hfn=>by
   obtain rfl:f=9:=Option.some.inj ((show Tryz.prog.funcNamed Rows.parseParamsRow.func=some 9 by kernel_rfl).symm.trans hf) |>.symm
   obtain rfl:fn=Tryz.f9:=(Option.some.inj (Tryz.func9.symm.trans hfn)).symm
   exact ⟨by kernel_rfl,fun j t ht=>by
    rw [Tryz.params9] at ht
    have hm:t ∈ [42,22]:=by simpa using Array.mem_of_getElem? ht
    have hall:([42,22].all fun u=>!Tryz.prog.wantsStandIn u)=true:=by kernel_rfl
    exact (show Tryz.prog.wantsStandIn t=false by simpa using List.all_eq_true.1 hall t hm)⟩)
  (by kernel_rfl)
#print axioms proved
end Go.Proofs.YtcnnlecjdkfdjaaGreatDoor.parseParams
