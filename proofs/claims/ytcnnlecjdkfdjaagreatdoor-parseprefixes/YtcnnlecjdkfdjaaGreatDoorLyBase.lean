/- LyLeaf LyBase: the texts of these names, of which the claim is made. -/
import Derived.Test.YtcnnlecjdkfdjaaGreatDoorLyMath
set_option linter.unusedVariables false
set_option linter.unusedSimpArgs false
set_option maxRecDepth 100000
set_option maxHeartbeats 8000000
namespace Go.Proofs.YtcnnlecjdkfdjaaGreatDoor.Ly
open Go.RowKit
theorem hide {p:Prop} (h:p):Hid p:=h
def S (l:List UInt8):ByteArray:=⟨l.toArray⟩
theorem S_data (l:List UInt8):(S l).data.toList=l:=rfl
theorem S_list (l:List UInt8):(S l).toList=l:=by rw [ByteArray.toList_eq];rfl
theorem S_size (l:List UInt8):(S l).size=l.length:=by simp [S,ByteArray.size]
theorem S_of (s:ByteArray):S s.data.toList=s:=by cases s;simp [S]
theorem digit_any (c:UInt8) (w:World):Calls Tryz.prog 96 #[.int .u8 c.toNat] w fun e w'=>e=.returned (.bool (dg c))∧w'=w:=by
 unfold dg
 generalize (c.toNat:Int)=n
 by_cases h:48≤n <;>
 ·go_enter Tryz.func96,Tryz.ntmps96
  go_wp2
  go_ret
  exact ⟨by simp;try omega,rfl⟩
theorem small_any (c:UInt8) (w:World):Calls Tryz.prog 144 #[.int .u8 c.toNat] w fun e w'=>e=.returned (.bool (sm c))∧w'=w:=by
 unfold sm
 generalize (c.toNat:Int)=n
 by_cases h:97≤n <;>
 ·go_enter Tryz.func144,Tryz.ntmps144
  go_wp2
  go_ret
  exact ⟨by simp;try omega,rfl⟩
theorem great_any (c:UInt8) (w:World):Calls Tryz.prog 165 #[.int .u8 c.toNat] w fun e w'=>e=.returned (.bool (gr c))∧w'=w:=by
 unfold gr
 generalize (c.toNat:Int)=n
 by_cases h:65≤n <;>
 ·go_enter Tryz.func165,Tryz.ntmps165
  go_wp2
  go_ret
  exact ⟨by simp;try omega,rfl⟩
theorem inWord_any (c:UInt8) (w:World):Calls Tryz.prog 166 #[.int .u8 c.toNat] w fun e w'=>e=.returned (.bool (pt c))∧w'=w:=by
 unfold pt
 cases h1:sm c
 ·cases h2:gr c
  ·go_enter Tryz.func166,Tryz.ntmps166
   go_wp2_with fail
   refine (small_any _ _).mono ?_;rintro e w' ⟨rfl,rfl⟩;rw [h1]
   go_wp2_with fail
   refine (great_any _ _).mono ?_;rintro e w' ⟨rfl,rfl⟩;rw [h2]
   go_wp2_with fail
   refine (digit_any _ _).mono ?_;rintro e w' ⟨rfl,rfl⟩
   go_wp2_with fail
   go_ret
   exact ⟨by simp,rfl⟩
  ·go_enter Tryz.func166,Tryz.ntmps166
   go_wp2_with fail
   refine (small_any _ _).mono ?_;rintro e w' ⟨rfl,rfl⟩;rw [h1]
   go_wp2_with fail
   refine (great_any _ _).mono ?_;rintro e w' ⟨rfl,rfl⟩;rw [h2]
   go_wp2_with fail
   go_ret
   exact ⟨by simp,rfl⟩
 ·go_enter Tryz.func166,Tryz.ntmps166
  go_wp2_with fail
  refine (small_any _ _).mono ?_;rintro e w' ⟨rfl,rfl⟩;rw [h1]
  go_wp2_with fail
  go_ret
  exact ⟨by simp,rfl⟩
theorem keyWord_any (l:List UInt8) (w:World):Calls Tryz.prog 145 #[.string (S l)] w fun e w'=>e=.returned (.bool (kw l))∧w'=w:=by
 have hl:=S_list l
 unfold kw
 generalize S l=s at *
 subst hl
 go_enter Tryz.func145,Tryz.ntmps145
 go_wp2
 all_goals first | (exfalso;simp_all;done) | skip
 all_goals go_ret
 all_goals exact ⟨by simp_all,rfl⟩
theorem sign_any (l:List UInt8) (w:World):Calls Tryz.prog 164 #[.string (S l)] w fun e w'=>e=.returned (.bool (sg l))∧w'=w:=by
 have hl:=S_list l
 unfold sg
 generalize S l=s at *
 subst hl
 go_enter Tryz.func164,Tryz.ntmps164
 go_wp2
 all_goals first | (exfalso;simp_all;done) | skip
 all_goals go_ret
 all_goals exact ⟨by simp_all,rfl⟩
theorem key_any (l:List UInt8) (w:World):Calls Tryz.prog 98 #[.string (S l)] w fun e w'=>e=.returned (.bool (ky l))∧w'=w:=by
 unfold ky
 cases h:kw l
 ·go_enter Tryz.func98,Tryz.ntmps98
  go_wp2_with fail
  refine (keyWord_any _ _).mono ?_;rintro e w' ⟨rfl,rfl⟩;rw [h]
  go_wp2_with fail
  refine (sign_any _ _).mono ?_;rintro e w' ⟨rfl,rfl⟩
  go_wp2_with fail
  go_ret
  exact ⟨by simp,rfl⟩
 ·go_enter Tryz.func98,Tryz.ntmps98
  go_wp2_with fail
  refine (keyWord_any _ _).mono ?_;rintro e w' ⟨rfl,rfl⟩;rw [h]
  go_wp2_with fail
  go_ret
  exact ⟨by simp,rfl⟩
theorem all_take_succ (p:UInt8→Bool) (l:List UInt8) (k:Nat) (h:k<l.length):(l.take (k+1)).all p=((l.take k).all p && p l[k]):=by
 rw [List.take_succ_eq_append_getElem h,List.all_append];simp
theorem all_of_bad (p:UInt8→Bool) (l:List UInt8) (k:Nat) (h:k<l.length) (hb:p l[k]=false):l.all p=false:=by
 rw [List.all_eq_false];exact ⟨l[k],List.getElem_mem h,by simp [hb]⟩
theorem dget (s:ByteArray) (k:Nat) (h:k<s.size) (h':k<s.data.toList.length):s[k]=s.data.toList[k]:=rfl
theorem dlen (s:ByteArray):s.data.toList.length=s.size:=Array.length_toList
theorem word_str (s:ByteArray) (w:World) (hl:s.size≤281474976710656):Calls Tryz.prog 143 #[.string s] w fun e w'=>e=.returned (.bool (wd s.data.toList))∧w'=w:=by
 have hs:=ByteArray.toList_eq s
 have hz:=dlen s
 by_cases h0:s.size=0
 ·have e0:s.data.toList=[]:=List.length_eq_zero_iff.1 (by omega)
  have H:Hid (wd s.data.toList=false):=by show wd s.data.toList=false;rw [e0];rfl
  have h1:(s.toList == [])=true:=by rw [hs,e0];rfl
  clear h0 hs e0 hz
  go_enter Tryz.func143,Tryz.ntmps143
  go_wp2
  go_ret
  exact ⟨by rw [H.out];rfl,rfl⟩
 ·have h1:(s.toList == [])=false:=by
   rw [hs];cases h:s.data.toList with | nil=>rw [h] at hz;simp at hz;omega | cons a b=>rfl
  have hne:s.data.toList.isEmpty=false:=by cases h:s.data.toList with | nil=>rw [h] at hz;simp at hz;omega | cons a b=>rfl
  by_cases h20:20<(s.size:Int)
  ·have H:Hid (wd s.data.toList=false):=by show wd s.data.toList=false;unfold wd;rw [hz,show decide (s.size≤20)=false from by simp;omega];simp
   clear h0 hs hne hz
   go_enter Tryz.func143,Tryz.ntmps143
   go_wp2
   go_ret
   exact ⟨by rw [H.out];rfl,rfl⟩
  ·have H:Hid (wd s.data.toList=s.data.toList.all pt):=by
    show wd s.data.toList=s.data.toList.all pt;unfold wd;rw [hne,hz,show decide (s.size≤20)=true from by simp;omega];simp
   have HZ:=hide hz
   clear h0 hs hne hz
   go_enter Tryz.func143,Tryz.ntmps143
   go_wp2
   go_loop [13] (fun i=>∃ k:Nat,k≤s.size∧i=.int .i64 k∧(s.data.toList.take k).all pt=true) (fun i=>s.size - (intOf i).toNat)
   case atStart=>exact ⟨0,Nat.zero_le _,rfl,rfl⟩
   case round=>
    obtain ⟨k,hk,rfl,hall⟩:=hrel
    have HA:=hide hall
    clear hall
    by_cases hlt:k<s.size
    ·have hlt':k<s.data.toList.length:=by rw [HZ.out];exact hlt
     have HT:=hide (all_take_succ pt _ k hlt')
     have hb:=all_of_bad pt _ k hlt'
     have HD:=hide (dget s k hlt hlt')
     cases hq:pt s[k]
     ·have HB:=hide (hb hq)
      clear hb
      go_wp2_with fail
      refine (inWord_any _ _).mono ?_;rintro e w' ⟨rfl,rfl⟩;rw [hq]
      go_wp2_with fail
      go_ret
      exact ⟨by rw [H.out,HB.out];rfl,rfl⟩
     ·clear hb
      have HQ:=hide hq
      go_wp2_with fail
      refine (inWord_any _ _).mono ?_;rintro e w' ⟨rfl,rfl⟩;rw [HQ.out]
      go_wp2_with fail
      go_round
      case rel=>exact ⟨k+1,by omega,by go_num,by rw [HT.out,HA.out,← HD.out,HQ.out];rfl⟩
      case measure=>simp [intOf];omega
    ·go_wp2
     go_ret
     exact ⟨by rw [H.out,← HA.out,List.take_of_length_le (by rw [HZ.out];omega)];rfl,rfl⟩
theorem name_str (s:ByteArray) (w:World) (hl:s.size≤281474976710656):Calls Tryz.prog 78 #[.string s] w fun e w'=>e=.returned (.bool (nm s.data.toList))∧w'=w:=by
 have hz:=dlen s
 cases hw:wd s.data.toList
 ·have H:Hid (nm s.data.toList=false):=by show nm s.data.toList=false;unfold nm;rw [hw];rfl
  go_enter Tryz.func78,Tryz.ntmps78
  go_wp2_with fail
  refine (word_str s _ hl).mono ?_;rintro e w' ⟨rfl,rfl⟩;rw [hw]
  go_wp2_with fail
  go_ret
  exact ⟨by rw [H.out];rfl,rfl⟩
 ·have h0:0<s.size:=by
   cases h:s.data.toList with | nil=>rw [h] at hw;simp [wd] at hw | cons a b=>rw [h] at hz;simp at hz;omega
  have hh:s.data.toList.headD 0=s[0]:=by
   cases s with | mk d=>cases d with | mk l=>cases l with | nil=>simp [ByteArray.size] at h0 | cons a b=>rfl
  cases hq:sm s[0]
  ·have H:Hid (nm s.data.toList=false):=by show nm s.data.toList=false;unfold nm;rw [hh,hq,Bool.and_false,Bool.false_and]
   have HQ:=hide hq
   have HW:=hide hw
   clear hh hq hw hz
   go_enter Tryz.func78,Tryz.ntmps78
   go_wp2_with fail
   refine (word_str s _ hl).mono ?_;rintro e w' ⟨rfl,rfl⟩;rw [HW.out]
   go_wp2_with fail
   refine (small_any _ _).mono ?_;rintro e w' ⟨rfl,rfl⟩;rw [HQ.out]
   go_wp2_with fail
   go_ret
   exact ⟨by rw [H.out];rfl,rfl⟩
  ·have H:Hid (nm s.data.toList=!kw s.data.toList):=by show nm s.data.toList=!kw s.data.toList;unfold nm;rw [hh,hq,hw,Bool.and_true,Bool.true_and]
   have HQ:=hide hq
   have HW:=hide hw
   have HS:=hide (S_of s)
   clear hh hq hw hz
   go_enter Tryz.func78,Tryz.ntmps78
   go_wp2_with fail
   refine (word_str s _ hl).mono ?_;rintro e w' ⟨rfl,rfl⟩;rw [HW.out]
   go_wp2_with fail
   refine (small_any _ _).mono ?_;rintro e w' ⟨rfl,rfl⟩;rw [HQ.out]
   go_wp2_with fail
   have hk:=keyWord_any s.data.toList w'
   rw [HS.out] at hk
   refine hk.mono ?_;rintro e w' ⟨rfl,rfl⟩
   clear hk
   go_wp2_with fail
   go_ret
   exact ⟨by rw [H.out];rfl,rfl⟩
theorem con_str (s:ByteArray) (w:World) (hl:s.size≤281474976710656):Calls Tryz.prog 99 #[.string s] w fun e w'=>e=.returned (.bool (cn s.data.toList))∧w'=w:=by
 have hz:=dlen s
 cases hw:wd s.data.toList
 ·have H:Hid (cn s.data.toList=false):=by show cn s.data.toList=false;unfold cn;rw [hw];rfl
  go_enter Tryz.func99,Tryz.ntmps99
  go_wp2_with fail
  refine (word_str s _ hl).mono ?_;rintro e w' ⟨rfl,rfl⟩;rw [hw]
  go_wp2_with fail
  go_ret
  exact ⟨by rw [H.out];rfl,rfl⟩
 ·have h0:0<s.size:=by
   cases h:s.data.toList with | nil=>rw [h] at hw;simp [wd] at hw | cons a b=>rw [h] at hz;simp at hz;omega
  have hh:s.data.toList.headD 0=s[0]:=by
   cases s with | mk d=>cases d with | mk l=>cases l with | nil=>simp [ByteArray.size] at h0 | cons a b=>rfl
  have H:Hid (cn s.data.toList=gr s[0]):=by show cn s.data.toList=gr s[0];unfold cn;rw [hh,hw,Bool.true_and]
  have HW:=hide hw
  clear hh hw hz
  go_enter Tryz.func99,Tryz.ntmps99
  go_wp2_with fail
  refine (word_str s _ hl).mono ?_;rintro e w' ⟨rfl,rfl⟩;rw [HW.out]
  go_wp2_with fail
  refine (great_any _ _).mono ?_;rintro e w' ⟨rfl,rfl⟩
  go_wp2_with fail
  go_ret
  exact ⟨by rw [H.out];rfl,rfl⟩
theorem name_any (l:List UInt8) (w:World) (hl:l.length≤281474976710656):Calls Tryz.prog 78 #[.string (S l)] w fun e w'=>e=.returned (.bool (nm l))∧w'=w:=name_str (S l) w (by rw [S_size];exact hl)
theorem con_any (l:List UInt8) (w:World) (hl:l.length≤281474976710656):Calls Tryz.prog 99 #[.string (S l)] w fun e w'=>e=.returned (.bool (cn l))∧w'=w:=con_str (S l) w (by rw [S_size];exact hl)
def t0:Value:=.agg #[.int .i64 0,.string ⟨#[]⟩,.int .i64 0,.int .i64 0,.int .i64 0]
def tc (t:Tok):List Value:=[.int .i64 t.kd,.string (S t.tx),.int .i64 t.nu,.int .i64 t.ln,.int .i64 t.co]
def tv (t:Tok):Value:=.agg #[.int .i64 t.kd,.string (S t.tx),.int .i64 t.nu,.int .i64 t.ln,.int .i64 t.co]
def tcs (l:List Tok):List Value:=l.flatMap tc
theorem tcs_snoc (l:List Tok) (t:Tok):tcs (l ++ [t])=tcs l ++ tc t:=by simp [tcs]
theorem info32:(Tryz.prog.info? 51).map (fun i=>(i.zero,i.size,i.bytes))=some (some t0,5,48):=by kernel_rfl
structure Blk where
 sg:List UInt8
 cl:Int
def bc (b:Blk):List Value:=[.string (S b.sg),.int .i64 b.cl]
def bv (b:Blk):Value:=.agg #[.string (S b.sg),.int .i64 b.cl]
def bcs (l:List Blk):List Value:=l.flatMap bc
theorem bcs_snoc (l:List Blk) (t:Blk):bcs (l ++ [t])=bcs l ++ bc t:=by simp [bcs]
def b0:Value:=.agg #[.string ⟨#[]⟩,.int .i64 0]
theorem info78:(Tryz.prog.info? 146).map (fun i=>(i.zero,i.size,i.bytes))=some (some b0,2,24):=by kernel_rfl
theorem bcs_len (ts:List Blk):(bcs ts).length=ts.length * 2:=by
 induction ts with
 | nil=>rfl
 | cons a r ih=>
  have e:bcs (a :: r)=bc a ++ bcs r:=rfl
  have e5:(bc a).length=2:=rfl
  rw [e,List.length_append,ih,e5,List.length_cons];omega
theorem tcs_len (ts:List Tok):(tcs ts).length=ts.length * 5:=by
 induction ts with
 | nil=>rfl
 | cons a r ih=>
  have e:tcs (a :: r)=tc a ++ tcs r:=rfl
  have e5:(tc a).length=5:=rfl
  rw [e,List.length_append,ih,e5,List.length_cons];omega
def Hold (b:Nat) (C:Array Value) (t:TypeId) (W:World):Prop:=W.heap[b]?=some (Obj.cells C t (0,0))
theorem Hold.new (W:World) (C:Array Value) (t:TypeId):Hold W.heap.size C t (W.alloc (.cells C t)):=by
 show (W.heap.push _)[W.heap.size]?=_
 simp
theorem Hold.alloc {b:Nat} {C:Array Value} {t:TypeId} {W:World} (h:Hold b C t W) (o:Obj):Hold b C t (W.alloc o):=(Below.heap_alloc W o b (Array.getElem?_eq_some_iff.1 h).1).trans h
theorem Hold.lt {b:Nat} {C:Array Value} {t:TypeId} {W:World} (h:Hold b C t W):b<W.heap.size:=(Array.getElem?_eq_some_iff.1 h).1
theorem Hold.set {b:Nat} {C:Array Value} {t:TypeId} {W:World} (h:Hold b C t W) (i:Nat) (v:Value):Hold b (C.setIfInBounds i v) t (W.setCell ⟨b,i,none⟩ v):=by
 obtain ⟨hlt,hk⟩:=Array.getElem?_eq_some_iff.1 h
 show (W.heap.modify b _)[b]?=_
 rw [Array.getElem?_eq_getElem (by rw [Array.size_modify];exact hlt),Array.getElem_modify_self,hk]
 rfl
theorem Hold.other {b b':Nat} {C:Array Value} {t:TypeId} {W:World} (h:Hold b C t W) (hne:b≠b') (i:Nat) (v:Value):Hold b C t (W.setCell ⟨b',i,none⟩ v):=(Below.heap_setCell _ _ _ b hne).trans h
theorem Hold.cell {b:Nat} {C:Array Value} {t:TypeId} {W:World} (h:Hold b C t W) (i:Nat):W.cell? ⟨b,i,none⟩=C[i]?:=by unfold World.cell?;rw [show W.heap[b]?=_ from h];rfl
theorem Hold.frozen {b:Nat} {C:Array Value} {t:TypeId} {W:World} (h:Hold b C t W) (i:Nat):W.frozen? ⟨b,i,none⟩=false:=by unfold World.frozen?;rw [show W.heap[b]?=_ from h];simp
theorem Hold.below {b n:Nat} {C:Array Value} {t:TypeId} {W W':World} (h:Hold b C t W) (hb:Below n W W') (hn:b<n):Hold b C t W':=(hb.block b hn).trans h
def TB (b:Nat) (t:Tok) (W:World):Prop:=Hold b #[.int .i64 t.kd,.string (S t.tx),.int .i64 t.nu,.int .i64 t.ln,.int .i64 t.co] 51 W
theorem TB.cells {b:Nat} {t:Tok} {W:World} (h:TB b t W):W.cell? ⟨b,0,none⟩=some (.int .i64 t.kd)∧W.cell? ⟨b,1,none⟩=some (.string (S t.tx))∧W.cell? ⟨b,2,none⟩=some (.int .i64 t.nu)∧W.cell? ⟨b,3,none⟩=some (.int .i64 t.ln)∧W.cell? ⟨b,4,none⟩=some (.int .i64 t.co):=⟨Hold.cell h 0,Hold.cell h 1,Hold.cell h 2,Hold.cell h 3,Hold.cell h 4⟩
theorem TB.new (W:World) (t:Tok):TB W.heap.size t (W.alloc (.cells #[.int .i64 t.kd,.string (S t.tx),.int .i64 t.nu,.int .i64 t.ln,.int .i64 t.co] 51)):=Hold.new W _ 51
theorem TB.below {b n:Nat} {t:Tok} {W W':World} (h:TB b t W) (hb:Below n W W') (hn:b<n):TB b t W':=Hold.below h hb hn
theorem below_next {w w':World} {o:Obj} (h:Below (w.alloc o).heap.size (w.alloc o) w'):Below w.heap.size w w':=((Below.refl _ w).alloc (Nat.le_refl _) o).trans (h.mono (by simp))
theorem row_other {b:Nat} {C:Array Value} {t e:TypeId} {W:World} {base size k:Nat} {v:Value} {xs:List Value} (hr:W.ownsRow base e size v k xs) (h:Hold b C t W) (hne:t≠e) (i:Nat) (u:Value):(W.setCell ⟨b,i,none⟩ u).ownsRow base e size v k xs:=by
 rcases hr with ⟨h1,h2 | ⟨g,cap,cur,hv,hb,hg,r⟩⟩
 ·exact ⟨h1,.inl h2⟩
 ·refine ⟨h1,.inr ⟨g,cap,cur,hv,hb,(Below.heap_setCell _ _ _ g (fun e'=>?_)).trans hg,r⟩⟩
  have e'':g=b:=e'
  subst e''
  rw [show W.heap[g]?=_ from h] at hg;cases hg;exact hne rfl
theorem row_ne {W:World} {b base k size:Nat} {C:Array Value} {t e:TypeId} {v:Value} {xs:List Value} (h:Hold b C t W) (hr:W.ownsRow base e size v k xs) (hne:t≠e):some b≠v.ownBlock:=by
 rcases hr.2 with ⟨rfl,_⟩ | ⟨g,cap,cur,rfl,_,hgb,_⟩
 ·simp [Value.ownBlock]
 ·intro e'
  have e'':b=g:=by simpa [Value.ownBlock] using e'
  subst e''
  rw [show W.heap[b]?=_ from h] at hgb;cases hgb;exact hne rfl
theorem row_lt {W:World} {base k size:Nat} {e:TypeId} {v:Value} {xs:List Value} (hr:W.ownsRow base e size v k xs):some W.heap.size≠v.ownBlock:=by
 rcases hr.2 with ⟨rfl,_⟩ | ⟨g,cap,cur,rfl,_,hgb,_⟩
 ·simp [Value.ownBlock]
 ·intro e'
  have e'':W.heap.size=g:=by simpa [Value.ownBlock] using e'
  have:=(Array.getElem?_eq_some_iff.1 hgb).1
  omega
theorem slice_of {w:World} {base n:Nat} {e:TypeId} {size:Nat} {v:Value} {xs:List Value} (h:w.ownsRow base e size v n xs):∃ ao cap,v=.slice ao n cap:=by
 rcases h.2 with ⟨rfl,rfl⟩ | ⟨g,cap,cur,rfl,_⟩
 ·exact ⟨none,0,rfl⟩
 ·exact ⟨some ⟨g,0,none⟩,cap,rfl⟩
theorem row_keep {W W':World} {base k size:Nat} {e:TypeId} {v:Value} {xs:List Value} (hr:W.ownsRow base e size v k xs) (h:∀ g,v.ownBlock=some g→g<W.heap.size→W'.heap[g]?=W.heap[g]?):W'.ownsRow base e size v k xs:=by
 rcases hr with ⟨h1,h2 | ⟨g,cap,cur,hv,hb,hg,r⟩⟩
 ·exact ⟨h1,.inl h2⟩
 ·refine ⟨h1,.inr ⟨g,cap,cur,hv,hb,(h g (by rw [hv];rfl) (Array.getElem?_eq_some_iff.1 hg).1).trans hg,r⟩⟩
theorem rows_ne {W:World} {base k size base' k' size':Nat} {e e':TypeId} {v v':Value} {xs xs':List Value} (hr:W.ownsRow base e size v k xs) (hr':W.ownsRow base' e' size' v' k' xs') (hne:e≠e'):∀ g,v.ownBlock=some g→some g≠v'.ownBlock:=by
 intro g hg hg'
 rcases hr.2 with ⟨rfl,_⟩ | ⟨g1,cap,cur,rfl,_,hgb,_⟩
 ·cases hg
 ·rcases hr'.2 with ⟨rfl,_⟩ | ⟨g2,cap',cur',rfl,_,hgb',_⟩
  ·cases hg'
  ·cases hg;cases hg'
   rw [hgb] at hgb';cases hgb';exact hne rfl
theorem row_cut {W:World} {base k size cap j:Nat} {e:TypeId} {p:Option Addr} {xs:List Value} (hr:W.ownsRow base e size (.slice p k cap) k xs) (hj:j≤k):W.ownsRow base e size (.slice p j cap) j (xs.take (j * size)):=by
 have hx:=hr.1
 have hjk:j * size≤k * size:=Nat.mul_le_mul_right _ hj
 rcases hr with ⟨h1,⟨h2,h3⟩ | ⟨g,cap',cur,hv,hb,hg,r1,r2,r3,r4⟩⟩
 ·subst h3
  obtain rfl:j=0:=by omega
  cases h2
  exact ⟨by simp,.inl ⟨rfl,rfl⟩⟩
 ·cases hv
  refine ⟨by rw [List.length_take];omega,.inr ⟨g,cap,cur,rfl,hb,hg,by omega,r2,r3,?_⟩⟩
  rw [← r4,List.take_take,Nat.min_eq_left hjk]
theorem cell_five_new (w:World) (a b c d e:Value) (t:TypeId) (j:Nat) (u:Value) (h:[a,b,c,d,e][j]?=some u):(w.alloc (.cells #[a,b,c,d,e] t)).cell? ((⟨w.heap.size,0,none⟩:Addr).add j)=some u:=by
 have hj:j<5:=by have:=(List.getElem?_eq_some_iff.1 h).1;simpa using this
 have e0:(⟨w.heap.size,0,none⟩:Addr).add j=⟨w.heap.size,j,none⟩:=by unfold Addr.add;split <;> simp_all
 rw [e0,World.cell?_alloc_mark,← h]
 simp
theorem cell_two_new (w:World) (a b:Value) (t:TypeId) (j:Nat) (u:Value) (h:[a,b][j]?=some u):(w.alloc (.cells #[a,b] t)).cell? ((⟨w.heap.size,0,none⟩:Addr).add j)=some u:=by
 have hj:j<2:=by have:=(List.getElem?_eq_some_iff.1 h).1;simpa using this
 have e0:(⟨w.heap.size,0,none⟩:Addr).add j=⟨w.heap.size,j,none⟩:=by unfold Addr.add;split <;> simp_all
 rw [e0,World.cell?_alloc_mark,← h]
 simp
def TMem (w:World) (p:Option Addr) (ts:List Tok):Prop:=ts=[]∨∃ b o,p=some ⟨b,o,none⟩∧b<w.heap.size∧∀ i t,ts[i]?=some t→w.cell? ⟨b,o+i * 5,none⟩=some (.int .i64 t.kd)∧w.cell? ⟨b,o+i * 5+1,none⟩=some (.string (S t.tx))∧w.cell? ⟨b,o+i * 5+2,none⟩=some (.int .i64 t.nu)∧w.cell? ⟨b,o+i * 5+3,none⟩=some (.int .i64 t.ln)∧w.cell? ⟨b,o+i * 5+4,none⟩=some (.int .i64 t.co)
theorem TMem.below {w w':World} {n:Nat} {p:Option Addr} {ts:List Tok} (h:TMem w p ts) (hn:w.heap.size≤n) (hb:Below n w w'):TMem w' p ts:=by
 rcases h with rfl | ⟨b,o,hp,hbk,hm⟩
 ·exact .inl rfl
 ·have hk:∀ x,w'.cell? ⟨b,x,none⟩=w.cell? ⟨b,x,none⟩:=fun x=>hb.cell (p:=⟨b,x,none⟩) (Nat.lt_of_lt_of_le hbk hn)
  exact .inr ⟨b,o,hp,Nat.lt_of_lt_of_le hbk hb.size,fun i t ht=>by rw [hk,hk,hk,hk,hk];exact hm i t ht⟩
theorem TMem.take {w:World} {p:Option Addr} {ts:List Tok} (h:TMem w p ts) (j:Nat):TMem w p (ts.take j):=by
 rcases h with rfl | ⟨b,o,hp,hb,hm⟩
 ·exact .inl (by simp)
 ·exact .inr ⟨b,o,hp,hb,fun i t ht=>by
   rw [List.getElem?_take] at ht
   split at ht
   ·exact hm i t ht
   ·cases ht⟩
theorem tcs_at (us:List Tok):∀ (i:Nat) (t:Tok) (j:Nat),us[i]?=some t→j<5→(tcs us)[i * 5+j]?=(tc t)[j]?:=by
 induction us with
 | nil=>intro i t j ht;simp at ht
 | cons a r ih=>
  intro i t j ht hj
  have e:tcs (a :: r)=tc a ++ tcs r:=rfl
  have e5:(tc a).length=5:=rfl
  cases i with
  | zero=>
   simp at ht;subst ht
   rw [e,Nat.zero_mul,Nat.zero_add,List.getElem?_append_left (by rw [e5];exact hj)]
  | succ i=>
   rw [e,List.getElem?_append_right (by rw [e5];omega),e5,show (i+1) * 5+j - 5=i * 5+j from by omega]
   exact ih i t j (by simpa using ht) hj
theorem bcs_at (us:List Blk):∀ (i:Nat) (t:Blk) (j:Nat),us[i]?=some t→j<2→(bcs us)[i * 2+j]?=(bc t)[j]?:=by
 induction us with
 | nil=>intro i t j ht;simp at ht
 | cons a r ih=>
  intro i t j ht hj
  have e:bcs (a :: r)=bc a ++ bcs r:=rfl
  have e5:(bc a).length=2:=rfl
  cases i with
  | zero=>
   simp at ht;subst ht
   rw [e,Nat.zero_mul,Nat.zero_add,List.getElem?_append_left (by rw [e5];exact hj)]
  | succ i=>
   rw [e,List.getElem?_append_right (by rw [e5];omega),e5,show (i+1) * 2+j - 2=i * 2+j from by omega]
   exact ih i t j (by simpa using ht) hj
theorem row_cell {W:World} {base n cap size:Nat} {e:TypeId} {g:Nat} {xs:List Value} (h:W.ownsRow base e size (.slice (some ⟨g,0,none⟩) n cap) n xs) {j:Nat} {v:Value} (hj:xs[j]?=some v):W.cell? ⟨g,j,none⟩=some v:=by
 have hl:=(List.getElem?_eq_some_iff.1 hj).1
 rcases h with ⟨h1,⟨h2,_⟩ | ⟨g',cap',cur,hv,hb,hg,r1,r2,r3,r4⟩⟩
 ·cases h2
 ·cases hv
  rw [← r4,List.getElem?_take,if_pos (by omega)] at hj
  simp only [World.cell?,hg]
  rw [← hj]
  simp
theorem row_tmem {W:World} {n₀ n c:Nat} {p:Option Addr} {ts:List Tok} (h:W.ownsRow n₀ 51 5 (.slice p n c) n (tcs ts)):TMem W p ts∧ts.length=n:=by
 have hlen:=tcs_len ts
 have hn:ts.length=n:=by have:=h.1;omega
 refine ⟨?_,hn⟩
 rcases h.2 with ⟨hv,h0⟩ | ⟨g,cap,cur,hv,hb,hg,h1,h2,h3,h4⟩
 ·left;exact List.length_eq_zero_iff.1 (by omega)
 ·cases hv
  refine .inr ⟨g,0,rfl,(Array.getElem?_eq_some_iff.1 hg).1,fun i t ht=>?_⟩
  have hx:∀ j,j<5→W.cell? ⟨g,0+i * 5+j,none⟩=(tc t)[j]?:=by
   intro j hj
   have k:=tcs_at ts i t j ht hj
   have hs:∃ v,(tc t)[j]?=some v:=⟨_,List.getElem?_eq_getElem (by show j<5;exact hj)⟩
   obtain ⟨v,hv⟩:=hs
   rw [hv] at k ⊢
   rw [Nat.zero_add]
   exact row_cell h k
  exact ⟨hx 0 (by omega),hx 1 (by omega),hx 2 (by omega),hx 3 (by omega),hx 4 (by omega)⟩
structure KP (P:Nat→Prop) (w w':World):Prop where
 os:w'.os=w.os
 tape:w'.tape=w.tape
 output:w'.output=w.output
 size:w.heap.size≤w'.heap.size
 block:∀ b,P b→w'.heap[b]?=w.heap[b]?
theorem KP.trans {P:Nat→Prop} {a b c:World} (h:KP P a b) (k:KP P b c):KP P a c:=⟨k.os.trans h.os,k.tape.trans h.tape,k.output.trans h.output,Nat.le_trans h.size k.size,fun x hx=>(k.block x hx).trans (h.block x hx)⟩
theorem KP.mono {P Q:Nat→Prop} {a b:World} (h:KP P a b) (hq:∀ x,Q x→P x):KP Q a b:=⟨h.os,h.tape,h.output,h.size,fun x hx=>h.block x (hq x hx)⟩
theorem KP.below {P:Nat→Prop} {a b:World} {n:Nat} (h:KP P a b) (hq:∀ x,x<n→P x):Below n a b:=⟨h.os,h.tape,h.output,h.size,fun x hx=>h.block x (hq x hx)⟩
theorem KP.alloc {P:Nat→Prop} (w:World) (o:Obj) (hP:∀ b,P b→b<w.heap.size):KP P w (w.alloc o):=⟨rfl,rfl,rfl,by simp,fun b hb=>Below.heap_alloc w o b (hP b hb)⟩
theorem KP.setCell {P:Nat→Prop} (w:World) (b i:Nat) (v:Value) (hP:¬ P b):KP P w (w.setCell ⟨b,i,none⟩ v):=⟨rfl,rfl,rfl,by simp,fun x hx=>Below.heap_setCell _ _ _ x (fun e=>hP (by subst e;exact hx))⟩
theorem KP.of_grown {P:Nat→Prop} {w w':World} {r:Option Nat} (h:w.grownBy w' r) (hP:∀ b,P b→b<w.heap.size∧some b≠r):KP P w w':=⟨h.os,h.tape,h.output,h.size,fun b hb=>h.block b (hP b hb).1 (hP b hb).2⟩
theorem KP.of_below {P:Nat→Prop} {w w':World} {n:Nat} (h:Below n w w') (hP:∀ b,P b→b<n):KP P w w':=⟨h.os,h.tape,h.output,h.size,fun b hb=>h.block b (hP b hb)⟩
structure LS (P:Nat→Prop) (B:Nat) (o:List Tok) (st:List Blk) (f:Bool) (pa:Option Addr) (ca:Nat) (po:Option Addr) (co:Nat) (W:World):Prop where
 hold:Hold B #[.slice pa o.length ca,.slice po st.length co,.bool f] 89 W
 told:W.ownsRow 0 51 5 (.slice pa o.length ca) o.length (tcs o)
 opn:W.ownsRow 0 146 2 (.slice po st.length co) st.length (bcs st.reverse)
 apart:∀ b,P b→b<W.heap.size∧b≠B∧some b≠(Value.slice pa o.length ca).ownBlock∧some b≠(Value.slice po st.length co).ownBlock
def L (P:Nat→Prop) (B:Nat) (o:List Tok) (st:List Blk) (f:Bool) (W:World):Prop:=∃ pa ca po co,LS P B o st f pa ca po co W
end Go.Proofs.YtcnnlecjdkfdjaaGreatDoor.Ly
