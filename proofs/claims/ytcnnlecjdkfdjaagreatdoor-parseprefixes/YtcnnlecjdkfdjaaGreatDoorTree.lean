/- Math Leaf Tree: the texts of these names, of which the claim is made. -/
import Derived.Test.YtcnnlecjdkfdjaaGreatDoorRows
import Derived.WalkSpells
import Derived.Deep.RegionWith
import Derived.BigQuiet
import Derived.Lib.ItoaNum
set_option linter.unusedVariables false
set_option linter.unusedSimpArgs false
set_option maxRecDepth 100000
set_option maxHeartbeats 8000000
namespace Go.Proofs.YtcnnlecjdkfdjaaGreatDoor
def dg (c:UInt8):Bool:=decide (48≤(c.toNat:Int)) && decide ((c.toNat:Int)≤57)
def sm (c:UInt8):Bool:=decide (97≤(c.toNat:Int)) && decide ((c.toNat:Int)≤122)
def gr (c:UInt8):Bool:=decide (65≤(c.toNat:Int)) && decide ((c.toNat:Int)≤90)
def pt (c:UInt8):Bool:=sm c || gr c || dg c
def kw (l:List UInt8):Bool:=l == [99,97,115,101] || l == [111,102] || l == [108,101,116] || l == [105,110] || l == [100,111] || l == [100,111,115] || l == [105,102] || l == [116,104,101,110] || l == [101,108,115,101] || l == [100,97,116,97]
def wd (l:List UInt8):Bool:=!l.isEmpty && decide (l.length≤20) && l.all pt
def nm (l:List UInt8):Bool:=wd l && sm (l.headD 0) && !kw l
def cn (l:List UInt8):Bool:=wd l && gr (l.headD 0)
structure Tok where
 kd:Int
 tx:List UInt8
 nu:Int
 ln:Int
 co:Int
open Go.RowKit
theorem hide {p:Prop} (h:p):Hid p:=h
def S (l:List UInt8):ByteArray:=⟨l.toArray⟩
theorem S_data (l:List UInt8):(S l).data.toList=l:=rfl
theorem S_list (l:List UInt8):(S l).toList=l:=by rw [ByteArray.toList_eq];rfl
theorem S_size (l:List UInt8):(S l).size=l.length:=by simp [S,ByteArray.size]
theorem S_of (s:ByteArray):S s.data.toList=s:=by cases s;simp [S]
theorem digit_any (c:UInt8) (w:World):Calls Tryz.prog 96 #[.int .u8 c.toNat] w fun e w'=>e=.returned (.bool (dg c))∧w'=w:=by
 unfold dg
 generalize (c.toNat:Int)=n
 by_cases h:48≤n <;>
 ·go_enter Tryz.func96,Tryz.ntmps96
  go_wp2
  go_ret
  exact ⟨by simp;try omega,rfl⟩
theorem small_any (c:UInt8) (w:World):Calls Tryz.prog 144 #[.int .u8 c.toNat] w fun e w'=>e=.returned (.bool (sm c))∧w'=w:=by
 unfold sm
 generalize (c.toNat:Int)=n
 by_cases h:97≤n <;>
 ·go_enter Tryz.func144,Tryz.ntmps144
  go_wp2
  go_ret
  exact ⟨by simp;try omega,rfl⟩
theorem great_any (c:UInt8) (w:World):Calls Tryz.prog 165 #[.int .u8 c.toNat] w fun e w'=>e=.returned (.bool (gr c))∧w'=w:=by
 unfold gr
 generalize (c.toNat:Int)=n
 by_cases h:65≤n <;>
 ·go_enter Tryz.func165,Tryz.ntmps165
  go_wp2
  go_ret
  exact ⟨by simp;try omega,rfl⟩
theorem inWord_any (c:UInt8) (w:World):Calls Tryz.prog 166 #[.int .u8 c.toNat] w fun e w'=>e=.returned (.bool (pt c))∧w'=w:=by
 unfold pt
 cases h1:sm c
 ·cases h2:gr c
  ·go_enter Tryz.func166,Tryz.ntmps166
   go_wp2_with fail
   refine (small_any _ _).mono ?_;rintro e w' ⟨rfl,rfl⟩;rw [h1]
   go_wp2_with fail
   refine (great_any _ _).mono ?_;rintro e w' ⟨rfl,rfl⟩;rw [h2]
   go_wp2_with fail
   refine (digit_any _ _).mono ?_;rintro e w' ⟨rfl,rfl⟩
   go_wp2_with fail
   go_ret
   exact ⟨by simp,rfl⟩
  ·go_enter Tryz.func166,Tryz.ntmps166
   go_wp2_with fail
   refine (small_any _ _).mono ?_;rintro e w' ⟨rfl,rfl⟩;rw [h1]
   go_wp2_with fail
   refine (great_any _ _).mono ?_;rintro e w' ⟨rfl,rfl⟩;rw [h2]
   go_wp2_with fail
   go_ret
   exact ⟨by simp,rfl⟩
 ·go_enter Tryz.func166,Tryz.ntmps166
  go_wp2_with fail
  refine (small_any _ _).mono ?_;rintro e w' ⟨rfl,rfl⟩;rw [h1]
  go_wp2_with fail
  go_ret
  exact ⟨by simp,rfl⟩
theorem keyWord_any (l:List UInt8) (w:World):Calls Tryz.prog 145 #[.string (S l)] w fun e w'=>e=.returned (.bool (kw l))∧w'=w:=by
 have hl:=S_list l
 unfold kw
 generalize S l=s at *
 subst hl
 go_enter Tryz.func145,Tryz.ntmps145
 go_wp2
 all_goals first | (exfalso;simp_all;done) | skip
 all_goals go_ret
 all_goals exact ⟨by simp_all,rfl⟩
theorem all_take_succ (p:UInt8→Bool) (l:List UInt8) (k:Nat) (h:k<l.length):(l.take (k+1)).all p=((l.take k).all p && p l[k]):=by
 rw [List.take_succ_eq_append_getElem h,List.all_append];simp
theorem all_of_bad (p:UInt8→Bool) (l:List UInt8) (k:Nat) (h:k<l.length) (hb:p l[k]=false):l.all p=false:=by
 rw [List.all_eq_false];exact ⟨l[k],List.getElem_mem h,by simp [hb]⟩
theorem dget (s:ByteArray) (k:Nat) (h:k<s.size) (h':k<s.data.toList.length):s[k]=s.data.toList[k]:=rfl
theorem dlen (s:ByteArray):s.data.toList.length=s.size:=Array.length_toList
theorem word_str (s:ByteArray) (w:World) (hl:s.size≤281474976710656):Calls Tryz.prog 143 #[.string s] w fun e w'=>e=.returned (.bool (wd s.data.toList))∧w'=w:=by
 have hs:=ByteArray.toList_eq s
 have hz:=dlen s
 by_cases h0:s.size=0
 ·have e0:s.data.toList=[]:=List.length_eq_zero_iff.1 (by omega)
  have H:Hid (wd s.data.toList=false):=by show wd s.data.toList=false;rw [e0];rfl
  have h1:(s.toList == [])=true:=by rw [hs,e0];rfl
  clear h0 hs e0 hz
  go_enter Tryz.func143,Tryz.ntmps143
  go_wp2
  go_ret
  exact ⟨by rw [H.out];rfl,rfl⟩
 ·have h1:(s.toList == [])=false:=by
   rw [hs];cases h:s.data.toList with | nil=>rw [h] at hz;simp at hz;omega | cons a b=>rfl
  have hne:s.data.toList.isEmpty=false:=by cases h:s.data.toList with | nil=>rw [h] at hz;simp at hz;omega | cons a b=>rfl
  by_cases h20:20<(s.size:Int)
  ·have H:Hid (wd s.data.toList=false):=by show wd s.data.toList=false;unfold wd;rw [hz,show decide (s.size≤20)=false from by simp;omega];simp
   clear h0 hs hne hz
   go_enter Tryz.func143,Tryz.ntmps143
   go_wp2
   go_ret
   exact ⟨by rw [H.out];rfl,rfl⟩
  ·have H:Hid (wd s.data.toList=s.data.toList.all pt):=by
    show wd s.data.toList=s.data.toList.all pt;unfold wd;rw [hne,hz,show decide (s.size≤20)=true from by simp;omega];simp
   have HZ:=hide hz
   clear h0 hs hne hz
   go_enter Tryz.func143,Tryz.ntmps143
   go_wp2
   go_loop [13] (fun i=>∃ k:Nat,k≤s.size∧i=.int .i64 k∧(s.data.toList.take k).all pt=true) (fun i=>s.size - (intOf i).toNat)
   case atStart=>exact ⟨0,Nat.zero_le _,rfl,rfl⟩
   case round=>
    obtain ⟨k,hk,rfl,hall⟩:=hrel
    have HA:=hide hall
    clear hall
    by_cases hlt:k<s.size
    ·have hlt':k<s.data.toList.length:=by rw [HZ.out];exact hlt
     have HT:=hide (all_take_succ pt _ k hlt')
     have hb:=all_of_bad pt _ k hlt'
     have HD:=hide (dget s k hlt hlt')
     cases hq:pt s[k]
     ·have HB:=hide (hb hq)
      clear hb
      go_wp2_with fail
      refine (inWord_any _ _).mono ?_;rintro e w' ⟨rfl,rfl⟩;rw [hq]
      go_wp2_with fail
      go_ret
      exact ⟨by rw [H.out,HB.out];rfl,rfl⟩
     ·clear hb
      have HQ:=hide hq
      go_wp2_with fail
      refine (inWord_any _ _).mono ?_;rintro e w' ⟨rfl,rfl⟩;rw [HQ.out]
      go_wp2_with fail
      go_round
      case rel=>exact ⟨k+1,by omega,by go_num,by rw [HT.out,HA.out,← HD.out,HQ.out];rfl⟩
      case measure=>simp [intOf];omega
    ·go_wp2
     go_ret
     exact ⟨by rw [H.out,← HA.out,List.take_of_length_le (by rw [HZ.out];omega)];rfl,rfl⟩
theorem name_str (s:ByteArray) (w:World) (hl:s.size≤281474976710656):Calls Tryz.prog 78 #[.string s] w fun e w'=>e=.returned (.bool (nm s.data.toList))∧w'=w:=by
 have hz:=dlen s
 cases hw:wd s.data.toList
 ·have H:Hid (nm s.data.toList=false):=by show nm s.data.toList=false;unfold nm;rw [hw];rfl
  go_enter Tryz.func78,Tryz.ntmps78
  go_wp2_with fail
  refine (word_str s _ hl).mono ?_;rintro e w' ⟨rfl,rfl⟩;rw [hw]
  go_wp2_with fail
  go_ret
  exact ⟨by rw [H.out];rfl,rfl⟩
 ·have h0:0<s.size:=by
   cases h:s.data.toList with | nil=>rw [h] at hw;simp [wd] at hw | cons a b=>rw [h] at hz;simp at hz;omega
  have hh:s.data.toList.headD 0=s[0]:=by
   cases s with | mk d=>cases d with | mk l=>cases l with | nil=>simp [ByteArray.size] at h0 | cons a b=>rfl
  cases hq:sm s[0]
  ·have H:Hid (nm s.data.toList=false):=by show nm s.data.toList=false;unfold nm;rw [hh,hq,Bool.and_false,Bool.false_and]
   have HQ:=hide hq
   have HW:=hide hw
   clear hh hq hw hz
   go_enter Tryz.func78,Tryz.ntmps78
   go_wp2_with fail
   refine (word_str s _ hl).mono ?_;rintro e w' ⟨rfl,rfl⟩;rw [HW.out]
   go_wp2_with fail
   refine (small_any _ _).mono ?_;rintro e w' ⟨rfl,rfl⟩;rw [HQ.out]
   go_wp2_with fail
   go_ret
   exact ⟨by rw [H.out];rfl,rfl⟩
  ·have H:Hid (nm s.data.toList=!kw s.data.toList):=by show nm s.data.toList=!kw s.data.toList;unfold nm;rw [hh,hq,hw,Bool.and_true,Bool.true_and]
   have HQ:=hide hq
   have HW:=hide hw
   have HS:=hide (S_of s)
   clear hh hq hw hz
   go_enter Tryz.func78,Tryz.ntmps78
   go_wp2_with fail
   refine (word_str s _ hl).mono ?_;rintro e w' ⟨rfl,rfl⟩;rw [HW.out]
   go_wp2_with fail
   refine (small_any _ _).mono ?_;rintro e w' ⟨rfl,rfl⟩;rw [HQ.out]
   go_wp2_with fail
   have hk:=keyWord_any s.data.toList w'
   rw [HS.out] at hk
   refine hk.mono ?_;rintro e w' ⟨rfl,rfl⟩
   clear hk
   go_wp2_with fail
   go_ret
   exact ⟨by rw [H.out];rfl,rfl⟩
theorem con_str (s:ByteArray) (w:World) (hl:s.size≤281474976710656):Calls Tryz.prog 99 #[.string s] w fun e w'=>e=.returned (.bool (cn s.data.toList))∧w'=w:=by
 have hz:=dlen s
 cases hw:wd s.data.toList
 ·have H:Hid (cn s.data.toList=false):=by show cn s.data.toList=false;unfold cn;rw [hw];rfl
  go_enter Tryz.func99,Tryz.ntmps99
  go_wp2_with fail
  refine (word_str s _ hl).mono ?_;rintro e w' ⟨rfl,rfl⟩;rw [hw]
  go_wp2_with fail
  go_ret
  exact ⟨by rw [H.out];rfl,rfl⟩
 ·have h0:0<s.size:=by
   cases h:s.data.toList with | nil=>rw [h] at hw;simp [wd] at hw | cons a b=>rw [h] at hz;simp at hz;omega
  have hh:s.data.toList.headD 0=s[0]:=by
   cases s with | mk d=>cases d with | mk l=>cases l with | nil=>simp [ByteArray.size] at h0 | cons a b=>rfl
  have H:Hid (cn s.data.toList=gr s[0]):=by show cn s.data.toList=gr s[0];unfold cn;rw [hh,hw,Bool.true_and]
  have HW:=hide hw
  clear hh hw hz
  go_enter Tryz.func99,Tryz.ntmps99
  go_wp2_with fail
  refine (word_str s _ hl).mono ?_;rintro e w' ⟨rfl,rfl⟩;rw [HW.out]
  go_wp2_with fail
  refine (great_any _ _).mono ?_;rintro e w' ⟨rfl,rfl⟩
  go_wp2_with fail
  go_ret
  exact ⟨by rw [H.out];rfl,rfl⟩
theorem name_any (l:List UInt8) (w:World) (hl:l.length≤281474976710656):Calls Tryz.prog 78 #[.string (S l)] w fun e w'=>e=.returned (.bool (nm l))∧w'=w:=name_str (S l) w (by rw [S_size];exact hl)
theorem con_any (l:List UInt8) (w:World) (hl:l.length≤281474976710656):Calls Tryz.prog 99 #[.string (S l)] w fun e w'=>e=.returned (.bool (cn l))∧w'=w:=con_str (S l) w (by rw [S_size];exact hl)
end Go.Proofs.YtcnnlecjdkfdjaaGreatDoor
namespace Go.Proofs.YtcnnlecjdkfdjaaGreatDoor
structure Tr where
 kd:Int
 nm:List UInt8
 nu:Int
 ns:List (List UInt8)
 ks:List Tr
theorem Tr.kid_lt (t:Tr):∀ k ∈ t.ks,SizeOf.sizeOf k<SizeOf.sizeOf t:=by
 intro k hk
 cases t
 have:=List.sizeOf_lt_of_mem hk
 simp at *
 omega
def Tr.fold {α:Type} (f:Tr→List (Tr × α)→α) (t:Tr):α:=f t (t.ks.attach.map fun k=>(k.1,Tr.fold f k.1))
 termination_by SizeOf.sizeOf t
 decreasing_by exact Tr.kid_lt t k.1 k.2
theorem Tr.fold_eq {α:Type} (f:Tr→List (Tr × α)→α) (t:Tr):t.fold f=f t (t.ks.map fun k=>(k,k.fold f)):=by
 rw [Tr.fold]
 congr 1
 exact List.attach_map_val (f:=fun k=>(k,Tr.fold f k))
theorem Tr.ind {p:Tr→Prop} (h:∀ t:Tr,(∀ k ∈ t.ks,p k)→p t) (t:Tr):p t:=by
 have H:∀ n,∀ t:Tr,SizeOf.sizeOf t≤n→p t:=by
  intro n
  induction n with
  | zero=>intro t ht;cases t;simp at ht
  | succ n ih=>exact fun t ht=>h t fun k hk=>ih k (by have:=t.kid_lt k hk;omega)
 exact H _ t (Nat.le_refl _)
structure Sg where
 nm:List UInt8
 ar:List Sg
theorem Sg.kid_lt (t:Sg):∀ k ∈ t.ar,SizeOf.sizeOf k<SizeOf.sizeOf t:=by
 intro k hk
 cases t
 have:=List.sizeOf_lt_of_mem hk
 simp at *
 omega
def Sg.fold {α:Type} (f:Sg→List (Sg × α)→α) (t:Sg):α:=f t (t.ar.attach.map fun k=>(k.1,Sg.fold f k.1))
 termination_by SizeOf.sizeOf t
 decreasing_by exact Sg.kid_lt t k.1 k.2
theorem Sg.fold_eq {α:Type} (f:Sg→List (Sg × α)→α) (t:Sg):t.fold f=f t (t.ar.map fun k=>(k,k.fold f)):=by
 rw [Sg.fold]
 congr 1
 exact List.attach_map_val (f:=fun k=>(k,Sg.fold f k))
theorem Sg.ind {p:Sg→Prop} (h:∀ t:Sg,(∀ k ∈ t.ar,p k)→p t) (t:Sg):p t:=by
 have H:∀ n,∀ t:Sg,SizeOf.sizeOf t≤n→p t:=by
  intro n
  induction n with
  | zero=>intro t ht;cases t;simp at ht
  | succ n ih=>exact fun t ht=>h t fun k hk=>ih k (by have:=t.kid_lt k hk;omega)
 exact H _ t (Nat.le_refl _)
structure Fm where
 nm:List UInt8
 ar:List Sg
structure Dt where
 nm:List UInt8
 ps:List (List UInt8)
 fs:List Fm
structure Df where
 nm:List UInt8
 bd:Tr
structure Pg where
 ds:List Dt
 fs:List Df
abbrev Wd:=Nat × List UInt8
def pw (s:List UInt8):Wd:=(0,s)
def sepW (s:List UInt8):List (List Wd)→List Wd
 | []=>[]
 | a :: r=>a ++ r.flatMap fun b=>pw s :: b
def brW (l:List Wd):List Wd:=(1,[40]) :: (l ++ [(2,[41])])
def isAt (k:Int):Bool:=k == 1 || k == 2 || k == 3
def atW (k:Tr × List Wd):List Wd:=if isAt k.1.kd then k.2 else brW k.2
def t0:Tr:=⟨0,[],0,[],[]⟩
def g0 {α:Type} (l:List (Tr × List α)) (i:Nat):Tr × List α:=l.getD i (t0,[])
def wsF (t:Tr) (l:List (Tr × List Wd)):List Wd:=
 if t.kd=1 then [pw (Lib.itoa t.nu)]
 else if t.kd=2∨t.kd=3 then [pw t.nm]
 else if t.kd=4 then (1,[92]) :: (t.ns.map pw ++ (pw [45,62] :: (g0 l 0).2))
 else if t.kd=5 then atW (g0 l 0) ++ atW (g0 l 1)
 else if t.kd=6 then pw [108,101,116] :: (t.ns.map pw ++ (pw [61] :: ((g0 l 0).2 ++ (pw [105,110] :: (g0 l 1).2))))
 else if t.kd=7 then pw [99,97,115,101] :: ((g0 l 0).2 ++ (pw [111,102] :: pw [123] :: (sepW [59] (l.tail.map (·.2)) ++ [pw [125]])))
 else if t.kd=8 then pw t.nm :: (t.ns.map pw ++ (pw [45,62] :: (g0 l 0).2))
 else if t.kd=9 then atW (g0 l 0) ++ (pw t.nm :: atW (g0 l 1))
 else if t.kd=10 then pw [105,102] :: ((g0 l 0).2 ++ (pw [116,104,101,110] :: ((g0 l 1).2 ++ (pw [101,108,115,101] :: (g0 l 2).2))))
 else if t.kd=11 then pw [100,111] :: pw [123] :: (sepW [59] (l.map (·.2)) ++ [pw [125]])
 else if t.kd=12 then pw [100,111,115] :: pw [123] :: (sepW [59] (l.map (·.2)) ++ [pw [125]])
 else if t.kd=13 then t.ns.map pw ++ (pw [60,45] :: (g0 l 0).2)
 else []
def ws (t:Tr):List Wd:=t.fold wsF
theorem ws_eq (t:Tr):ws t=wsF t (t.ks.map fun k=>(k,ws k)):=Tr.fold_eq _ t
def sgAt (k:Sg × List Wd):List Wd:=if k.1.ar.isEmpty then k.2 else brW k.2
def sgF (s:Sg) (l:List (Sg × List Wd)):List Wd:=
 if s.nm=[45,62]∧l.length=2 then (l.take 1).flatMap sgAt ++ (pw [45,62] :: (l.drop 1).flatMap sgAt)
 else pw s.nm :: l.flatMap sgAt
def sgW (s:Sg):List Wd:=s.fold sgF
theorem sgW_eq (s:Sg):sgW s=sgF s (s.ar.map fun k=>(k,sgW k)):=Sg.fold_eq _ s
def sgsW (l:List Sg):List Wd:=(l.map fun k=>(k,sgW k)).flatMap sgAt
def sgOK (s:Sg):Nat→Bool:=s.fold (α:=Nat→Bool) fun t l n=>decide (n+1≤30) && decide (t.ar.length≤40) && l.all fun k=>k.2 (n+1)
theorem sgOK_eq (s:Sg) (n:Nat):sgOK s n=(decide (n+1≤30) && decide (s.ar.length≤40) && s.ar.all fun k=>sgOK k (n+1)):=by
 unfold sgOK
 rw [Sg.fold_eq]
 simp only [List.all_map]
 rfl
def fmW (f:Fm):List Wd:=pw f.nm :: sgsW f.ar
def dtW (d:Dt):List Wd:=pw [100,97,116,97] :: pw d.nm :: (d.ps.map pw ++ (pw [61] :: sepW [124] (d.fs.map fmW)))
def dfW (d:Df):List Wd:=pw d.nm :: pw [61] :: ws d.bd
def pgW (p:Pg):List Wd:=pw [123] :: (sepW [59] (p.ds.map dtW ++ p.fs.map dfW) ++ [pw [125]])
abbrev St:=Option (List UInt8 × Bool)
def wdA (s:List UInt8):St→St
 | none=>none
 | some (o,t)=>if (o ++ ((if t then [] else [32]) ++ s)).length≤2147483647 then some (o ++ ((if t then [] else [32]) ++ s),false) else none
def tightA:St→St
 | none=>none
 | some (o,t)=>some (o,true)
def oneA (x:Wd) (st:St):St:=if x.1=0 then wdA x.2 st else if x.1=1 then tightA (wdA x.2 st) else wdA x.2 (tightA st)
def runA (l:List Wd) (st:St):St:=l.foldl (fun s x=>oneA x s) st
theorem runA_nil (st:St):runA [] st=st:=rfl
theorem runA_cons (x:Wd) (l:List Wd) (st:St):runA (x :: l) st=runA l (oneA x st):=rfl
theorem runA_append (a b:List Wd) (st:St):runA (a ++ b) st=runA b (runA a st):=by simp [runA]
theorem oneA_none (x:Wd):oneA x none=none:=by
 unfold oneA
 split
 ·rfl
 ·split <;> rfl
theorem runA_none (l:List Wd):runA l none=none:=by
 induction l with
 | nil=>rfl
 | cons x r ih=>rw [runA_cons,oneA_none,ih]
abbrev P0:=List UInt8 ⊕ List UInt8 ⊕ List UInt8 ⊕ List (List UInt8) ⊕ Tr ⊕ Tr ⊕ List Sg ⊕ Sg ⊕ Fm ⊕ Dt ⊕ Df ⊕ Pg
abbrev Pt:=P0 ⊕ (List UInt8 × List P0)
def p0W:P0→List Wd
 | .inl s=>[pw s]
 | .inr (.inl s)=>[(1,s)]
 | .inr (.inr (.inl s))=>[(2,s)]
 | .inr (.inr (.inr (.inl l)))=>l.map pw
 | .inr (.inr (.inr (.inr (.inl e))))=>atW (e,ws e)
 | .inr (.inr (.inr (.inr (.inr (.inl e)))))=>ws e
 | .inr (.inr (.inr (.inr (.inr (.inr (.inl l))))))=>sgsW l
 | .inr (.inr (.inr (.inr (.inr (.inr (.inr (.inl s)))))))=>sgW s
 | .inr (.inr (.inr (.inr (.inr (.inr (.inr (.inr (.inl f))))))))=>fmW f
 | .inr (.inr (.inr (.inr (.inr (.inr (.inr (.inr (.inr (.inl d)))))))))=>dtW d
 | .inr (.inr (.inr (.inr (.inr (.inr (.inr (.inr (.inr (.inr (.inl d))))))))))=>dfW d
 | .inr (.inr (.inr (.inr (.inr (.inr (.inr (.inr (.inr (.inr (.inr p))))))))))=>pgW p
def ptW:Pt→List Wd
 | .inl p=>p0W p
 | .inr (s,l)=>sepW s (l.map p0W)
def dtB (d:Dt):Prop:=d.ps.length≤1000000∧d.fs.length≤1000000
def dtOK (d:Dt) (n:Nat):Bool:=d.fs.all fun f=>f.ar.all fun s=>sgOK s n
def p0OK (n:Nat):P0→Bool
 | .inl s=>true
 | .inr (.inl s)=>true
 | .inr (.inr (.inl s))=>true
 | .inr (.inr (.inr (.inl l)))=>true
 | .inr (.inr (.inr (.inr (.inl e))))=>true
 | .inr (.inr (.inr (.inr (.inr (.inl e)))))=>true
 | .inr (.inr (.inr (.inr (.inr (.inr (.inl l))))))=>l.all fun s=>sgOK s n
 | .inr (.inr (.inr (.inr (.inr (.inr (.inr (.inl s)))))))=>sgOK s n
 | .inr (.inr (.inr (.inr (.inr (.inr (.inr (.inr (.inl f))))))))=>f.ar.all fun s=>sgOK s n
 | .inr (.inr (.inr (.inr (.inr (.inr (.inr (.inr (.inr (.inl d)))))))))=>dtOK d n
 | .inr (.inr (.inr (.inr (.inr (.inr (.inr (.inr (.inr (.inr (.inl d))))))))))=>true
 | .inr (.inr (.inr (.inr (.inr (.inr (.inr (.inr (.inr (.inr (.inr p))))))))))=>p.ds.all fun d=>dtOK d n
def ptOK (n:Nat):Pt→Bool
 | .inl p=>p0OK n p
 | .inr (s,l)=>l.all (p0OK n)
def ptA (n:Nat) (p:Pt) (st:St):St:=if ptOK n p then runA (ptW p) st else none
def ptsA (n:Nat) (l:List Pt) (st:St):St:=l.foldl (fun s p=>ptA n p s) st
theorem ptA_none (n:Nat) (p:Pt):ptA n p none=none:=by
 unfold ptA
 split
 ·exact runA_none _
 ·rfl
theorem ptsA_none (n:Nat) (l:List Pt):ptsA n l none=none:=by
 induction l with
 | nil=>rfl
 | cons x r ih=>show ptsA n r (ptA n x none)=none;rw [ptA_none,ih]
theorem ptsA_cons (n:Nat) (p:Pt) (l:List Pt) (st:St):ptsA n (p :: l) st=ptsA n l (ptA n p st):=rfl
theorem ptsA_eq (n:Nat) (l:List Pt):∀ st,ptsA n l st=if l.all (ptOK n) then runA (l.flatMap ptW) st else none:=by
 induction l with
 | nil=>intro st;rfl
 | cons x r ih=>
  intro st
  rw [ptsA_cons,ih]
  unfold ptA
  by_cases h:ptOK n x
  ·rw [if_pos h,List.all_cons,h,Bool.true_and,List.flatMap_cons,runA_append]
  ·have h':ptOK n x=false:=by simpa using h
   rw [if_neg h,List.all_cons,h',Bool.false_and,runA_none]
   split <;> rfl
def tw (t:Tr):Nat:=t.fold fun t l=>8+t.ns.length+(l.map fun k=>k.2+3).sum
theorem tw_eq (t:Tr):tw t=8+t.ns.length+(t.ks.map fun k=>tw k+3).sum:=by
 unfold tw
 rw [Tr.fold_eq]
 simp only [List.map_map]
 rfl
def sw (s:Sg):Nat:=s.fold fun t l=>8+(l.map fun k=>k.2).sum
theorem sw_eq (s:Sg):sw s=8+(s.ar.map sw).sum:=by
 unfold sw
 rw [Sg.fold_eq]
 simp only [List.map_map]
 rfl
def fmw (f:Fm):Nat:=5+(f.ar.map sw).sum
def dtw (d:Dt):Nat:=6+d.ps.length+(d.fs.map fun f=>fmw f+1).sum
def dfw (d:Df):Nat:=3+tw d.bd
def pgw (p:Pg):Nat:=4+(p.ds.map fun d=>dtw d+1).sum+(p.fs.map fun d=>dfw d+1).sum
def p0w:P0→Nat
 | .inl s=>1
 | .inr (.inl s)=>1
 | .inr (.inr (.inl s))=>1
 | .inr (.inr (.inr (.inl l)))=>l.length+1
 | .inr (.inr (.inr (.inr (.inl e))))=>tw e+3
 | .inr (.inr (.inr (.inr (.inr (.inl e)))))=>tw e
 | .inr (.inr (.inr (.inr (.inr (.inr (.inl l))))))=>3+(l.map sw).sum
 | .inr (.inr (.inr (.inr (.inr (.inr (.inr (.inl s)))))))=>sw s
 | .inr (.inr (.inr (.inr (.inr (.inr (.inr (.inr (.inl f))))))))=>fmw f
 | .inr (.inr (.inr (.inr (.inr (.inr (.inr (.inr (.inr (.inl d)))))))))=>dtw d
 | .inr (.inr (.inr (.inr (.inr (.inr (.inr (.inr (.inr (.inr (.inl d))))))))))=>dfw d
 | .inr (.inr (.inr (.inr (.inr (.inr (.inr (.inr (.inr (.inr (.inr p))))))))))=>pgw p
def ptw:Pt→Nat
 | .inl p=>p0w p
 | .inr (s,l)=>1+(l.map fun p=>p0w p+1).sum
def ptsw (l:List Pt):Nat:=(l.map ptw).sum
def shp (t:Tr):Bool:=t.fold fun t l=>(decide (t.ns.length≤1000000) && decide (t.ks.length≤1000000)) && (if t.kd=4∨t.kd=7∨t.kd=8∨t.kd=13 then decide (1≤t.ks.length) else if t.kd=5∨t.kd=6∨t.kd=9 then decide (2≤t.ks.length) else if t.kd=10 then decide (3≤t.ks.length) else true) && l.all (·.2)
theorem shp_eq (t:Tr):shp t=((decide (t.ns.length≤1000000) && decide (t.ks.length≤1000000)) && (if t.kd=4∨t.kd=7∨t.kd=8∨t.kd=13 then decide (1≤t.ks.length) else if t.kd=5∨t.kd=6∨t.kd=9 then decide (2≤t.ks.length) else if t.kd=10 then decide (3≤t.ks.length) else true) && t.ks.all shp):=by
 unfold shp
 rw [Tr.fold_eq]
 simp only [List.all_map]
 rfl
end Go.Proofs.YtcnnlecjdkfdjaaGreatDoor
