/- Parts of the proof. -/
import Derived.Test.YtcnnlecjdkfdjaaGreatDoorRows
import Derived.WalkSpells
import Derived.Deep.RegionWith
import Derived.BigQuiet
import Derived.Lib.ItoaNum
set_option linter.unusedVariables false
set_option linter.unusedSimpArgs false
set_option maxRecDepth 100000
set_option maxHeartbeats 8000000
namespace Go.Proofs.YtcnnlecjdkfdjaaGreatDoor
def dg (c:UInt8):Bool:=decide (48≤(c.toNat:Int)) && decide ((c.toNat:Int)≤57)
def sm (c:UInt8):Bool:=decide (97≤(c.toNat:Int)) && decide ((c.toNat:Int)≤122)
def gr (c:UInt8):Bool:=decide (65≤(c.toNat:Int)) && decide ((c.toNat:Int)≤90)
def pt (c:UInt8):Bool:=sm c || gr c || dg c
def kw (l:List UInt8):Bool:=l == [99,97,115,101] || l == [111,102] || l == [108,101,116] || l == [105,110] || l == [100,111] || l == [100,111,115] || l == [105,102] || l == [116,104,101,110] || l == [101,108,115,101] || l == [100,97,116,97]
def wd (l:List UInt8):Bool:=!l.isEmpty && decide (l.length≤20) && l.all pt
def nm (l:List UInt8):Bool:=wd l && sm (l.headD 0) && !kw l
def cn (l:List UInt8):Bool:=wd l && gr (l.headD 0)
structure Tok where
 kd:Int
 tx:List UInt8
 nu:Int
 ln:Int
 co:Int
open Go.RowKit
theorem zz {p:Prop} (h:p):Hid p:=h
def S (l:List UInt8):ByteArray:=⟨l.toArray⟩
theorem S_data (l:List UInt8):(S l).data.toList=l:=rfl
theorem S_list (l:List UInt8):(S l).toList=l:=by rw [ByteArray.toList_eq];rfl
theorem S_size (l:List UInt8):(S l).size=l.length:=by simp [S,ByteArray.size]
theorem S_of (s:ByteArray):S s.data.toList=s:=by cases s;simp [S]
theorem digit_any (c:UInt8) (w:World):Calls Tryz.prog 96 #[.int .u8 c.toNat] w fun e w'=>e=.returned (.bool (dg c))∧w'=w:=by
 unfold dg
 generalize (c.toNat:Int)=n
 by_cases h:48≤n <;>
 ·go_enter Tryz.func96,Tryz.ntmps96
  go_wp2
  go_ret
  exact ⟨by simp;try omega,rfl⟩
theorem small_any (c:UInt8) (w:World):Calls Tryz.prog 144 #[.int .u8 c.toNat] w fun e w'=>e=.returned (.bool (sm c))∧w'=w:=by
 unfold sm
 generalize (c.toNat:Int)=n
 by_cases h:97≤n <;>
 ·go_enter Tryz.func144,Tryz.ntmps144
  go_wp2
  go_ret
  exact ⟨by simp;try omega,rfl⟩
theorem great_any (c:UInt8) (w:World):Calls Tryz.prog 165 #[.int .u8 c.toNat] w fun e w'=>e=.returned (.bool (gr c))∧w'=w:=by
 unfold gr
 generalize (c.toNat:Int)=n
 by_cases h:65≤n <;>
 ·go_enter Tryz.func165,Tryz.ntmps165
  go_wp2
  go_ret
  exact ⟨by simp;try omega,rfl⟩
theorem inWord_any (c:UInt8) (w:World):Calls Tryz.prog 166 #[.int .u8 c.toNat] w fun e w'=>e=.returned (.bool (pt c))∧w'=w:=by
 unfold pt
 cases h1:sm c
 ·cases h2:gr c
  ·go_enter Tryz.func166,Tryz.ntmps166
   go_wp2_with fail
   refine (small_any _ _).mono ?_;rintro e w' ⟨rfl,rfl⟩;rw [h1]
   go_wp2_with fail
   refine (great_any _ _).mono ?_;rintro e w' ⟨rfl,rfl⟩;rw [h2]
   go_wp2_with fail
   refine (digit_any _ _).mono ?_;rintro e w' ⟨rfl,rfl⟩
   go_wp2_with fail
   go_ret
   exact ⟨by simp,rfl⟩
  ·go_enter Tryz.func166,Tryz.ntmps166
   go_wp2_with fail
   refine (small_any _ _).mono ?_;rintro e w' ⟨rfl,rfl⟩;rw [h1]
   go_wp2_with fail
   refine (great_any _ _).mono ?_;rintro e w' ⟨rfl,rfl⟩;rw [h2]
   go_wp2_with fail
   go_ret
   exact ⟨by simp,rfl⟩
 ·go_enter Tryz.func166,Tryz.ntmps166
  go_wp2_with fail
  refine (small_any _ _).mono ?_;rintro e w' ⟨rfl,rfl⟩;rw [h1]
  go_wp2_with fail
  go_ret
  exact ⟨by simp,rfl⟩
theorem keyWord_any (l:List UInt8) (w:World):Calls Tryz.prog 145 #[.string (S l)] w fun e w'=>e=.returned (.bool (kw l))∧w'=w:=by
 have hl:=S_list l
 unfold kw
 generalize S l=s at *
 subst hl
 go_enter Tryz.func145,Tryz.ntmps145
 go_wp2
 all_goals first | (exfalso;simp_all;done) | skip
 all_goals go_ret
 all_goals exact ⟨by simp_all,rfl⟩
theorem all_take_succ (p:UInt8→Bool) (l:List UInt8) (k:Nat) (h:k<l.length):(l.take (k+1)).all p=((l.take k).all p && p l[k]):=by
 rw [List.take_succ_eq_append_getElem h,List.all_append];simp
theorem all_of_bad (p:UInt8→Bool) (l:List UInt8) (k:Nat) (h:k<l.length) (hb:p l[k]=false):l.all p=false:=by
 rw [List.all_eq_false];exact ⟨l[k],List.getElem_mem h,by simp [hb]⟩
theorem dget (s:ByteArray) (k:Nat) (h:k<s.size) (h':k<s.data.toList.length):s[k]=s.data.toList[k]:=rfl
theorem dlen (s:ByteArray):s.data.toList.length=s.size:=Array.length_toList
theorem word_str (s:ByteArray) (w:World) (hl:s.size≤281474976710656):Calls Tryz.prog 143 #[.string s] w fun e w'=>e=.returned (.bool (wd s.data.toList))∧w'=w:=by
 have hs:=ByteArray.toList_eq s
 have hz:=dlen s
 by_cases h0:s.size=0
 ·have e0:s.data.toList=[]:=List.length_eq_zero_iff.1 (by omega)
  have H:Hid (wd s.data.toList=false):=by show wd s.data.toList=false;rw [e0];rfl
  have h1:(s.toList == [])=true:=by rw [hs,e0];rfl
  clear h0 hs e0 hz
  go_enter Tryz.func143,Tryz.ntmps143
  go_wp2
  go_ret
  exact ⟨by rw [H.out];rfl,rfl⟩
 ·have h1:(s.toList == [])=false:=by
   rw [hs];cases h:s.data.toList with | nil=>rw [h] at hz;simp at hz;omega | cons a b=>rfl
  have hne:s.data.toList.isEmpty=false:=by cases h:s.data.toList with | nil=>rw [h] at hz;simp at hz;omega | cons a b=>rfl
  by_cases h20:20<(s.size:Int)
  ·have H:Hid (wd s.data.toList=false):=by show wd s.data.toList=false;unfold wd;rw [hz,show decide (s.size≤20)=false from by simp;omega];simp
   clear h0 hs hne hz
   go_enter Tryz.func143,Tryz.ntmps143
   go_wp2
   go_ret
   exact ⟨by rw [H.out];rfl,rfl⟩
  ·have H:Hid (wd s.data.toList=s.data.toList.all pt):=by
    show wd s.data.toList=s.data.toList.all pt;unfold wd;rw [hne,hz,show decide (s.size≤20)=true from by simp;omega];simp
   have HZ:=zz hz
   clear h0 hs hne hz
   go_enter Tryz.func143,Tryz.ntmps143
   go_wp2
   go_loop [13] (fun i=>∃ k:Nat,k≤s.size∧i=.int .i64 k∧(s.data.toList.take k).all pt=true) (fun i=>s.size - (intOf i).toNat)
   case atStart=>exact ⟨0,Nat.zero_le _,rfl,rfl⟩
   case round=>
    obtain ⟨k,hk,rfl,hall⟩:=hrel
    have HA:=zz hall
    clear hall
    by_cases hlt:k<s.size
    ·have hlt':k<s.data.toList.length:=by rw [HZ.out];exact hlt
     have HT:=zz (all_take_succ pt _ k hlt')
     have hb:=all_of_bad pt _ k hlt'
     have HD:=zz (dget s k hlt hlt')
     cases hq:pt s[k]
     ·have HB:=zz (hb hq)
      clear hb
      go_wp2_with fail
      refine (inWord_any _ _).mono ?_;rintro e w' ⟨rfl,rfl⟩;rw [hq]
      go_wp2_with fail
      go_ret
      exact ⟨by rw [H.out,HB.out];rfl,rfl⟩
     ·clear hb
      have HQ:=zz hq
      go_wp2_with fail
      refine (inWord_any _ _).mono ?_;rintro e w' ⟨rfl,rfl⟩;rw [HQ.out]
      go_wp2_with fail
      go_round
      case rel=>exact ⟨k+1,by omega,by go_num,by rw [HT.out,HA.out,← HD.out,HQ.out];rfl⟩
      case measure=>simp [intOf];omega
    ·go_wp2
     go_ret
     exact ⟨by rw [H.out,← HA.out,List.take_of_length_le (by rw [HZ.out];omega)];rfl,rfl⟩
theorem name_str (s:ByteArray) (w:World) (hl:s.size≤281474976710656):Calls Tryz.prog 78 #[.string s] w fun e w'=>e=.returned (.bool (nm s.data.toList))∧w'=w:=by
 have hz:=dlen s
 cases hw:wd s.data.toList
 ·have H:Hid (nm s.data.toList=false):=by show nm s.data.toList=false;unfold nm;rw [hw];rfl
  go_enter Tryz.func78,Tryz.ntmps78
  go_wp2_with fail
  refine (word_str s _ hl).mono ?_;rintro e w' ⟨rfl,rfl⟩;rw [hw]
  go_wp2_with fail
  go_ret
  exact ⟨by rw [H.out];rfl,rfl⟩
 ·have h0:0<s.size:=by
   cases h:s.data.toList with | nil=>rw [h] at hw;simp [wd] at hw | cons a b=>rw [h] at hz;simp at hz;omega
  have hh:s.data.toList.headD 0=s[0]:=by
   cases s with | mk d=>cases d with | mk l=>cases l with | nil=>simp [ByteArray.size] at h0 | cons a b=>rfl
  cases hq:sm s[0]
  ·have H:Hid (nm s.data.toList=false):=by show nm s.data.toList=false;unfold nm;rw [hh,hq,Bool.and_false,Bool.false_and]
   have HQ:=zz hq
   have HW:=zz hw
   clear hh hq hw hz
   go_enter Tryz.func78,Tryz.ntmps78
   go_wp2_with fail
   refine (word_str s _ hl).mono ?_;rintro e w' ⟨rfl,rfl⟩;rw [HW.out]
   go_wp2_with fail
   refine (small_any _ _).mono ?_;rintro e w' ⟨rfl,rfl⟩;rw [HQ.out]
   go_wp2_with fail
   go_ret
   exact ⟨by rw [H.out];rfl,rfl⟩
  ·have H:Hid (nm s.data.toList=!kw s.data.toList):=by show nm s.data.toList=!kw s.data.toList;unfold nm;rw [hh,hq,hw,Bool.and_true,Bool.true_and]
   have HQ:=zz hq
   have HW:=zz hw
   have HS:=zz (S_of s)
   clear hh hq hw hz
   go_enter Tryz.func78,Tryz.ntmps78
   go_wp2_with fail
   refine (word_str s _ hl).mono ?_;rintro e w' ⟨rfl,rfl⟩;rw [HW.out]
   go_wp2_with fail
   refine (small_any _ _).mono ?_;rintro e w' ⟨rfl,rfl⟩;rw [HQ.out]
   go_wp2_with fail
   have hk:=keyWord_any s.data.toList w'
   rw [HS.out] at hk
   refine hk.mono ?_;rintro e w' ⟨rfl,rfl⟩
   clear hk
   go_wp2_with fail
   go_ret
   exact ⟨by rw [H.out];rfl,rfl⟩
theorem con_str (s:ByteArray) (w:World) (hl:s.size≤281474976710656):Calls Tryz.prog 99 #[.string s] w fun e w'=>e=.returned (.bool (cn s.data.toList))∧w'=w:=by
 have hz:=dlen s
 cases hw:wd s.data.toList
 ·have H:Hid (cn s.data.toList=false):=by show cn s.data.toList=false;unfold cn;rw [hw];rfl
  go_enter Tryz.func99,Tryz.ntmps99
  go_wp2_with fail
  refine (word_str s _ hl).mono ?_;rintro e w' ⟨rfl,rfl⟩;rw [hw]
  go_wp2_with fail
  go_ret
  exact ⟨by rw [H.out];rfl,rfl⟩
 ·have h0:0<s.size:=by
   cases h:s.data.toList with | nil=>rw [h] at hw;simp [wd] at hw | cons a b=>rw [h] at hz;simp at hz;omega
  have hh:s.data.toList.headD 0=s[0]:=by
   cases s with | mk d=>cases d with | mk l=>cases l with | nil=>simp [ByteArray.size] at h0 | cons a b=>rfl
  have H:Hid (cn s.data.toList=gr s[0]):=by show cn s.data.toList=gr s[0];unfold cn;rw [hh,hw,Bool.true_and]
  have HW:=zz hw
  clear hh hw hz
  go_enter Tryz.func99,Tryz.ntmps99
  go_wp2_with fail
  refine (word_str s _ hl).mono ?_;rintro e w' ⟨rfl,rfl⟩;rw [HW.out]
  go_wp2_with fail
  refine (great_any _ _).mono ?_;rintro e w' ⟨rfl,rfl⟩
  go_wp2_with fail
  go_ret
  exact ⟨by rw [H.out];rfl,rfl⟩
theorem name_any (l:List UInt8) (w:World) (hl:l.length≤281474976710656):Calls Tryz.prog 78 #[.string (S l)] w fun e w'=>e=.returned (.bool (nm l))∧w'=w:=name_str (S l) w (by rw [S_size];exact hl)
theorem con_any (l:List UInt8) (w:World) (hl:l.length≤281474976710656):Calls Tryz.prog 99 #[.string (S l)] w fun e w'=>e=.returned (.bool (cn l))∧w'=w:=con_str (S l) w (by rw [S_size];exact hl)
end Go.Proofs.YtcnnlecjdkfdjaaGreatDoor
namespace Go.Proofs.YtcnnlecjdkfdjaaGreatDoor
structure Tr where
 kd:Int
 nm:List UInt8
 nu:Int
 ns:List (List UInt8)
 ks:List Tr
theorem Tr.kid_lt (t:Tr):∀ k ∈ t.ks,SizeOf.sizeOf k<SizeOf.sizeOf t:=by
 intro k hk
 cases t
 have:=List.sizeOf_lt_of_mem hk
 simp at *
 omega
def Tr.fold {α:Type} (f:Tr→List (Tr × α)→α) (t:Tr):α:=f t (t.ks.attach.map fun k=>(k.1,Tr.fold f k.1))
 termination_by SizeOf.sizeOf t
 decreasing_by exact Tr.kid_lt t k.1 k.2
theorem Tr.fold_eq {α:Type} (f:Tr→List (Tr × α)→α) (t:Tr):t.fold f=f t (t.ks.map fun k=>(k,k.fold f)):=by
 rw [Tr.fold]
 congr 1
 exact List.attach_map_val (f:=fun k=>(k,Tr.fold f k))
theorem Tr.ind {p:Tr→Prop} (h:∀ t:Tr,(∀ k ∈ t.ks,p k)→p t) (t:Tr):p t:=by
 have H:∀ n,∀ t:Tr,SizeOf.sizeOf t≤n→p t:=by
  intro n
  induction n with
  | zero=>intro t ht;cases t;simp at ht
  | succ n ih=>exact fun t ht=>h t fun k hk=>ih k (by have:=t.kid_lt k hk;omega)
 exact H _ t (Nat.le_refl _)
structure Sg where
 nm:List UInt8
 ar:List Sg
theorem Sg.kid_lt (t:Sg):∀ k ∈ t.ar,SizeOf.sizeOf k<SizeOf.sizeOf t:=by
 intro k hk
 cases t
 have:=List.sizeOf_lt_of_mem hk
 simp at *
 omega
def Sg.fold {α:Type} (f:Sg→List (Sg × α)→α) (t:Sg):α:=f t (t.ar.attach.map fun k=>(k.1,Sg.fold f k.1))
 termination_by SizeOf.sizeOf t
 decreasing_by exact Sg.kid_lt t k.1 k.2
theorem Sg.fold_eq {α:Type} (f:Sg→List (Sg × α)→α) (t:Sg):t.fold f=f t (t.ar.map fun k=>(k,k.fold f)):=by
 rw [Sg.fold]
 congr 1
 exact List.attach_map_val (f:=fun k=>(k,Sg.fold f k))
theorem Sg.ind {p:Sg→Prop} (h:∀ t:Sg,(∀ k ∈ t.ar,p k)→p t) (t:Sg):p t:=by
 have H:∀ n,∀ t:Sg,SizeOf.sizeOf t≤n→p t:=by
  intro n
  induction n with
  | zero=>intro t ht;cases t;simp at ht
  | succ n ih=>exact fun t ht=>h t fun k hk=>ih k (by have:=t.kid_lt k hk;omega)
 exact H _ t (Nat.le_refl _)
structure Fm where
 nm:List UInt8
 ar:List Sg
structure Dt where
 nm:List UInt8
 ps:List (List UInt8)
 fs:List Fm
structure Df where
 nm:List UInt8
 bd:Tr
structure Pg where
 ds:List Dt
 fs:List Df
abbrev Wd:=Nat × List UInt8
def pw (s:List UInt8):Wd:=(0,s)
def sepW (s:List UInt8):List (List Wd)→List Wd
 | []=>[]
 | a :: r=>a ++ r.flatMap fun b=>pw s :: b
def brW (l:List Wd):List Wd:=(1,[40]) :: (l ++ [(2,[41])])
def isAt (k:Int):Bool:=k == 1 || k == 2 || k == 3
def atW (k:Tr × List Wd):List Wd:=if isAt k.1.kd then k.2 else brW k.2
def t0:Tr:=⟨0,[],0,[],[]⟩
def g0 {α:Type} (l:List (Tr × List α)) (i:Nat):Tr × List α:=l.getD i (t0,[])
def wsF (t:Tr) (l:List (Tr × List Wd)):List Wd:=
 if t.kd=1 then [pw (Lib.itoa t.nu)]
 else if t.kd=2∨t.kd=3 then [pw t.nm]
 else if t.kd=4 then (1,[92]) :: (t.ns.map pw ++ (pw [45,62] :: (g0 l 0).2))
 else if t.kd=5 then atW (g0 l 0) ++ atW (g0 l 1)
 else if t.kd=6 then pw [108,101,116] :: (t.ns.map pw ++ (pw [61] :: ((g0 l 0).2 ++ (pw [105,110] :: (g0 l 1).2))))
 else if t.kd=7 then pw [99,97,115,101] :: ((g0 l 0).2 ++ (pw [111,102] :: pw [123] :: (sepW [59] (l.tail.map (·.2)) ++ [pw [125]])))
 else if t.kd=8 then pw t.nm :: (t.ns.map pw ++ (pw [45,62] :: (g0 l 0).2))
 else if t.kd=9 then atW (g0 l 0) ++ (pw t.nm :: atW (g0 l 1))
 else if t.kd=10 then pw [105,102] :: ((g0 l 0).2 ++ (pw [116,104,101,110] :: ((g0 l 1).2 ++ (pw [101,108,115,101] :: (g0 l 2).2))))
 else if t.kd=11 then pw [100,111] :: pw [123] :: (sepW [59] (l.map (·.2)) ++ [pw [125]])
 else if t.kd=12 then pw [100,111,115] :: pw [123] :: (sepW [59] (l.map (·.2)) ++ [pw [125]])
 else if t.kd=13 then t.ns.map pw ++ (pw [60,45] :: (g0 l 0).2)
 else []
def ws (t:Tr):List Wd:=t.fold wsF
theorem ws_eq (t:Tr):ws t=wsF t (t.ks.map fun k=>(k,ws k)):=Tr.fold_eq _ t
def sgAt (k:Sg × List Wd):List Wd:=if k.1.ar.isEmpty then k.2 else brW k.2
def sgF (s:Sg) (l:List (Sg × List Wd)):List Wd:=
 if s.nm=[45,62]∧l.length=2 then (l.take 1).flatMap sgAt ++ (pw [45,62] :: (l.drop 1).flatMap sgAt)
 else pw s.nm :: l.flatMap sgAt
def sgW (s:Sg):List Wd:=s.fold sgF
theorem sgW_eq (s:Sg):sgW s=sgF s (s.ar.map fun k=>(k,sgW k)):=Sg.fold_eq _ s
def sgsW (l:List Sg):List Wd:=(l.map fun k=>(k,sgW k)).flatMap sgAt
def sgOK (s:Sg):Nat→Bool:=s.fold (α:=Nat→Bool) fun t l n=>decide (n+1≤30) && decide (t.ar.length≤40) && l.all fun k=>k.2 (n+1)
theorem sgOK_eq (s:Sg) (n:Nat):sgOK s n=(decide (n+1≤30) && decide (s.ar.length≤40) && s.ar.all fun k=>sgOK k (n+1)):=by
 unfold sgOK
 rw [Sg.fold_eq]
 simp only [List.all_map]
 rfl
def fmW (f:Fm):List Wd:=pw f.nm :: sgsW f.ar
def dtW (d:Dt):List Wd:=pw [100,97,116,97] :: pw d.nm :: (d.ps.map pw ++ (pw [61] :: sepW [124] (d.fs.map fmW)))
def dfW (d:Df):List Wd:=pw d.nm :: pw [61] :: ws d.bd
def pgW (p:Pg):List Wd:=pw [123] :: (sepW [59] (p.ds.map dtW ++ p.fs.map dfW) ++ [pw [125]])
abbrev St:=Option (List UInt8 × Bool)
def wdA (s:List UInt8):St→St
 | none=>none
 | some (o,t)=>if (o ++ ((if t then [] else [32]) ++ s)).length≤2147483647 then some (o ++ ((if t then [] else [32]) ++ s),false) else none
def tightA:St→St
 | none=>none
 | some (o,t)=>some (o,true)
def oneA (x:Wd) (st:St):St:=if x.1=0 then wdA x.2 st else if x.1=1 then tightA (wdA x.2 st) else wdA x.2 (tightA st)
def runA (l:List Wd) (st:St):St:=l.foldl (fun s x=>oneA x s) st
theorem runA_nil (st:St):runA [] st=st:=rfl
theorem runA_cons (x:Wd) (l:List Wd) (st:St):runA (x :: l) st=runA l (oneA x st):=rfl
theorem runA_append (a b:List Wd) (st:St):runA (a ++ b) st=runA b (runA a st):=by simp [runA]
theorem oneA_none (x:Wd):oneA x none=none:=by
 unfold oneA
 split
 ·rfl
 ·split <;> rfl
theorem runA_none (l:List Wd):runA l none=none:=by
 induction l with
 | nil=>rfl
 | cons x r ih=>rw [runA_cons,oneA_none,ih]
abbrev P0:=List UInt8 ⊕ List UInt8 ⊕ List UInt8 ⊕ List (List UInt8) ⊕ Tr ⊕ Tr ⊕ List Sg ⊕ Sg ⊕ Fm ⊕ Dt ⊕ Df ⊕ Pg
abbrev Pt:=P0 ⊕ (List UInt8 × List P0)
def p0W:P0→List Wd
 | .inl s=>[pw s]
 | .inr (.inl s)=>[(1,s)]
 | .inr (.inr (.inl s))=>[(2,s)]
 | .inr (.inr (.inr (.inl l)))=>l.map pw
 | .inr (.inr (.inr (.inr (.inl e))))=>atW (e,ws e)
 | .inr (.inr (.inr (.inr (.inr (.inl e)))))=>ws e
 | .inr (.inr (.inr (.inr (.inr (.inr (.inl l))))))=>sgsW l
 | .inr (.inr (.inr (.inr (.inr (.inr (.inr (.inl s)))))))=>sgW s
 | .inr (.inr (.inr (.inr (.inr (.inr (.inr (.inr (.inl f))))))))=>fmW f
 | .inr (.inr (.inr (.inr (.inr (.inr (.inr (.inr (.inr (.inl d)))))))))=>dtW d
 | .inr (.inr (.inr (.inr (.inr (.inr (.inr (.inr (.inr (.inr (.inl d))))))))))=>dfW d
 | .inr (.inr (.inr (.inr (.inr (.inr (.inr (.inr (.inr (.inr (.inr p))))))))))=>pgW p
def ptW:Pt→List Wd
 | .inl p=>p0W p
 | .inr (s,l)=>sepW s (l.map p0W)
def dtB (d:Dt):Prop:=d.ps.length≤1000000∧d.fs.length≤1000000
def dtOK (d:Dt) (n:Nat):Bool:=d.fs.all fun f=>f.ar.all fun s=>sgOK s n
def p0OK (n:Nat):P0→Bool
 | .inl s=>true
 | .inr (.inl s)=>true
 | .inr (.inr (.inl s))=>true
 | .inr (.inr (.inr (.inl l)))=>true
 | .inr (.inr (.inr (.inr (.inl e))))=>true
 | .inr (.inr (.inr (.inr (.inr (.inl e)))))=>true
 | .inr (.inr (.inr (.inr (.inr (.inr (.inl l))))))=>l.all fun s=>sgOK s n
 | .inr (.inr (.inr (.inr (.inr (.inr (.inr (.inl s)))))))=>sgOK s n
 | .inr (.inr (.inr (.inr (.inr (.inr (.inr (.inr (.inl f))))))))=>f.ar.all fun s=>sgOK s n
 | .inr (.inr (.inr (.inr (.inr (.inr (.inr (.inr (.inr (.inl d)))))))))=>dtOK d n
 | .inr (.inr (.inr (.inr (.inr (.inr (.inr (.inr (.inr (.inr (.inl d))))))))))=>true
 | .inr (.inr (.inr (.inr (.inr (.inr (.inr (.inr (.inr (.inr (.inr p))))))))))=>p.ds.all fun d=>dtOK d n
def ptOK (n:Nat):Pt→Bool
 | .inl p=>p0OK n p
 | .inr (s,l)=>l.all (p0OK n)
def ptA (n:Nat) (p:Pt) (st:St):St:=if ptOK n p then runA (ptW p) st else none
def ptsA (n:Nat) (l:List Pt) (st:St):St:=l.foldl (fun s p=>ptA n p s) st
theorem ptA_none (n:Nat) (p:Pt):ptA n p none=none:=by
 unfold ptA
 split
 ·exact runA_none _
 ·rfl
theorem ptsA_none (n:Nat) (l:List Pt):ptsA n l none=none:=by
 induction l with
 | nil=>rfl
 | cons x r ih=>show ptsA n r (ptA n x none)=none;rw [ptA_none,ih]
theorem ptsA_cons (n:Nat) (p:Pt) (l:List Pt) (st:St):ptsA n (p :: l) st=ptsA n l (ptA n p st):=rfl
theorem ptsA_eq (n:Nat) (l:List Pt):∀ st,ptsA n l st=if l.all (ptOK n) then runA (l.flatMap ptW) st else none:=by
 induction l with
 | nil=>intro st;rfl
 | cons x r ih=>
  intro st
  rw [ptsA_cons,ih]
  unfold ptA
  by_cases h:ptOK n x
  ·rw [if_pos h,List.all_cons,h,Bool.true_and,List.flatMap_cons,runA_append]
  ·have h':ptOK n x=false:=by simpa using h
   rw [if_neg h,List.all_cons,h',Bool.false_and,runA_none]
   split <;> rfl
def tw (t:Tr):Nat:=t.fold fun t l=>8+t.ns.length+(l.map fun k=>k.2+3).sum
theorem tw_eq (t:Tr):tw t=8+t.ns.length+(t.ks.map fun k=>tw k+3).sum:=by
 unfold tw
 rw [Tr.fold_eq]
 simp only [List.map_map]
 rfl
def sw (s:Sg):Nat:=s.fold fun t l=>8+(l.map fun k=>k.2).sum
theorem sw_eq (s:Sg):sw s=8+(s.ar.map sw).sum:=by
 unfold sw
 rw [Sg.fold_eq]
 simp only [List.map_map]
 rfl
def fmw (f:Fm):Nat:=5+(f.ar.map sw).sum
def dtw (d:Dt):Nat:=6+d.ps.length+(d.fs.map fun f=>fmw f+1).sum
def dfw (d:Df):Nat:=3+tw d.bd
def pgw (p:Pg):Nat:=4+(p.ds.map fun d=>dtw d+1).sum+(p.fs.map fun d=>dfw d+1).sum
def p0w:P0→Nat
 | .inl s=>1
 | .inr (.inl s)=>1
 | .inr (.inr (.inl s))=>1
 | .inr (.inr (.inr (.inl l)))=>l.length+1
 | .inr (.inr (.inr (.inr (.inl e))))=>tw e+3
 | .inr (.inr (.inr (.inr (.inr (.inl e)))))=>tw e
 | .inr (.inr (.inr (.inr (.inr (.inr (.inl l))))))=>3+(l.map sw).sum
 | .inr (.inr (.inr (.inr (.inr (.inr (.inr (.inl s)))))))=>sw s
 | .inr (.inr (.inr (.inr (.inr (.inr (.inr (.inr (.inl f))))))))=>fmw f
 | .inr (.inr (.inr (.inr (.inr (.inr (.inr (.inr (.inr (.inl d)))))))))=>dtw d
 | .inr (.inr (.inr (.inr (.inr (.inr (.inr (.inr (.inr (.inr (.inl d))))))))))=>dfw d
 | .inr (.inr (.inr (.inr (.inr (.inr (.inr (.inr (.inr (.inr (.inr p))))))))))=>pgw p
def ptw:Pt→Nat
 | .inl p=>p0w p
 | .inr (s,l)=>1+(l.map fun p=>p0w p+1).sum
def ptsw (l:List Pt):Nat:=(l.map ptw).sum
def shp (t:Tr):Bool:=t.fold fun t l=>(decide (t.ns.length≤1000000) && decide (t.ks.length≤1000000)) && (if t.kd=4∨t.kd=7∨t.kd=8∨t.kd=13 then decide (1≤t.ks.length) else if t.kd=5∨t.kd=6∨t.kd=9 then decide (2≤t.ks.length) else if t.kd=10 then decide (3≤t.ks.length) else true) && l.all (·.2)
theorem shp_eq (t:Tr):shp t=((decide (t.ns.length≤1000000) && decide (t.ks.length≤1000000)) && (if t.kd=4∨t.kd=7∨t.kd=8∨t.kd=13 then decide (1≤t.ks.length) else if t.kd=5∨t.kd=6∨t.kd=9 then decide (2≤t.ks.length) else if t.kd=10 then decide (3≤t.ks.length) else true) && t.ks.all shp):=by
 unfold shp
 rw [Tr.fold_eq]
 simp only [List.all_map]
 rfl
open Go.RowKit
def cl (x:UInt8):Value:=.int .u8 x.toNat
theorem info5:(Tryz.prog.info? 5).map (fun i=>(i.zero,i.size,i.bytes))=some (some (.int .u8 0),1,1):=by kernel_rfl
def Hold (b:Nat) (C:Array Value) (t:TypeId) (W:World):Prop:=W.heap[b]?=some (Obj.cells C t (0,0))
theorem Hold.new (W:World) (C:Array Value) (t:TypeId):Hold W.heap.size C t (W.alloc (.cells C t)):=by
 show (W.heap.push _)[W.heap.size]?=_
 simp
theorem Hold.alloc {b:Nat} {C:Array Value} {t:TypeId} {W:World} (h:Hold b C t W) (o:Obj):Hold b C t (W.alloc o):=(Below.heap_alloc W o b (Array.getElem?_eq_some_iff.1 h).1).trans h
theorem Hold.lt {b:Nat} {C:Array Value} {t:TypeId} {W:World} (h:Hold b C t W):b<W.heap.size:=(Array.getElem?_eq_some_iff.1 h).1
theorem Hold.set {b:Nat} {C:Array Value} {t:TypeId} {W:World} (h:Hold b C t W) (i:Nat) (v:Value):Hold b (C.setIfInBounds i v) t (W.setCell ⟨b,i,none⟩ v):=by
 obtain ⟨hlt,hk⟩:=Array.getElem?_eq_some_iff.1 h
 show (W.heap.modify b _)[b]?=_
 rw [Array.getElem?_eq_getElem (by rw [Array.size_modify];exact hlt),Array.getElem_modify_self,hk]
 rfl
theorem Hold.other {b b':Nat} {C:Array Value} {t:TypeId} {W:World} (h:Hold b C t W) (hne:b≠b') (i:Nat) (v:Value):Hold b C t (W.setCell ⟨b',i,none⟩ v):=(Below.heap_setCell _ _ _ b hne).trans h
theorem Hold.cell {b:Nat} {C:Array Value} {t:TypeId} {W:World} (h:Hold b C t W) (i:Nat):W.cell? ⟨b,i,none⟩=C[i]?:=by unfold World.cell?;rw [show W.heap[b]?=_ from h];rfl
theorem Hold.frozen {b:Nat} {C:Array Value} {t:TypeId} {W:World} (h:Hold b C t W) (i:Nat):W.frozen? ⟨b,i,none⟩=false:=by unfold World.frozen?;rw [show W.heap[b]?=_ from h];simp
theorem Hold.below {b n:Nat} {C:Array Value} {t:TypeId} {W W':World} (h:Hold b C t W) (hb:Below n W W') (hn:b<n):Hold b C t W':=(hb.block b hn).trans h
theorem below_next {w w':World} {o:Obj} (h:Below (w.alloc o).heap.size (w.alloc o) w'):Below w.heap.size w w':=((Below.refl _ w).alloc (Nat.le_refl _) o).trans (h.mono (by simp))
theorem row_other {b:Nat} {C:Array Value} {t e:TypeId} {W:World} {base size k:Nat} {v:Value} {xs:List Value} (hr:W.ownsRow base e size v k xs) (h:Hold b C t W) (hne:t≠e) (i:Nat) (u:Value):(W.setCell ⟨b,i,none⟩ u).ownsRow base e size v k xs:=by
 rcases hr with ⟨h1,h2 | ⟨g,cap,cur,hv,hb,hg,r⟩⟩
 ·exact ⟨h1,.inl h2⟩
 ·refine ⟨h1,.inr ⟨g,cap,cur,hv,hb,(Below.heap_setCell _ _ _ g (fun e'=>?_)).trans hg,r⟩⟩
  have e'':g=b:=e'
  subst e''
  rw [show W.heap[g]?=_ from h] at hg;cases hg;exact hne rfl
theorem row_ne {W:World} {b base k size:Nat} {C:Array Value} {t e:TypeId} {v:Value} {xs:List Value} (h:Hold b C t W) (hr:W.ownsRow base e size v k xs) (hne:t≠e):some b≠v.ownBlock:=by
 rcases hr.2 with ⟨rfl,_⟩ | ⟨g,cap,cur,rfl,_,hgb,_⟩
 ·simp [Value.ownBlock]
 ·intro e'
  have e'':b=g:=by simpa [Value.ownBlock] using e'
  subst e''
  rw [show W.heap[b]?=_ from h] at hgb;cases hgb;exact hne rfl
theorem row_lt {W:World} {base k size:Nat} {e:TypeId} {v:Value} {xs:List Value} (hr:W.ownsRow base e size v k xs):some W.heap.size≠v.ownBlock:=by
 rcases hr.2 with ⟨rfl,_⟩ | ⟨g,cap,cur,rfl,_,hgb,_⟩
 ·simp [Value.ownBlock]
 ·intro e'
  have e'':W.heap.size=g:=by simpa [Value.ownBlock] using e'
  have:=(Array.getElem?_eq_some_iff.1 hgb).1
  omega
theorem slice_of {w:World} {base n:Nat} {e:TypeId} {size:Nat} {v:Value} {xs:List Value} (h:w.ownsRow base e size v n xs):∃ ao cap,v=.slice ao n cap:=by
 rcases h.2 with ⟨rfl,rfl⟩ | ⟨g,cap,cur,rfl,_⟩
 ·exact ⟨none,0,rfl⟩
 ·exact ⟨some ⟨g,0,none⟩,cap,rfl⟩
theorem row_keep {W W':World} {base k size:Nat} {e:TypeId} {v:Value} {xs:List Value} (hr:W.ownsRow base e size v k xs) (h:∀ g,v.ownBlock=some g→g<W.heap.size→W'.heap[g]?=W.heap[g]?):W'.ownsRow base e size v k xs:=by
 rcases hr with ⟨h1,h2 | ⟨g,cap,cur,hv,hb,hg,r⟩⟩
 ·exact ⟨h1,.inl h2⟩
 ·refine ⟨h1,.inr ⟨g,cap,cur,hv,hb,(h g (by rw [hv];rfl) (Array.getElem?_eq_some_iff.1 hg).1).trans hg,r⟩⟩
theorem row_cut {W:World} {base k size cap j:Nat} {e:TypeId} {p:Option Addr} {xs:List Value} (hr:W.ownsRow base e size (.slice p k cap) k xs) (hj:j≤k):W.ownsRow base e size (.slice p j cap) j (xs.take (j * size)):=by
 have hx:=hr.1
 have hjk:j * size≤k * size:=Nat.mul_le_mul_right _ hj
 rcases hr with ⟨h1,⟨h2,h3⟩ | ⟨g,cap',cur,hv,hb,hg,r1,r2,r3,r4⟩⟩
 ·subst h3
  obtain rfl:j=0:=by omega
  cases h2
  exact ⟨by simp,.inl ⟨rfl,rfl⟩⟩
 ·cases hv
  refine ⟨by rw [List.length_take];omega,.inr ⟨g,cap,cur,rfl,hb,hg,by omega,r2,r3,?_⟩⟩
  rw [← r4,List.take_take,Nat.min_eq_left hjk]
theorem below_row {B n:Nat} {e:TypeId} {size:Nat} {w w':World} {v:Value} {xs:List Value} (hr:w.ownsRow B e size v n xs) (hB:B≤w.heap.size) (hg:w.grownBy w' v.ownBlock):Below B w w':=by
 refine ⟨hg.os,hg.tape,hg.output,hg.size,fun k hk=>hg.block k (by omega) (fun e=>?_)⟩
 rcases hr.2 with ⟨rfl,_⟩ | ⟨g,cap,cur,rfl,hb,_⟩
 ·simp [Value.ownBlock] at e
 ·simp [Value.ownBlock] at e;omega
theorem row_cell {W:World} {base n cap size:Nat} {e:TypeId} {g:Nat} {xs:List Value} (h:W.ownsRow base e size (.slice (some ⟨g,0,none⟩) n cap) n xs) {j:Nat} {v:Value} (hj:xs[j]?=some v):W.cell? ⟨g,j,none⟩=some v:=by
 have hl:=(List.getElem?_eq_some_iff.1 hj).1
 rcases h with ⟨h1,⟨h2,_⟩ | ⟨g',cap',cur,hv,hb,hg,r1,r2,r3,r4⟩⟩
 ·cases h2
 ·cases hv
  rw [← r4,List.getElem?_take,if_pos (by omega)] at hj
  simp only [World.cell?,hg]
  rw [← hj]
  simp
structure KP (P:Nat→Prop) (w w':World):Prop where
 os:w'.os=w.os
 tape:w'.tape=w.tape
 output:w'.output=w.output
 size:w.heap.size≤w'.heap.size
 block:∀ b,P b→w'.heap[b]?=w.heap[b]?
theorem KP.refl (P:Nat→Prop) (w:World):KP P w w:=⟨rfl,rfl,rfl,Nat.le_refl _,fun _ _=>rfl⟩
theorem KP.trans {P:Nat→Prop} {a b c:World} (h:KP P a b) (k:KP P b c):KP P a c:=⟨k.os.trans h.os,k.tape.trans h.tape,k.output.trans h.output,Nat.le_trans h.size k.size,fun x hx=>(k.block x hx).trans (h.block x hx)⟩
theorem KP.mono {P Q:Nat→Prop} {a b:World} (h:KP P a b) (hq:∀ x,Q x→P x):KP Q a b:=⟨h.os,h.tape,h.output,h.size,fun x hx=>h.block x (hq x hx)⟩
theorem KP.below {P:Nat→Prop} {a b:World} {n:Nat} (h:KP P a b) (hq:∀ x,x<n→P x):Below n a b:=⟨h.os,h.tape,h.output,h.size,fun x hx=>h.block x (hq x hx)⟩
theorem KP.alloc {P:Nat→Prop} (w:World) (o:Obj) (hP:∀ b,P b→b<w.heap.size):KP P w (w.alloc o):=⟨rfl,rfl,rfl,by simp,fun b hb=>Below.heap_alloc w o b (hP b hb)⟩
theorem KP.setCell {P:Nat→Prop} (w:World) (b i:Nat) (v:Value) (hP:¬ P b):KP P w (w.setCell ⟨b,i,none⟩ v):=⟨rfl,rfl,rfl,by simp,fun x hx=>Below.heap_setCell _ _ _ x (fun e=>hP (by subst e;exact hx))⟩
theorem KP.of_grown {P:Nat→Prop} {w w':World} {r:Option Nat} (h:w.grownBy w' r) (hP:∀ b,P b→b<w.heap.size∧some b≠r):KP P w w':=⟨h.os,h.tape,h.output,h.size,fun b hb=>h.block b (hP b hb).1 (hP b hb).2⟩
theorem KP.of_below {P:Nat→Prop} {w w':World} {n:Nat} (h:Below n w w') (hP:∀ b,P b→b<n):KP P w w':=⟨h.os,h.tape,h.output,h.size,fun b hb=>h.block b (hP b hb)⟩
theorem KP.drew {P:Nat→Prop} {w w':World} (h:KP P w w'):KP P w w'.drew:=⟨h.os,h.tape,h.output,h.size,h.block⟩
theorem KP.cell {P:Nat→Prop} {w w':World} (h:KP P w w') {b:Nat} (hb:P b) (x:Nat):w'.cell? ⟨b,x,none⟩=w.cell? ⟨b,x,none⟩:=by
 unfold World.cell?;rw [show w'.heap[b]?=_ from h.block b hb]
def SM (P:Nat→Prop) (w:World) (p:Option Addr) (l:List (List UInt8)):Prop:=l=[]∨∃ b o,p=some ⟨b,o,none⟩∧P b∧∀ i s,l[i]?=some s→s.length≤281474976710656∧w.cell? ⟨b,o+i,none⟩=some (.string (S s))
theorem SM.keep {P:Nat→Prop} {w w':World} {p:Option Addr} {l:List (List UInt8)} (h:SM P w p l) (k:KP P w w'):SM P w' p l:=by
 rcases h with h | ⟨b,o,hp,hb,hm⟩
 ·exact .inl h
 ·exact .inr ⟨b,o,hp,hb,fun i s hs=>⟨(hm i s hs).1,(k.cell hb _).trans (hm i s hs).2⟩⟩
theorem SM.mono {P Q:Nat→Prop} {w:World} {p:Option Addr} {l:List (List UInt8)} (h:SM P w p l) (k:∀ b,P b→Q b):SM Q w p l:=by
 rcases h with h | ⟨b,o,hp,hb,hm⟩
 ·exact .inl h
 ·exact .inr ⟨b,o,hp,k b hb,hm⟩
def SlOK (p:Option Addr) (n c:Nat):Prop:=n≤c∧c≤9223372036854775807∧(p=none→c=0)
def trF (P:Nat→Prop) (w:World) (t:Tr) (l:List (Tr × (List Value→Prop))) (cs:List Value):Prop:=∃ pn cn pk ck,
 cs=[.int .i64 t.kd,.string (S t.nm),.int .i64 t.nu,.slice pn t.ns.length cn,.slice pk t.ks.length ck]∧t.nm.length≤281474976710656∧(-9223372036854775808≤t.nu∧t.nu≤9223372036854775807)∧SlOK pn t.ns.length cn∧SlOK pk t.ks.length ck∧SM P w pn t.ns ∧
 (t.ks=[]∨∃ b o,pk=some ⟨b,o,none⟩∧P b∧∀ i k,l[i]?=some k→∃ ds:List Value,ds.length=5∧(∀ j d,ds[j]?=some d→w.cell? ⟨b,o+i * 5+j,none⟩=some d)∧k.2 ds)
def TrIn (P:Nat→Prop) (w:World) (t:Tr):List Value→Prop:=t.fold (trF P w)
def EM (P:Nat→Prop) (w:World) (p:Option Addr) (l:List Tr):Prop:=l=[]∨∃ b o,p=some ⟨b,o,none⟩∧P b∧∀ i t,l[i]?=some t→∃ ds:List Value,ds.length=5∧(∀ j d,ds[j]?=some d→w.cell? ⟨b,o+i * 5+j,none⟩=some d)∧TrIn P w t ds
theorem TrIn_iff (P:Nat→Prop) (w:World) (t:Tr) (cs:List Value):TrIn P w t cs ↔ ∃ pn cn pk ck,
 cs=[.int .i64 t.kd,.string (S t.nm),.int .i64 t.nu,.slice pn t.ns.length cn,.slice pk t.ks.length ck]∧t.nm.length≤281474976710656∧(-9223372036854775808≤t.nu∧t.nu≤9223372036854775807)∧SlOK pn t.ns.length cn∧SlOK pk t.ks.length ck∧SM P w pn t.ns∧EM P w pk t.ks:=by
 unfold TrIn
 rw [Tr.fold_eq]
 constructor
 ·rintro ⟨pn,cn,pk,ck,h1,h2,h3,h4,h5,h6,h7⟩
  refine ⟨pn,cn,pk,ck,h1,h2,h3,h4,h5,h6,?_⟩
  rcases h7 with h7 | ⟨b,o,hp,hb,hm⟩
  ·exact .inl h7
  ·refine .inr ⟨b,o,hp,hb,fun i k hk=>?_⟩
   obtain ⟨ds,e1,e2,e3⟩:=hm i (k,k.fold (trF P w)) (by rw [List.getElem?_map,hk];rfl)
   exact ⟨ds,e1,e2,e3⟩
 ·rintro ⟨pn,cn,pk,ck,h1,h2,h3,h4,h5,h6,h7⟩
  refine ⟨pn,cn,pk,ck,h1,h2,h3,h4,h5,h6,?_⟩
  rcases h7 with h7 | ⟨b,o,hp,hb,hm⟩
  ·exact .inl h7
  ·refine .inr ⟨b,o,hp,hb,fun i k hk=>?_⟩
   rw [List.getElem?_map,Option.map_eq_some_iff] at hk
   obtain ⟨t',ht,rfl⟩:=hk
   exact hm i t' ht
theorem TrIn.keep {P Q:Nat→Prop} {w w':World} (k:KP P w w') (hq:∀ b,P b→Q b) (t:Tr):∀ cs,TrIn P w t cs→TrIn Q w' t cs:=by
 induction t using Tr.ind with
 | _ t ih=>
  intro cs h
  rw [TrIn_iff] at h ⊢
  obtain ⟨pn,cn,pk,ck,h1,h2,h3,h4,h5,h6,h7⟩:=h
  refine ⟨pn,cn,pk,ck,h1,h2,h3,h4,h5,(h6.keep k).mono hq,?_⟩
  rcases h7 with h7 | ⟨b,o,hp,hb,hm⟩
  ·exact .inl h7
  ·refine .inr ⟨b,o,hp,hq b hb,fun i t' ht=>?_⟩
   obtain ⟨ds,e1,e2,e3⟩:=hm i t' ht
   exact ⟨ds,e1,fun j d hd=>(k.cell hb _).trans (e2 j d hd),ih t' (List.mem_of_getElem? ht) ds e3⟩
theorem EM.keep {P Q:Nat→Prop} {w w':World} (k:KP P w w') (hq:∀ b,P b→Q b) {p:Option Addr} {l:List Tr} (h:EM P w p l):EM Q w' p l:=by
 rcases h with h7 | ⟨b,o,hp,hb,hm⟩
 ·exact .inl h7
 ·refine .inr ⟨b,o,hp,hq b hb,fun i t' ht=>?_⟩
  obtain ⟨ds,e1,e2,e3⟩:=hm i t' ht
  exact ⟨ds,e1,fun j d hd=>(k.cell hb _).trans (e2 j d hd),TrIn.keep k hq t' ds e3⟩
def sgIF (P:Nat→Prop) (w:World) (t:Sg) (l:List (Sg × (List Value→Prop))) (cs:List Value):Prop:=∃ pk ck,
 cs=[.string (S t.nm),.slice pk t.ar.length ck]∧t.nm.length≤281474976710656∧SlOK pk t.ar.length ck ∧
 (t.ar=[]∨∃ b o,pk=some ⟨b,o,none⟩∧P b∧∀ i k,l[i]?=some k→∃ ds:List Value,ds.length=2∧(∀ j d,ds[j]?=some d→w.cell? ⟨b,o+i * 2+j,none⟩=some d)∧k.2 ds)
def SgIn (P:Nat→Prop) (w:World) (t:Sg):List Value→Prop:=t.fold (sgIF P w)
def GM (P:Nat→Prop) (w:World) (p:Option Addr) (l:List Sg):Prop:=l=[]∨∃ b o,p=some ⟨b,o,none⟩∧P b∧∀ i t,l[i]?=some t→∃ ds:List Value,ds.length=2∧(∀ j d,ds[j]?=some d→w.cell? ⟨b,o+i * 2+j,none⟩=some d)∧SgIn P w t ds
theorem SgIn_iff (P:Nat→Prop) (w:World) (t:Sg) (cs:List Value):SgIn P w t cs ↔ ∃ pk ck,cs=[.string (S t.nm),.slice pk t.ar.length ck]∧t.nm.length≤281474976710656∧SlOK pk t.ar.length ck∧GM P w pk t.ar:=by
 unfold SgIn
 rw [Sg.fold_eq]
 constructor
 ·rintro ⟨pk,ck,h1,h2,h5,h7⟩
  refine ⟨pk,ck,h1,h2,h5,?_⟩
  rcases h7 with h7 | ⟨b,o,hp,hb,hm⟩
  ·exact .inl h7
  ·refine .inr ⟨b,o,hp,hb,fun i k hk=>?_⟩
   obtain ⟨ds,e1,e2,e3⟩:=hm i (k,k.fold (sgIF P w)) (by rw [List.getElem?_map,hk];rfl)
   exact ⟨ds,e1,e2,e3⟩
 ·rintro ⟨pk,ck,h1,h2,h5,h7⟩
  refine ⟨pk,ck,h1,h2,h5,?_⟩
  rcases h7 with h7 | ⟨b,o,hp,hb,hm⟩
  ·exact .inl h7
  ·refine .inr ⟨b,o,hp,hb,fun i k hk=>?_⟩
   rw [List.getElem?_map,Option.map_eq_some_iff] at hk
   obtain ⟨t',ht,rfl⟩:=hk
   exact hm i t' ht
theorem SgIn.keep {P Q:Nat→Prop} {w w':World} (k:KP P w w') (hq:∀ b,P b→Q b) (t:Sg):∀ cs,SgIn P w t cs→SgIn Q w' t cs:=by
 induction t using Sg.ind with
 | _ t ih=>
  intro cs h
  rw [SgIn_iff] at h ⊢
  obtain ⟨pk,ck,h1,h2,h5,h7⟩:=h
  refine ⟨pk,ck,h1,h2,h5,?_⟩
  rcases h7 with h7 | ⟨b,o,hp,hb,hm⟩
  ·exact .inl h7
  ·refine .inr ⟨b,o,hp,hq b hb,fun i t' ht=>?_⟩
   obtain ⟨ds,e1,e2,e3⟩:=hm i t' ht
   exact ⟨ds,e1,fun j d hd=>(k.cell hb _).trans (e2 j d hd),ih t' (List.mem_of_getElem? ht) ds e3⟩
theorem GM.keep {P Q:Nat→Prop} {w w':World} (k:KP P w w') (hq:∀ b,P b→Q b) {p:Option Addr} {l:List Sg} (h:GM P w p l):GM Q w' p l:=by
 rcases h with h7 | ⟨b,o,hp,hb,hm⟩
 ·exact .inl h7
 ·refine .inr ⟨b,o,hp,hq b hb,fun i t' ht=>?_⟩
  obtain ⟨ds,e1,e2,e3⟩:=hm i t' ht
  exact ⟨ds,e1,fun j d hd=>(k.cell hb _).trans (e2 j d hd),SgIn.keep k hq t' ds e3⟩
def RM {α:Type} (n:Nat) (P:Nat→Prop) (w:World) (R:α→List Value→Prop) (p:Option Addr) (l:List α):Prop:=l=[]∨∃ b o,p=some ⟨b,o,none⟩∧P b∧∀ i t,l[i]?=some t→∃ ds:List Value,ds.length=n∧(∀ j d,ds[j]?=some d→w.cell? ⟨b,o+i * n+j,none⟩=some d)∧R t ds
theorem RM.keep {α:Type} {n:Nat} {P Q:Nat→Prop} {w w':World} {R R':α→List Value→Prop} (k:KP P w w') (hq:∀ b,P b→Q b) (hR:∀ t ds,R t ds→R' t ds) {p:Option Addr} {l:List α} (h:RM n P w R p l):RM n Q w' R' p l:=by
 rcases h with h7 | ⟨b,o,hp,hb,hm⟩
 ·exact .inl h7
 ·refine .inr ⟨b,o,hp,hq b hb,fun i t' ht=>?_⟩
  obtain ⟨ds,e1,e2,e3⟩:=hm i t' ht
  exact ⟨ds,e1,fun j d hd=>(k.cell hb _).trans (e2 j d hd),hR t' ds e3⟩
def FmIn (P:Nat→Prop) (w:World) (f:Fm) (cs:List Value):Prop:=∃ pk ck,cs=[.string (S f.nm),.slice pk f.ar.length ck]∧f.nm.length≤281474976710656∧SlOK pk f.ar.length ck∧GM P w pk f.ar
def DtIn (P:Nat→Prop) (w:World) (d:Dt) (cs:List Value):Prop:=∃ pp cp pf cf,cs=[.string (S d.nm),.slice pp d.ps.length cp,.slice pf d.fs.length cf]∧d.nm.length≤281474976710656∧SlOK pp d.ps.length cp∧SlOK pf d.fs.length cf∧SM P w pp d.ps∧RM 2 P w (FmIn P w) pf d.fs
def DfIn (P:Nat→Prop) (w:World) (d:Df) (cs:List Value):Prop:=∃ ds,cs=.string (S d.nm) :: ds∧d.nm.length≤281474976710656∧TrIn P w d.bd ds
def PgIn (P:Nat→Prop) (w:World) (p:Pg) (cs:List Value):Prop:=∃ pd cd pf cf,cs=[.slice pd p.ds.length cd,.slice pf p.fs.length cf]∧SlOK pd p.ds.length cd∧SlOK pf p.fs.length cf∧RM 3 P w (DtIn P w) pd p.ds∧RM 6 P w (DfIn P w) pf p.fs
theorem FmIn.keep {P Q:Nat→Prop} {w w':World} (k:KP P w w') (hq:∀ b,P b→Q b) (f:Fm) (cs:List Value) (h:FmIn P w f cs):FmIn Q w' f cs:=by
 obtain ⟨pk,ck,h1,h2,h3,h4⟩:=h
 exact ⟨pk,ck,h1,h2,h3,h4.keep k hq⟩
theorem DtIn.keep {P Q:Nat→Prop} {w w':World} (k:KP P w w') (hq:∀ b,P b→Q b) (f:Dt) (cs:List Value) (h:DtIn P w f cs):DtIn Q w' f cs:=by
 obtain ⟨pp,cp,pf,cf,h1,h2,h3,h4,h5,h6⟩:=h
 exact ⟨pp,cp,pf,cf,h1,h2,h3,h4,(h5.keep k).mono hq,h6.keep k hq (FmIn.keep k hq)⟩
theorem DfIn.keep {P Q:Nat→Prop} {w w':World} (k:KP P w w') (hq:∀ b,P b→Q b) (f:Df) (cs:List Value) (h:DfIn P w f cs):DfIn Q w' f cs:=by
 obtain ⟨ds,h1,h2,h3⟩:=h
 exact ⟨ds,h1,h2,TrIn.keep k hq _ _ h3⟩
theorem PgIn.keep {P Q:Nat→Prop} {w w':World} (k:KP P w w') (hq:∀ b,P b→Q b) (f:Pg) (cs:List Value) (h:PgIn P w f cs):PgIn Q w' f cs:=by
 obtain ⟨pp,cp,pf,cf,h1,h2,h3,h4,h5⟩:=h
 exact ⟨pp,cp,pf,cf,h1,h2,h3,h4.keep k hq (DtIn.keep k hq),h5.keep k hq (DfIn.keep k hq)⟩
def P0V (P:Nat→Prop) (w:World) (p:P0) (v:Value):Prop:=match p with
 | .inl s=>v=.iface 9 (.string (S s))∧s.length≤281474976710656
 | .inr (.inl s)=>v=.iface 212 (.string (S s))∧s.length≤281474976710656
 | .inr (.inr (.inl s))=>v=.iface 213 (.string (S s))∧s.length≤281474976710656
 | .inr (.inr (.inr (.inl l)))=>∃ p c,v=.iface 24 (.slice p l.length c)∧l.length≤1000000∧SlOK p l.length c∧SM P w p l
 | .inr (.inr (.inr (.inr (.inl e))))=>∃ cs,v=.iface 219 (.agg cs.toArray)∧TrIn P w e cs∧shp e=true
 | .inr (.inr (.inr (.inr (.inr (.inl e)))))=>∃ cs,v=.iface 27 (.agg cs.toArray)∧TrIn P w e cs∧shp e=true
 | .inr (.inr (.inr (.inr (.inr (.inr (.inl l))))))=>∃ p c,v=.iface 60 (.slice p l.length c)∧SlOK p l.length c∧GM P w p l
 | .inr (.inr (.inr (.inr (.inr (.inr (.inr (.inl s)))))))=>∃ cs,v=.iface 175 (.agg cs.toArray)∧SgIn P w s cs
 | .inr (.inr (.inr (.inr (.inr (.inr (.inr (.inr (.inl f))))))))=>∃ cs,v=.iface 121 (.agg cs.toArray)∧FmIn P w f cs
 | .inr (.inr (.inr (.inr (.inr (.inr (.inr (.inr (.inr (.inl d)))))))))=>∃ cs,v=.iface 77 (.agg cs.toArray)∧DtIn P w d cs∧dtB d
 | .inr (.inr (.inr (.inr (.inr (.inr (.inr (.inr (.inr (.inr (.inl d))))))))))=>∃ cs,v=.iface 79 (.agg cs.toArray)∧DfIn P w d cs∧shp d.bd=true
 | .inr (.inr (.inr (.inr (.inr (.inr (.inr (.inr (.inr (.inr (.inr p))))))))))=>∃ cs,v=.iface 38 (.agg cs.toArray)∧PgIn P w p cs∧p.ds.length≤1000000∧p.fs.length≤1000000∧(∀ d ∈ p.ds,dtB d)∧(∀ d ∈ p.fs,shp d.bd=true)
def AM {α:Type} (R:α→Value→Prop) (P:Nat→Prop) (w:World) (p:Option Addr) (l:List α):Prop:=l=[]∨∃ b o,p=some ⟨b,o,none⟩∧P b∧∀ i t,l[i]?=some t→∃ v,w.cell? ⟨b,o+i,none⟩=some v∧R t v
def PV (P:Nat→Prop) (w:World) (p:Pt) (v:Value):Prop:=match p with
 | .inl p=>P0V P w p v
 | .inr (s,l)=>∃ p c,v=.iface 216 (.agg #[.string (S s),.slice p l.length c])∧s.length≤281474976710656∧l.length≤2000000∧SlOK p l.length c∧AM (P0V P w) P w p l
theorem P0V.keep {P Q:Nat→Prop} {w w':World} (k:KP P w w') (hq:∀ b,P b→Q b) (p:P0) (v:Value) (h:P0V P w p v):P0V Q w' p v:=by
 rcases p with s | s | s | l | e | e | l | s | f | d | d | p
 ·exact h
 ·exact h
 ·exact h
 ·obtain ⟨p,c,h1,h0,h2,h3⟩:=h;exact ⟨p,c,h1,h0,h2,(h3.keep k).mono hq⟩
 ·obtain ⟨cs,h1,h2,h3⟩:=h;exact ⟨cs,h1,TrIn.keep k hq _ _ h2,h3⟩
 ·obtain ⟨cs,h1,h2,h3⟩:=h;exact ⟨cs,h1,TrIn.keep k hq _ _ h2,h3⟩
 ·obtain ⟨p,c,h1,h2,h3⟩:=h;exact ⟨p,c,h1,h2,h3.keep k hq⟩
 ·obtain ⟨cs,h1,h2⟩:=h;exact ⟨cs,h1,SgIn.keep k hq _ _ h2⟩
 ·obtain ⟨cs,h1,h2⟩:=h;exact ⟨cs,h1,FmIn.keep k hq _ _ h2⟩
 ·obtain ⟨cs,h1,h2,h3⟩:=h;exact ⟨cs,h1,DtIn.keep k hq _ _ h2,h3⟩
 ·obtain ⟨cs,h1,h2,h3⟩:=h;exact ⟨cs,h1,DfIn.keep k hq _ _ h2,h3⟩
 ·obtain ⟨cs,h1,h2,h3⟩:=h;exact ⟨cs,h1,PgIn.keep k hq _ _ h2,h3⟩
theorem AM.keep {α:Type} {R R':α→Value→Prop} {P Q:Nat→Prop} {w w':World} (k:KP P w w') (hq:∀ b,P b→Q b) (hR:∀ t v,R t v→R' t v) {p:Option Addr} {l:List α} (h:AM R P w p l):AM R' Q w' p l:=by
 rcases h with h7 | ⟨b,o,hp,hb,hm⟩
 ·exact .inl h7
 ·refine .inr ⟨b,o,hp,hq b hb,fun i t' ht=>?_⟩
  obtain ⟨v,e2,e3⟩:=hm i t' ht
  exact ⟨v,(k.cell hb _).trans e2,hR t' v e3⟩
theorem PV.keep {P Q:Nat→Prop} {w w':World} (k:KP P w w') (hq:∀ b,P b→Q b) (p:Pt) (v:Value) (h:PV P w p v):PV Q w' p v:=by
 rcases p with p | ⟨s,l⟩
 ·exact P0V.keep k hq p v h
 ·obtain ⟨p,c,h1,h2,h0,h3,h4⟩:=h
  exact ⟨p,c,h1,h2,h0,h3,h4.keep k hq (P0V.keep k hq)⟩
end Go.Proofs.YtcnnlecjdkfdjaaGreatDoor
