/- LyEnd LyEndSign LyToken: the texts of these names, of which the claim is made. -/
import Derived.Test.YtcnnlecjdkfdjaaGreatDoorLyMem
import Derived.RangeFuncNested
import Derived.Maps.AppendAt
import Derived.Lib.ConvBytes
set_option linter.unusedVariables false
set_option linter.unusedSimpArgs false
set_option maxRecDepth 100000
set_option maxHeartbeats 8000000
namespace Go.Proofs.YtcnnlecjdkfdjaaGreatDoor.Ly
open Go.RowKit
theorem gp_space {l:List UInt8} {j:Nat} (h:j<l.length) (h32:((l[j].toNat:Int) == 32)=true):gp (l.drop j)=gp (l.drop (j+1)):=by
 rw [List.drop_eq_getElem_cons h];unfold gp
 rw [List.dropWhile_cons,if_pos]
 simp only [beq_iff_eq] at h32 ⊢
 have:l[j].toNat=32:=by omega
 exact UInt8.toNat_inj.1 this
theorem gp_other {l:List UInt8} {j:Nat} (h:j<l.length) (h32:((l[j].toNat:Int) == 32)=false):gp (l.drop j)=l.drop j:=by
 rw [List.drop_eq_getElem_cons h];unfold gp
 rw [List.dropWhile_cons,if_neg]
 intro hc
 simp only [beq_iff_eq] at hc
 rw [hc] at h32
 simp at h32
theorem skip_end (l:List UInt8) (j n:Nat) (hn:l.length=n) (hj:j≤n) (h:gp (l.drop j)=l.drop j):(n:Int) - (sk (l.drop j)).length=if ((l.drop j).take 2 == [45,45])=true then (n:Int) else (j:Int):=by
 unfold sk;rw [h]
 split
 ·simp
 ·simp;omega
theorem Mem.dropAt {w:World} {b o:Nat} {l:List UInt8} (h:Mem w (some ⟨b,o,none⟩) l) (j:Nat):Mem w (some ⟨b,o+j,none⟩) (l.drop j):=by
 rcases h with rfl | ⟨b',o',he,hb,hm⟩
 ·exact .inl (by simp)
 ·cases he
  exact .inr ⟨b,o+j,rfl,hb,fun i x hx=>by rw [Nat.add_assoc];exact hm (j+i) x (by rw [← List.getElem?_drop];exact hx)⟩
theorem skip_at (b o n c k:Nat) (l:List UInt8) (w:World) (hl:l.length=n) (hn:n≤2147483647) (hc:n≤c) (hk:k≤n) (hb:b<w.heap.size)
  (hm:∀ i x,l[i]?=some x→w.cell? ⟨b,o+i,none⟩=some (.int .u8 x.toNat)) :
  Calls Tryz.prog 42 #[.slice (some ⟨b,o,none⟩) n c,.int .i64 k] w fun e w'=>e=.returned (.int .i64 (n - (sk (l.drop k)).length))∧Below w.heap.size w w':=by
 have M0:Mem w (some ⟨b,o,none⟩) l:=.inr ⟨b,o,rfl,hb,hm⟩
 have kc:=fun (w:World) (C:Array Value) (n c:Nat)=>Lib.run_convert_bytes_const (P:=Tryz.prog) w 42 5 C n c Tryz.underlying42 Tryz.underlying5
 go_enter Tryz.func42,Tryz.ntmps42
 go_wp2
 go_loop [1] (fun i=>∃ j:Nat,k≤j∧j≤n∧i=.int .i64 j∧gp (l.drop k)=gp (l.drop j)) (fun i=>n - (intOf i).toNat)
 case atStart=>exact ⟨k,Nat.le_refl _,hk,rfl,rfl⟩
 case round=>
  obtain ⟨j,hkj,hjn,rfl,hg⟩:=hrel
  have HG:=hide hg
  clear hg
  have HM:=hide hm
  clear hm
  have HK:Hid (sk (l.drop k)=sk (l.drop j)):=by show sk (l.drop k)=sk (l.drop j);unfold sk;rw [HG.out]
  have HX:=hide (M0.dropAt j)
  by_cases hlt:j<n
  ·have hcell:=HM.out j l[j] (by simp)
   by_cases h32:((l[j].toNat:Int) == 32)=true
   ·have H3:=hide (gp_space (l:=l) (j:=j) (by omega) h32)
    go_wp2
    exact ⟨⟨j+1,by omega,by omega,by go_num,by rw [HG.out,H3.out]⟩,by simp [intOf];omega⟩
   ·have h32':((l[j].toNat:Int) == 32)=false:=by simpa using h32
    have HE:=hide (skip_end l j n hl hjn (gp_other (by omega) h32'))
    clear h32
    cases hpre:((l.drop j).take 2 == [45,45])
    all_goals
     rw [hpre] at HE
     have HPRE:=hide hpre
     clear hpre
     go_wp2_with fail
     ·refine (hasPre w _ (n - j) (c - j) (l.drop j) (by rw [List.length_drop,hl]) (by omega) HX.out).mono ?_
      rintro e w' ⟨rfl,rfl⟩
      rw [HPRE.out]
      go_wp2_with fail
      go_ret
      exact ⟨by rw [HK.out,HE.out];rfl,(Below.refl _ _).alloc (Nat.le_refl _) _⟩
  ·have HE:=hide (skip_end l j n hl hjn (by rw [List.drop_eq_nil_of_le (by omega)];rfl))
   have hd:l.drop j=[]:=List.drop_eq_nil_of_le (by omega)
   have HPRE:Hid (((l.drop j).take 2 == [45,45])=false):=by show ((l.drop j).take 2 == [45,45])=false;rw [hd];rfl
   rw [HPRE.out] at HE
   clear hd
   go_wp2_with fail
   all_goals
    refine (hasPre w _ _ _ (l.drop j) (by rw [List.length_drop,hl]) (by omega) (by rw [List.drop_eq_nil_of_le (by omega)];exact Mem.nil _ _)).mono ?_
    rintro e w' ⟨rfl,rfl⟩
    rw [HPRE.out]
    go_wp2_with fail
    go_ret
    exact ⟨by rw [HK.out,HE.out];rfl,(Below.refl _ _).alloc (Nat.le_refl _) _⟩
theorem skip_none (n c:Nat) (p:Option Addr) (w:World) (hp:p=none→c=0) :
  Calls Tryz.prog 42 #[.slice p 0 c,.int .i64 0] w fun e w'=>e=.returned (.int .i64 0)∧Below w.heap.size w w':=by
 have kc:=fun (w:World) (C:Array Value) (n c:Nat)=>Lib.run_convert_bytes_const (P:=Tryz.prog) w 42 5 C n c Tryz.underlying42 Tryz.underlying5
 cases p with
 | none=>
  obtain rfl:=hp rfl
  go_enter Tryz.func42,Tryz.ntmps42
  go_wp2
  go_loop [1] (fun i=>i=.int .i64 0) (fun i=>0)
  case atStart=>rfl
  case round=>
   subst hrel
   go_wp2_with fail
   refine (hasPre w _ 0 0 [] rfl (Nat.zero_le _) (Mem.nil _ _)).mono ?_
   rintro e w' ⟨rfl,rfl⟩
   go_wp2_with fail
   go_ret
   exact ⟨rfl,(Below.refl _ _).alloc (Nat.le_refl _) _⟩
 | some a=>
  go_enter Tryz.func42,Tryz.ntmps42
  go_wp2
  go_loop [1] (fun i=>i=.int .i64 0) (fun i=>0)
  case atStart=>rfl
  case round=>
   subst hrel
   go_wp2_with fail
   all_goals
    refine (hasPre w _ 0 c [] rfl (Nat.zero_le _) (Mem.nil _ _)).mono ?_
    rintro e w' ⟨rfl,rfl⟩
    go_wp2_with fail
    go_ret
    exact ⟨rfl,(Below.refl _ _).alloc (Nat.le_refl _) _⟩
def cl (x:UInt8):Value:=.int .u8 x.toNat
theorem info5:(Tryz.prog.info? 5).map (fun i=>(i.zero,i.size,i.bytes))=some (some (.int .u8 0),1,1):=by kernel_rfl
theorem row_mem {W:World} {n₀ n c:Nat} {p:Option Addr} {l:List UInt8} (h:W.ownsRow n₀ 5 1 (.slice p n c) n (l.map cl)):Mem W p l:=by
 rcases h.2 with ⟨hv,h0⟩ | ⟨g,cap,cur,hv,hb,hg,h1,h2,h3,h4⟩
 ·have:=h.1;simp [h0] at this;exact .inl this
 ·cases hv
  have hl:=h.1
  simp only [List.length_map,Nat.mul_one] at hl h4
  refine .inr ⟨g,0,rfl,(Array.getElem?_eq_some_iff.1 hg).1,fun i x hx=>?_⟩
  have hi:i<n:=by have:=(List.getElem?_eq_some_iff.1 hx).1;omega
  have e:cur.toList[i]?=some (cl x):=by
   have:=congrArg (fun y=>y[i]?) h4
   simp only [List.getElem?_take,if_pos hi,List.getElem?_map,hx,Option.map_some] at this
   exact this
  simp only [World.cell?,hg,Nat.zero_add]
  rw [← Array.getElem?_toList];exact e
theorem row_str {W:World} {n₀ c:Nat} {p:Option Addr} {l:List UInt8} (hl:l≠[]) (n:Nat) (hn:l.length=n) (h:W.ownsRow n₀ 5 1 (.slice p n c) n (l.map cl)) :
  (convert 42 9 (.slice p n c)).run Tryz.prog W=.ok (.string (S l)) W:=by
 subst hn;exact (row_mem h).str hl c
theorem map_snoc (l:List UInt8) (x:UInt8):l.map cl ++ [cl x]=(l ++ [x]).map cl:=by simp
theorem grow_any (B n₀ g cap:Nat) (l:List UInt8) (x:UInt8) (W:World) (hl0:l≠[]) (hlen:l.length≤100) (hB:Boxed W B 42 (.slice (some ⟨g,0,none⟩) l.length cap)) (hrow:W.ownsRow n₀ 5 1 (.slice (some ⟨g,0,none⟩) l.length cap) l.length (l.map cl)) (hn:n₀≤W.heap.size) (hnB:n₀≤B) :
  Calls Tryz.prog 167 #[.int .u8 x.toNat,.pointer (some ⟨B,0,none⟩)] W fun e W'=>∃ g' cap',e=.returned (.bool (sg (l ++ [x])))∧Boxed W' B 42 (.slice (some ⟨g',0,none⟩) (l.length+1) cap')∧W'.ownsRow n₀ 5 1 (.slice (some ⟨g',0,none⟩) (l.length+1) cap') (l.length+1) ((l ++ [x]).map cl)∧Below n₀ W W':=by
 obtain ⟨i0,hi,hz0,hz1,hz2⟩:=info_parts info5
 have hc:=hB.cell
 have hf:=hB.frozen
 go_enter Tryz.func167,Tryz.ntmps167
 go_wp2_with (at_builtin;refine wpList_append_own _ rfl _ _ 42 rfl n₀ 5 i0 (.int .u8 0) 1 1 Tryz.underlying42 hi hz0 hz1 hz2 rfl (by decide) _ _ _ rfl (hrow.alloc _) ⟨W.heap.size,0,none⟩ 1 1 [cl x] rfl rfl (cell_one_new _ _ _) (by simp [Value.oneCell',cl]) (by unfold maxLen;omega) (by omega) (by simp;omega) ?_;intro v' w1 hown' hgrow _;obtain ⟨g',cap',rfl⟩:=ownsRow_succ hown';obtain ⟨hv1,hv2,hr2,hk2,hb2⟩:=hB.appended (by decide) hrow hn hnB hown' hgrow;have hc1:=hv1.cell;have hf1:=hv1.frozen;have hc2:=hv2.cell;have hf2:=hv2.frozen;rw [map_snoc] at hr2;have hcv:=row_str (l:=l ++ [x]) (by simp) (l.length+1) (by simp) hr2)
 refine (sign_any _ _).mono ?_
 rintro e w' ⟨rfl,rfl⟩
 go_wp2_with fail
 go_ret
 exact ⟨g',cap',rfl,hv2,hr2,hb2⟩
theorem ret_int {k:IntKind} {a b:Int} (h:a=b):Ending.returned (.int k a)=.returned (.int k b):=by rw [h]
theorem tw_at (p:UInt8→Bool):∀ (r:List UInt8) (k:Nat),k≤r.length→(r.take k).all p=true→(∀ h:k<r.length,p r[k]=false)→(r.takeWhile p).length=k
 | [],k,hk,_,_=>by simp at hk;simp [hk]
 | a :: r,0,_,_,hs=>by have:=hs (by simp);simp at this;simp [this]
 | a :: r,k+1,hk,ha,hs=>by
  simp only [List.take_succ_cons,List.all_cons,Bool.and_eq_true] at ha
  simp only [List.takeWhile_cons,ha.1,if_true,List.length_cons]
  rw [tw_at p r k (by simpa using hk) ha.2 (fun h=>by have:=hs (by simp;omega);simpa using this)]
theorem end_run (x:UInt8) (f:Nat) (p:UInt8→Bool) (hf:f=96∨f=166) (hp:∀ (c:UInt8) (w:World),Calls Tryz.prog f #[.int .u8 c.toNat] w fun e w'=>e=.returned (.bool (p c))∧w'=w)
  (hgo:∀ w:World,Calls Tryz.prog 100 #[.int .u8 x.toNat] w fun e w'=>e=.returned (.func (.func f) #[] #[])∧w'=w)
  (b o c:Nat) (r:List UInt8) (w:World) (hn:r.length+1≤2147483647)
  (hm:∀ i y,(x :: r)[i]?=some y→w.cell? ⟨b,o+i,none⟩=some (.int .u8 y.toNat)) :
  Calls Tryz.prog 44 #[.slice (some ⟨b,o,none⟩) (r.length+1) c] w fun e w'=>e=.returned (.int .i64 (1+(r.takeWhile p).length:Nat))∧w'=w:=by
 have hx:=hm 0 x rfl
 rw [Nat.add_zero] at hx
 have HM:=hide hm
 have HP:=hide hp
 have HGO:=hide hgo
 clear hm hp hgo
 rcases hf with rfl | rfl
 all_goals
  go_enter Tryz.func44,Tryz.ntmps44
  go_wp2_with fail
  refine (HGO.out _).mono ?_
  rintro e w' ⟨rfl,rfl⟩
  go_wp2_with fail
  go_loop [4] (fun i=>∃ k:Nat,k≤r.length∧i=.int .i64 (k+1:Nat)∧(r.take k).all p=true) (fun i=>r.length+1 - (intOf i).toNat)
  case atStart=>exact ⟨0,Nat.zero_le _,rfl,rfl⟩
  case round=>
   obtain ⟨k,hk,rfl,hall⟩:=hrel
   have HA:=hide hall
   clear hall
   by_cases hlt:k<r.length
   ·have hcell:=HM.out (k+1) r[k] (by simp [hlt])
    have HT:=hide (all_take_succ p r k hlt)
    cases hq:p r[k]
    ·have HE:=hide (tw_at p r k hk HA.out (fun _=>hq))
     have HQ:=hide hq
     clear hq
     go_wp2_with fail
     refine (HP.out _ _).mono ?_
     rintro e w' ⟨rfl,rfl⟩
     rw [HQ.out]
     go_wp2_with fail
     go_ret
     exact ⟨by show Ending.returned (Value.int .i64 ((k:Int)+1))=_;exact ret_int (by rw [HE.out];omega),rfl⟩
    ·have HQ:=hide hq
     clear hq
     go_wp2_with fail
     refine (HP.out _ _).mono ?_
     rintro e w' ⟨rfl,rfl⟩
     rw [HQ.out]
     go_wp2_with fail
     go_round
     case rel=>exact ⟨k+1,by omega,by go_num,by rw [HT.out,HA.out,HQ.out];rfl⟩
     case measure=>simp [intOf];omega
   ·have HE:=hide (tw_at p r k hk HA.out (fun h=>absurd h hlt))
    go_wp2
    go_ret
    exact ⟨by show Ending.returned (Value.int .i64 ((k:Int)+1))=_;exact ret_int (by rw [HE.out];omega),rfl⟩
theorem goesOn_dig (x:UInt8) (h:dg x=true) (w:World):Calls Tryz.prog 100 #[.int .u8 x.toNat] w fun e w'=>e=.returned (.func (.func 96) #[] #[])∧w'=w:=by
 go_enter Tryz.func100,Tryz.ntmps100
 go_wp2_with fail
 refine (digit_any _ _).mono ?_;rintro e w' ⟨rfl,rfl⟩;rw [h]
 go_wp2_with fail
 go_ret
 exact ⟨rfl,rfl⟩
theorem goesOn_word (x:UInt8) (h:dg x=false) (h2:pt x=true) (w:World):Calls Tryz.prog 100 #[.int .u8 x.toNat] w fun e w'=>e=.returned (.func (.func 166) #[] #[])∧w'=w:=by
 go_enter Tryz.func100,Tryz.ntmps100
 go_wp2_with fail
 refine (digit_any _ _).mono ?_;rintro e w' ⟨rfl,rfl⟩;rw [h]
 go_wp2_with fail
 refine (inWord_any _ _).mono ?_;rintro e w' ⟨rfl,rfl⟩;rw [h2]
 go_wp2_with fail
 go_ret
 exact ⟨rfl,rfl⟩
theorem goesOn_sign (x:UInt8) (h:dg x=false) (h2:pt x=false) (w:World):Calls Tryz.prog 100 #[.int .u8 x.toNat] w fun e w'=>
  e=.returned (.func (.func 167) #[] #[.pointer (some ⟨w.heap.size+1,0,none⟩)])∧w'=(w.alloc (.cells #[cl x] 5)).alloc (.cells #[.slice (some ⟨w.heap.size,0,none⟩) 1 1] 42):=by
 unfold cl
 go_enter Tryz.func100,Tryz.ntmps100
 go_wp2_with fail
 refine (digit_any _ _).mono ?_;rintro e w' ⟨rfl,rfl⟩;rw [h]
 go_wp2_with fail
 refine (inWord_any _ _).mono ?_;rintro e w' ⟨rfl,rfl⟩;rw [h2]
 go_wp2_with fail
 go_ret
 exact ⟨rfl,rfl⟩
theorem sg_three (x y z:UInt8) (r:List UInt8):sg (x :: y :: z :: r)=false:=by simp [sg]
def sl2 (x:UInt8):List UInt8→Nat
 | []=>1
 | d :: _=>if sg [x,d] then 2 else 1
theorem tl_sign (x:UInt8) (r:List UInt8) (h:dg x=false) (h2:pt x=false):tl (x :: r)=sl2 x r:=by
 cases r <;> simp [tl,h,h2,sl2]
theorem sl2_no {x y:UInt8} {r:List UInt8} (h:sg [x,y]=false):sl2 x (y :: r)=1:=by simp [sl2,h]
theorem sl2_yes {x y:UInt8} {r:List UInt8} (h:sg [x,y]=true):sl2 x (y :: r)=2:=by simp [sl2,h]
theorem end_sign (b o c n:Nat) (x:UInt8) (r:List UInt8) (w:World) (h:dg x=false) (h2:pt x=false) (hrn:r.length+1=n) (hn:n≤2147483647) (hb:b<w.heap.size)
  (hm:∀ i y,(x :: r)[i]?=some y→w.cell? ⟨b,o+i,none⟩=some (.int .u8 y.toNat)) :
  Calls Tryz.prog 44 #[.slice (some ⟨b,o,none⟩) n c] w fun e w'=>e=.returned (.int .i64 (tl (x :: r):Nat))∧Below w.heap.size w w':=by
 have hx:=hm 0 x rfl
 rw [Nat.add_zero] at hx
 have M0:Mem w (some ⟨b,o,none⟩) (x :: r):=.inr ⟨b,o,rfl,hb,hm⟩
 have HTL:=hide (tl_sign x r h h2)
 have HGO:=hide (goesOn_sign x h h2 w)
 have B0:Below w.heap.size w ((w.alloc (.cells #[cl x] 5)).alloc (.cells #[.slice (some ⟨w.heap.size,0,none⟩) 1 1] 42)):=((Below.refl _ w).alloc (Nat.le_refl _) _).alloc (by simp) _
 have X0:Boxed ((w.alloc (.cells #[cl x] 5)).alloc (.cells #[.slice (some ⟨w.heap.size,0,none⟩) 1 1] 42)) (w.heap.size+1) 42 (.slice (some ⟨w.heap.size,0,none⟩) 1 1):=by
  have:=Boxed.new (w.alloc (.cells #[cl x] 5)) 42 (.slice (some ⟨w.heap.size,0,none⟩) 1 1)
  rwa [World.size_alloc] at this
 have R0:((w.alloc (.cells #[cl x] 5)).alloc (.cells #[.slice (some ⟨w.heap.size,0,none⟩) 1 1] 42)).ownsRow w.heap.size 5 1 (.slice (some ⟨w.heap.size,0,none⟩) 1 1) 1 ([x].map cl):=by
  refine ⟨rfl,.inr ⟨w.heap.size,1,#[cl x],rfl,Nat.le_refl _,?_,Nat.le_refl _,by unfold maxLen;omega,rfl,rfl⟩⟩
  exact (Below.heap_alloc _ _ _ (by simp)).trans (World.alloc_heap_new w _)
 have h1n:1≤n:=by omega
 have HRN:=hide hrn
 clear hm h h2 hrn
 go_enter Tryz.func44,Tryz.ntmps44
 go_wp2_with fail
 refine HGO.out.mono ?_
 rintro e w' ⟨rfl,rfl⟩
 generalize (w.alloc (.cells #[cl x] 5)).alloc (.cells #[.slice (some ⟨w.heap.size,0,none⟩) 1 1] 42)=W0 at *
 clear HGO
 go_wp2_with fail
 go_loopw [4] (fun i wr=>∃ (j:Nat) (l1:List UInt8) (g cap:Nat),i=.int .i64 j∧((j=1∧l1=[x])∨(j=2∧∃ y r',r=y :: r'∧l1=[x,y]∧sg [x,y]=true))∧Boxed wr (w.heap.size+1) 42 (.slice (some ⟨g,0,none⟩) j cap)∧wr.ownsRow w.heap.size 5 1 (.slice (some ⟨g,0,none⟩) j cap) j (l1.map cl)∧Below w.heap.size w wr) (fun i _=>2 - (intOf i).toNat)
 case atStart=>exact ⟨1,[x],_,_,rfl,.inl ⟨rfl,rfl⟩,X0,R0,B0⟩
 case round=>
  obtain ⟨j,l1,g,cap,rfl,hj,hbx,hrw,hbl⟩:=hrel
  clear X0 R0 B0 hx
  rename_i wr _
  have hMr:=M0.below (Nat.le_refl _) hbl
  have HN:w.heap.size≤wr.heap.size:=hbl.size
  rcases hj with ⟨rfl,rfl⟩ | ⟨rfl,y,r',rfl,rfl,hsy⟩
  ·cases r with
   | nil=>
    have h1:¬ 1<n:=by have:=HRN.out;simp at this;omega
    go_wp2
    go_ret
    exact ⟨by rw [HTL.out];rfl,hbl⟩
   | cons y r'=>
    have h1:1<n:=by have:=HRN.out;simp at this;omega
    rcases hMr with he | ⟨b',o',he,hb',hm'⟩
    ·cases he
    ·cases he
     have hcell:=hm' 1 y rfl
     have HGR:=hide (grow_any (w.heap.size+1) w.heap.size g cap [x] y wr (by simp) (by simp) hbx hrw HN (by omega))
     clear hm'
     cases hsy:sg [x,y]
     ·have HL:=hide (HTL.out.trans (sl2_no hsy))
      have HS:=hide hsy
      clear hsy
      go_wp2_with fail
      refine HGR.out.mono ?_
      rintro e w' ⟨g',cap',rfl,hbx',hrw',hbl'⟩
      rw [show [x] ++ [y]=[x,y] from rfl] at *
      rw [HS.out]
      go_wp2_with fail
      go_ret
      exact ⟨by rw [HL.out];rfl,hbl.trans hbl'⟩
     ·have HS:=hide hsy
      clear hsy
      go_wp2_with fail
      refine HGR.out.mono ?_
      rintro e w' ⟨g',cap',rfl,hbx',hrw',hbl'⟩
      rw [show [x] ++ [y]=[x,y] from rfl] at *
      rw [HS.out]
      go_wp2_with fail
      exact ⟨⟨2,[x,y],g',cap',rfl,.inr ⟨rfl,y,r',rfl,rfl,HS.out⟩,hbx',hrw',hbl.trans hbl'⟩,by simp [intOf]⟩
  ·have HL:=hide (HTL.out.trans (sl2_yes hsy))
   have HS:=hide hsy
   clear hsy
   cases r' with
   | nil=>
    have h1:¬ 2<n:=by have:=HRN.out;simp at this;omega
    go_wp2
    go_ret
    exact ⟨by rw [HL.out];rfl,hbl⟩
   | cons z r'=>
    have h1:2<n:=by have:=HRN.out;simp at this;omega
    rcases hMr with he | ⟨b',o',he,hb',hm'⟩
    ·cases he
    ·cases he
     have hcell:=hm' 2 z rfl
     have HGR:=hide (grow_any (w.heap.size+1) w.heap.size g cap [x,y] z wr (by simp) (by simp) hbx hrw HN (by omega))
     clear hm'
     go_wp2_with fail
     refine HGR.out.mono ?_
     rintro e w' ⟨g',cap',rfl,hbx',hrw',hbl'⟩
     rw [show [x,y] ++ [z]=[x,y,z] from rfl,sg_three]
     go_wp2_with fail
     go_ret
     exact ⟨by rw [HL.out];rfl,hbl.trans hbl'⟩
theorem end_any (b o c n:Nat) (l:List UInt8) (w:World) (h0:l≠[]) (hl:l.length=n) (hn:n≤2147483647) (hb:b<w.heap.size)
  (hm:∀ i y,l[i]?=some y→w.cell? ⟨b,o+i,none⟩=some (.int .u8 y.toNat)) :
  Calls Tryz.prog 44 #[.slice (some ⟨b,o,none⟩) n c] w fun e w'=>e=.returned (.int .i64 (tl l:Nat))∧Below w.heap.size w w':=by
 cases l with
 | nil=>exact absurd rfl h0
 | cons x r=>
  rw [List.length_cons] at hl
  cases h1:dg x with
  | true=>
   have h:=end_run x 96 dg (.inl rfl) digit_any (goesOn_dig x h1) b o c r w (by omega) hm
   rw [hl] at h
   refine h.mono ?_
   rintro e w' ⟨rfl,rfl⟩
   exact ⟨by simp only [tl,h1];rfl,Below.refl _ _⟩
  | false=>
   cases h2:pt x with
   | true=>
    have h:=end_run x 166 pt (.inr rfl) inWord_any (goesOn_word x h1 h2) b o c r w (by omega) hm
    rw [hl] at h
    refine h.mono ?_
    rintro e w' ⟨rfl,rfl⟩
    exact ⟨by simp only [tl,h1,h2];rfl,Below.refl _ _⟩
   | false=>exact end_sign b o c n x r w h1 h2 hl hn hb hm
def nvA (a:Nat) (l:List UInt8):Nat:=l.foldl (fun n c=>n * 10+(c.toNat - 48)) a
theorem nvA_ge:∀ (l:List UInt8) (a:Nat),a≤nvA a l
 | [],a=>Nat.le_refl _
 | c :: r,a=>by have:=nvA_ge r (a * 10+(c.toNat - 48));unfold nvA at *;simp only [List.foldl_cons];omega
theorem dg_iff (c:UInt8):dg c=true ↔ 48≤c.toNat∧c.toNat≤57:=by unfold dg;simp;omega
theorem puM:∀ (l:List UInt8) (a:Nat),l.all dg=true→Lib.parseUintM 18446744073709551615 a l=if nvA a l≤18446744073709551615∨l=[] then .ok (nvA a l) else .range
 | [],a,_=>by simp [Lib.parseUintM,nvA]
 | c :: r,a,h=>by
  simp only [List.all_cons,Bool.and_eq_true] at h
  have hc:=(dg_iff c).1 h.1
  have hg:=nvA_ge r (a * 10+(c.toNat - 48))
  have e:nvA a (c :: r)=nvA (a * 10+(c.toNat - 48)) r:=rfl
  simp only [Lib.parseUintM,if_pos hc,e]
  split
  ·rw [if_neg];simp;omega
  ·split
   ·rw [if_neg];simp;omega
   ·rw [puM r _ h.2]
    by_cases hr:r=[]
    ·have e2:nvA (a * 10+(c.toNat - 48)) r=a * 10+(c.toNat - 48):=by rw [hr];rfl
     rw [e2];rw [if_pos (Or.inr hr),if_pos (Or.inl (by omega))]
    ·simp only [hr,or_false];simp
theorem piB (l:List UInt8) (h0:l≠[]) (h:l.all dg=true):Lib.parseIntB 64 l=if nv l≤big then .ok (nv l:Int) else .range:=by
 cases l with
 | nil=>exact absurd rfl h0
 | cons c r=>
  have hc:=h
  simp only [List.all_cons,Bool.and_eq_true] at hc
  have hd:=(dg_iff c).1 hc.1
  have e:nv (c :: r)=nvA 0 (c :: r):=rfl
  have h1:¬ (c.toNat=43∨c.toNat=45):=by omega
  have h2:¬ c.toNat=45:=by omega
  simp only [Lib.parseIntB,Lib.parseUintB,if_neg h1]
  rw [if_neg (by simp),show (2 ^ 64 - 1:Nat)=18446744073709551615 from rfl,puM _ 0 h,e]
  generalize nvA 0 (c :: r)=v
  unfold big
  by_cases hv:v≤18446744073709551615
  ·rw [if_pos (.inl hv)]
   by_cases hb:v≤9223372036854775807
   ·simp only [h2,hb,if_true]
    rw [if_neg (by simp;omega),if_neg (by simp)]
    simp
   ·rw [if_neg hb]
    simp only [h2]
    rw [if_pos (by simp;omega)]
  ·rw [if_neg (by simp;omega),if_neg (by omega)]
def Glob (w:World):Prop:=2<w.heap.size∧∃ te pe,w.cell? ⟨2,0,none⟩=some (.iface te pe)
theorem Glob.below {w w':World} {n:Nat} (h:Glob w) (hn:w.heap.size≤n) (hb:Below n w w'):Glob w':=by
 obtain ⟨h1,te,pe,h2⟩:=h
 exact ⟨Nat.lt_of_lt_of_le h1 hb.size,te,pe,(hb.cell (p:=⟨2,0,none⟩) (Nat.lt_of_lt_of_le h1 hn)).trans h2⟩
theorem parse_ok (l:List UInt8) (h0:l≠[]) (hl:l.length≤2147483647) (h:l.all dg=true) (hb:nv l≤big) (w:World) :
  Calls Tryz.prog 97 #[.string (S l),.int .i64 10,.int .i64 64] w fun e w'=>e=.returned (.tuple #[.int .i64 (nv l),.nilIface])∧Below w.heap.size w w':=by
 refine (Tryz.strconv_ParseInt_10_at64_ok (S l) (by rw [S_size];omega) (nv l) (by rw [S_data,piB l h0 h,if_pos hb]) w).mono ?_
 rintro e w' ⟨rfl,hw⟩
 refine ⟨rfl,?_⟩
 rcases hw with rfl | ⟨t,rfl⟩
 ·exact Below.refl _ _
 ·exact ⟨rfl,rfl,rfl,by rw [Lib.bytesWorld_size];omega,fun k hk=>Lib.bytesWorld_at_old _ _ _ k hk⟩
theorem parse_no (l:List UInt8) (h0:l≠[]) (hl:l.length≤2147483647) (h:l.all dg=true) (hb:¬ nv l≤big) (w:World) (hg:Glob w) :
  Calls Tryz.prog 97 #[.string (S l),.int .i64 10,.int .i64 64] w fun e w'=>∃ v N,e=.returned (.tuple #[.int .i64 v,.iface 207 (.pointer (some ⟨N,0,none⟩))])∧Below w.heap.size w w':=by
 obtain ⟨h1,te,pe,h2⟩:=hg
 refine (Tryz.strconv_ParseInt_10_at64_range (S l) (by rw [S_size];omega) (by rw [S_data,piB l h0 h,if_neg hb]) (.iface te pe) w h2 (.inr ⟨te,pe,rfl⟩)).mono ?_
 rintro e w' ⟨N,rfl,_,_,hbl⟩
 exact ⟨_,N,rfl,hbl⟩
def tvx (l:List UInt8) (x:Int × Int):Value:=.agg #[.int .i64 x.1,.string (S l),.int .i64 x.2,.int .i64 0,.int .i64 0]
theorem bcell {n:Nat} {W w1:World} (hb:Below n W w1):(∀ b o,b<n→w1.cell? ⟨b,o,none⟩=W.cell? ⟨b,o,none⟩)∧(∀ b o,b<n→w1.frozen? ⟨b,o,none⟩=W.frozen? ⟨b,o,none⟩):=
 ⟨fun b o h=>hb.cell (p:=⟨b,o,none⟩) h,fun b o h=>hb.frozen (p:=⟨b,o,none⟩) h⟩
theorem token_dig (x:UInt8) (r:List UInt8) (w:World) (hd:dg x=true) (hall:(x :: r).all dg=true) (hl:(x :: r).length≤2147483647) (hb:nv (x :: r)≤big) :
  Calls Tryz.prog 43 #[.string (S (x :: r))] w fun e w'=>e=.returned (.tuple #[tvx (x :: r) (1,(nv (x :: r):Int)),.bool true])∧Below w.heap.size w w':=by
 have HP:=fun w=>hide (parse_ok (x :: r) (by simp) hl hall hb w)
 have HG:∀ h,(S (x :: r))[0]'h=x:=fun h=>rfl
 have HS:=S_size (x :: r)
 have hz:0<(S (x :: r)).size:=by rw [HS];simp
 unfold tvx
 generalize S (x :: r)=s at *
 generalize (nv (x :: r):Int)=v at *
 have HG':=hide HG
 have HP':=hide HP
 clear HS hall hb hl HG HP
 go_enter Tryz.func43,Tryz.ntmps43
 go_wp2_with fail
 rw [HG'.out]
 refine (digit_any _ _).mono ?_;rintro e w' ⟨rfl,rfl⟩;rw [hd]
 go_wp2_with fail
 refine (HP'.out _).out.mono ?_
 rintro e w' ⟨rfl,hbl⟩
 simp only [World.size_alloc] at hbl
 obtain ⟨hc,hf⟩:=bcell hbl
 have hz2:w.heap.size+1<w'.heap.size:=by have:=hbl.size;simp at this;omega
 have HB:Hid (Below w.heap.size w w'):=(((Below.refl _ w).alloc (Nat.le_refl _) _).alloc (by simp) _).trans (hbl.mono (by omega))
 go_wp2_with fail
 refine bodyPost_ret (v:=.tuple #[.agg #[.int .i64 1,.string s,.int .i64 v,.int .i64 0,.int .i64 0],.bool true]) (by
  have k0:w'.cell? ⟨w.heap.size,0,none⟩=some (.int .i64 0):=by rw [hc _ _ (by omega)];simp
  have k1:w'.cell? ⟨w.heap.size,1,none⟩=some (.string ⟨#[]⟩):=by rw [hc _ _ (by omega)];simp
  have k2:w'.cell? ⟨w.heap.size,2,none⟩=some (.int .i64 0):=by rw [hc _ _ (by omega)];simp
  have k3:w'.cell? ⟨w.heap.size,3,none⟩=some (.int .i64 0):=by rw [hc _ _ (by omega)];simp
  have k4:w'.cell? ⟨w.heap.size,4,none⟩=some (.int .i64 0):=by rw [hc _ _ (by omega)];simp
  clear hc hf
  simp only [results,Tryz.results43];go_simp) rfl ⟨rfl,?_⟩
 exact ((((((HB.out.setCell (by simp) _).setCell (by simp) _).setCell (by simp) _).setCell (by simp) _).setCell (by simp) _).setCell (by simp) _).setCell (by simp) _
theorem token_over (x:UInt8) (r:List UInt8) (w:World) (hd:dg x=true) (hall:(x :: r).all dg=true) (hl:(x :: r).length≤2147483647) (hb:¬ nv (x :: r)≤big) (hg:Glob w) :
  Calls Tryz.prog 43 #[.string (S (x :: r))] w fun e w'=>e=.returned (.tuple #[t0,.bool false])∧Below w.heap.size w w':=by
 have HP:=fun w h=>hide (parse_no (x :: r) (by simp) hl hall hb w h)
 have HG:∀ h,(S (x :: r))[0]'h=x:=fun h=>rfl
 have HS:=S_size (x :: r)
 have hz:0<(S (x :: r)).size:=by rw [HS];simp
 unfold t0
 generalize S (x :: r)=s at *
 have HG':=hide HG
 have HP':=hide HP
 clear HS hall hb hl HG HP
 go_enter Tryz.func43,Tryz.ntmps43
 go_wp2_with fail
 rw [HG'.out]
 refine (digit_any _ _).mono ?_;rintro e w' ⟨rfl,rfl⟩;rw [hd]
 go_wp2_with fail
 refine (HP'.out _ (hg.below (Nat.le_refl _) (((Below.refl _ w).alloc (Nat.le_refl _) _).alloc (by simp) _))).out.mono ?_
 rintro e w' ⟨v,N,rfl,hbl⟩
 simp only [World.size_alloc] at hbl
 obtain ⟨hc,hf⟩:=bcell hbl
 have hz2:w.heap.size+1<w'.heap.size:=by have:=hbl.size;simp at this;omega
 have HB:Hid (Below w.heap.size w w'):=(((Below.refl _ w).alloc (Nat.le_refl _) _).alloc (by simp) _).trans (hbl.mono (by omega))
 go_wp2_with fail
 refine bodyPost_ret (v:=.tuple #[.agg #[.int .i64 0,.string ⟨#[]⟩,.int .i64 0,.int .i64 0,.int .i64 0],.bool false]) (by
  have k0:w'.cell? ⟨w.heap.size,0,none⟩=some (.int .i64 0):=by rw [hc _ _ (by omega)];simp
  have k1:w'.cell? ⟨w.heap.size,1,none⟩=some (.string ⟨#[]⟩):=by rw [hc _ _ (by omega)];simp
  have k2:w'.cell? ⟨w.heap.size,2,none⟩=some (.int .i64 0):=by rw [hc _ _ (by omega)];simp
  have k3:w'.cell? ⟨w.heap.size,3,none⟩=some (.int .i64 0):=by rw [hc _ _ (by omega)];simp
  have k4:w'.cell? ⟨w.heap.size,4,none⟩=some (.int .i64 0):=by rw [hc _ _ (by omega)];simp
  clear hc hf
  simp only [results,Tryz.results43];go_simp) rfl ⟨rfl,?_⟩
 exact ((((HB.out.setCell (by simp) _).setCell (by simp) _).setCell (by simp) _).setCell (by simp) _).setCell (by simp) _
theorem token_key (x:UInt8) (r:List UInt8) (w:World) (hd:dg x=false) (hk:ky (x :: r)=true) :
  Calls Tryz.prog 43 #[.string (S (x :: r))] w fun e w'=>e=.returned (.tuple #[tvx (x :: r) (4,0),.bool true])∧Below w.heap.size w w':=by
 have HG:∀ h,(S (x :: r))[0]'h=x:=fun h=>rfl
 have HK:=fun w=>hide (key_any (x :: r) w)
 rw [hk] at HK
 have HS:=S_size (x :: r)
 have hz:0<(S (x :: r)).size:=by rw [HS];simp
 unfold tvx
 generalize S (x :: r)=s at *
 have HG':=hide HG
 have HK':=hide HK
 clear HS hk HG HK
 go_enter Tryz.func43,Tryz.ntmps43
 go_wp2_with fail
 rw [HG'.out]
 refine (digit_any _ _).mono ?_;rintro e w' ⟨rfl,rfl⟩;rw [hd]
 go_wp2_with fail
 refine (HK'.out _).out.mono ?_;rintro e w' ⟨rfl,rfl⟩
 go_wp2_with fail
 refine bodyPost_ret (v:=.tuple #[.agg #[.int .i64 4,.string s,.int .i64 0,.int .i64 0,.int .i64 0],.bool true]) (by simp [results,Tryz.results43,go_sem]) rfl ⟨rfl,?_⟩
 exact ((Below.refl _ w).alloc (Nat.le_refl _) _).alloc (by simp) _
theorem token_name (x:UInt8) (r:List UInt8) (w:World) (hd:dg x=false) (hk:ky (x :: r)=false) (hl:(x :: r).length≤2147483647) (hn:nm (x :: r)=true) :
  Calls Tryz.prog 43 #[.string (S (x :: r))] w fun e w'=>e=.returned (.tuple #[tvx (x :: r) (2,0),.bool true])∧Below w.heap.size w w':=by
 have HG:∀ h,(S (x :: r))[0]'h=x:=fun h=>rfl
 have HK:=fun w=>hide (key_any (x :: r) w)
 rw [hk] at HK
 have HN:=fun w=>hide (name_any (x :: r) w (by omega))
 rw [hn] at HN
 have HS:=S_size (x :: r)
 have hz:0<(S (x :: r)).size:=by rw [HS];simp
 unfold tvx
 generalize S (x :: r)=s at *
 have HG':=hide HG
 have HK':=hide HK
 have HN':=hide HN
 clear HS hk HG HK hn HN
 go_enter Tryz.func43,Tryz.ntmps43
 go_wp2_with fail
 rw [HG'.out]
 refine (digit_any _ _).mono ?_;rintro e w' ⟨rfl,rfl⟩;rw [hd]
 go_wp2_with fail
 refine (HK'.out _).out.mono ?_;rintro e w' ⟨rfl,rfl⟩
 go_wp2_with fail
 refine (HN'.out _).out.mono ?_;rintro e w' ⟨rfl,rfl⟩
 go_wp2_with fail
 refine bodyPost_ret (v:=.tuple #[.agg #[.int .i64 2,.string s,.int .i64 0,.int .i64 0,.int .i64 0],.bool true]) (by simp [results,Tryz.results43,go_sem]) rfl ⟨rfl,?_⟩
 exact ((Below.refl _ w).alloc (Nat.le_refl _) _).alloc (by simp) _
theorem token_con (x:UInt8) (r:List UInt8) (w:World) (hd:dg x=false) (hk:ky (x :: r)=false) (hl:(x :: r).length≤2147483647) (hn:nm (x :: r)=false) (hc:cn (x :: r)=true) :
  Calls Tryz.prog 43 #[.string (S (x :: r))] w fun e w'=>e=.returned (.tuple #[tvx (x :: r) (3,0),.bool true])∧Below w.heap.size w w':=by
 have HG:∀ h,(S (x :: r))[0]'h=x:=fun h=>rfl
 have HK:=fun w=>hide (key_any (x :: r) w)
 rw [hk] at HK
 have HN:=fun w=>hide (name_any (x :: r) w (by omega))
 rw [hn] at HN
 have HC:=fun w=>hide (con_any (x :: r) w (by omega))
 rw [hc] at HC
 have HS:=S_size (x :: r)
 have hz:0<(S (x :: r)).size:=by rw [HS];simp
 unfold tvx
 generalize S (x :: r)=s at *
 have HG':=hide HG
 have HK':=hide HK
 have HN':=hide HN
 have HC':=hide HC
 clear HS hk HG HK hn HN hc HC
 go_enter Tryz.func43,Tryz.ntmps43
 go_wp2_with fail
 rw [HG'.out]
 refine (digit_any _ _).mono ?_;rintro e w' ⟨rfl,rfl⟩;rw [hd]
 go_wp2_with fail
 refine (HK'.out _).out.mono ?_;rintro e w' ⟨rfl,rfl⟩
 go_wp2_with fail
 refine (HN'.out _).out.mono ?_;rintro e w' ⟨rfl,rfl⟩
 go_wp2_with fail
 refine (HC'.out _).out.mono ?_;rintro e w' ⟨rfl,rfl⟩
 go_wp2_with fail
 refine bodyPost_ret (v:=.tuple #[.agg #[.int .i64 3,.string s,.int .i64 0,.int .i64 0,.int .i64 0],.bool true]) (by simp [results,Tryz.results43,go_sem]) rfl ⟨rfl,?_⟩
 exact ((Below.refl _ w).alloc (Nat.le_refl _) _).alloc (by simp) _
theorem token_none (x:UInt8) (r:List UInt8) (w:World) (hd:dg x=false) (hk:ky (x :: r)=false) (hl:(x :: r).length≤2147483647) (hn:nm (x :: r)=false) (hc:cn (x :: r)=false) :
  Calls Tryz.prog 43 #[.string (S (x :: r))] w fun e w'=>e=.returned (.tuple #[t0,.bool false])∧Below w.heap.size w w':=by
 have HG:∀ h,(S (x :: r))[0]'h=x:=fun h=>rfl
 have HK:=fun w=>hide (key_any (x :: r) w)
 rw [hk] at HK
 have HN:=fun w=>hide (name_any (x :: r) w (by omega))
 rw [hn] at HN
 have HC:=fun w=>hide (con_any (x :: r) w (by omega))
 rw [hc] at HC
 have HS:=S_size (x :: r)
 have hz:0<(S (x :: r)).size:=by rw [HS];simp
 unfold t0
 generalize S (x :: r)=s at *
 have HG':=hide HG
 have HK':=hide HK
 have HN':=hide HN
 have HC':=hide HC
 clear HS hk HG HK hn HN hc HC
 go_enter Tryz.func43,Tryz.ntmps43
 go_wp2_with fail
 rw [HG'.out]
 refine (digit_any _ _).mono ?_;rintro e w' ⟨rfl,rfl⟩;rw [hd]
 go_wp2_with fail
 refine (HK'.out _).out.mono ?_;rintro e w' ⟨rfl,rfl⟩
 go_wp2_with fail
 refine (HN'.out _).out.mono ?_;rintro e w' ⟨rfl,rfl⟩
 go_wp2_with fail
 refine (HC'.out _).out.mono ?_;rintro e w' ⟨rfl,rfl⟩
 go_wp2_with fail
 refine bodyPost_ret (v:=.tuple #[.agg #[.int .i64 0,.string ⟨#[]⟩,.int .i64 0,.int .i64 0,.int .i64 0],.bool false]) (by simp [results,Tryz.results43,go_sem]) rfl ⟨rfl,?_⟩
 exact ((Below.refl _ w).alloc (Nat.le_refl _) _).alloc (by simp) _
def tkv (l:List UInt8):Option (Int × Int)→Value
 | some x=>.tuple #[tvx l x,.bool true]
 | none=>.tuple #[t0,.bool false]
theorem tk_cons (x:UInt8) (r:List UInt8):tk (x :: r)=if dg x then (if nv (x :: r)≤big then some (1,(nv (x :: r):Int)) else none) else if ky (x :: r) then some (4,0) else if nm (x :: r) then some (2,0) else if cn (x :: r) then some (3,0) else none:=rfl
theorem token_any (l:List UInt8) (w:World) (h0:l≠[]) (hd:dg (l.headD 0)=true→l.all dg=true) (hl:l.length≤2147483647) (hg:Glob w) :
  Calls Tryz.prog 43 #[.string (S l)] w fun e w'=>e=.returned (tkv l (tk l))∧Below w.heap.size w w':=by
 cases l with
 | nil=>exact absurd rfl h0
 | cons x r=>
  simp only [List.headD_cons] at hd
  rw [tk_cons]
  by_cases h1:dg x=true
  ·by_cases hb:nv (x :: r)≤big
   ·rw [if_pos h1,if_pos hb];exact token_dig x r w h1 (hd h1) hl hb
   ·rw [if_pos h1,if_neg hb];exact token_over x r w h1 (hd h1) hl hb hg
  ·have h1':dg x=false:=by simpa using h1
   rw [if_neg h1]
   by_cases h2:ky (x :: r)=true
   ·rw [if_pos h2];exact token_key x r w h1' h2
   ·have h2':ky (x :: r)=false:=by simpa using h2
    rw [if_neg h2]
    by_cases h3:nm (x :: r)=true
    ·rw [if_pos h3];exact token_name x r w h1' h2' hl h3
    ·have h3':nm (x :: r)=false:=by simpa using h3
     rw [if_neg h3]
     by_cases h4:cn (x :: r)=true
     ·rw [if_pos h4];exact token_con x r w h1' h2' hl h3' h4
     ·have h4':cn (x :: r)=false:=by simpa using h4
      rw [if_neg h4];exact token_none x r w h1' h2' hl h3' h4'
end Go.Proofs.YtcnnlecjdkfdjaaGreatDoor.Ly
