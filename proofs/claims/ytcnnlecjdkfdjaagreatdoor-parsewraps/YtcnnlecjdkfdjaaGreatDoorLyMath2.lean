/- Parts of the proof. -/
import Derived.Test.YtcnnlecjdkfdjaaGreatDoorLyEnd
set_option linter.unusedVariables false
set_option linter.unusedSimpArgs false
set_option maxRecDepth 100000
set_option maxHeartbeats 8000000
namespace Go.Proofs.YtcnnlecjdkfdjaaGreatDoor.Ly
open Go.RowKit
theorem sg_three (x y z:UInt8) (r:List UInt8):sg (x :: y :: z :: r)=false:=by simp [sg]
def sl2 (x:UInt8):List UInt8→Nat
 | []=>1
 | d :: _=>if sg [x,d] then 2 else 1
theorem tl_sign (x:UInt8) (r:List UInt8) (h:dg x=false) (h2:pt x=false):tl (x :: r)=sl2 x r:=by
 cases r <;> simp [tl,h,h2,sl2]
theorem sl2_no {x y:UInt8} {r:List UInt8} (h:sg [x,y]=false):sl2 x (y :: r)=1:=by simp [sl2,h]
theorem sl2_yes {x y:UInt8} {r:List UInt8} (h:sg [x,y]=true):sl2 x (y :: r)=2:=by simp [sl2,h]
theorem end_sign (b o c n:Nat) (x:UInt8) (r:List UInt8) (w:World) (h:dg x=false) (h2:pt x=false) (hrn:r.length+1=n) (hn:n≤2147483647) (hb:b<w.heap.size)
 (hm:∀ i y,(x :: r)[i]?=some y→w.cell? ⟨b,o+i,none⟩=some (.int .u8 y.toNat)) :
 Calls Tryz.prog 44 #[.slice (some ⟨b,o,none⟩) n c] w fun e w'=>e=.returned (.int .i64 (tl (x :: r):Nat))∧Below w.heap.size w w':=by
 have hx:=hm 0 x rfl
 rw [Nat.add_zero] at hx
 have M0:Mem w (some ⟨b,o,none⟩) (x :: r):=.inr ⟨b,o,rfl,hb,hm⟩
 have HTL:=zz (tl_sign x r h h2)
 have HGO:=zz (goesOn_sign x h h2 w)
 have B0:Below w.heap.size w ((w.alloc (.cells #[cl x] 5)).alloc (.cells #[.slice (some ⟨w.heap.size,0,none⟩) 1 1] 42)):=((Below.refl _ w).alloc (Nat.le_refl _) _).alloc (by simp) _
 have X0:Boxed ((w.alloc (.cells #[cl x] 5)).alloc (.cells #[.slice (some ⟨w.heap.size,0,none⟩) 1 1] 42)) (w.heap.size+1) 42 (.slice (some ⟨w.heap.size,0,none⟩) 1 1):=by
  have:=Boxed.new (w.alloc (.cells #[cl x] 5)) 42 (.slice (some ⟨w.heap.size,0,none⟩) 1 1)
  rwa [World.size_alloc] at this
 have R0:((w.alloc (.cells #[cl x] 5)).alloc (.cells #[.slice (some ⟨w.heap.size,0,none⟩) 1 1] 42)).ownsRow w.heap.size 5 1 (.slice (some ⟨w.heap.size,0,none⟩) 1 1) 1 ([x].map cl):=by
  refine ⟨rfl,.inr ⟨w.heap.size,1,#[cl x],rfl,Nat.le_refl _,?_,Nat.le_refl _,by unfold maxLen;omega,rfl,rfl⟩⟩
  exact (Below.heap_alloc _ _ _ (by simp)).trans (World.alloc_heap_new w _)
 have h1n:1≤n:=by omega
 have HRN:=zz hrn
 clear hm h h2 hrn
 go_enter Tryz.func44,Tryz.ntmps44
 go_wp2_with fail
 refine HGO.out.mono ?_
 rintro e w' ⟨rfl,rfl⟩
 generalize (w.alloc (.cells #[cl x] 5)).alloc (.cells #[.slice (some ⟨w.heap.size,0,none⟩) 1 1] 42)=W0 at *
 clear HGO
 go_wp2_with fail
 go_loopw [4] (fun i wr=>∃ (j:Nat) (l1:List UInt8) (g cap:Nat),i=.int .i64 j∧((j=1∧l1=[x])∨(j=2∧∃ y r',r=y :: r'∧l1=[x,y]∧sg [x,y]=true))∧Boxed wr (w.heap.size+1) 42 (.slice (some ⟨g,0,none⟩) j cap)∧wr.ownsRow w.heap.size 5 1 (.slice (some ⟨g,0,none⟩) j cap) j (l1.map cl)∧Below w.heap.size w wr) (fun i _=>2 - (intOf i).toNat)
 case atStart=>exact ⟨1,[x],_,_,rfl,.inl ⟨rfl,rfl⟩,X0,R0,B0⟩
 case round=>
  obtain ⟨j,l1,g,cap,rfl,hj,hbx,hrw,hbl⟩:=hrel
  clear X0 R0 B0 hx
  rename_i wr _
  have hMr:=M0.below (Nat.le_refl _) hbl
  have HN:w.heap.size≤wr.heap.size:=hbl.size
  rcases hj with ⟨rfl,rfl⟩ | ⟨rfl,y,r',rfl,rfl,hsy⟩
  ·cases r with
   | nil=>
    have h1:¬ 1<n:=by have:=HRN.out;simp at this;omega
    go_wp2
    go_ret
    exact ⟨by rw [HTL.out];rfl,hbl⟩
   | cons y r'=>
    have h1:1<n:=by have:=HRN.out;simp at this;omega
    rcases hMr with he | ⟨b',o',he,hb',hm'⟩
    ·cases he
    ·cases he
     have hcell:=hm' 1 y rfl
     have HGR:=zz (grow_any (w.heap.size+1) w.heap.size g cap [x] y wr (by simp) (by simp) hbx hrw HN (by omega))
     clear hm'
     cases hsy:sg [x,y]
     ·have HL:=zz (HTL.out.trans (sl2_no hsy))
      have HS:=zz hsy
      clear hsy
      go_wp2_with fail
      refine HGR.out.mono ?_
      rintro e w' ⟨g',cap',rfl,hbx',hrw',hbl'⟩
      rw [show [x] ++ [y]=[x,y] from rfl] at *
      rw [HS.out]
      go_wp2_with fail
      go_ret
      exact ⟨by rw [HL.out];rfl,hbl.trans hbl'⟩
     ·have HS:=zz hsy
      clear hsy
      go_wp2_with fail
      refine HGR.out.mono ?_
      rintro e w' ⟨g',cap',rfl,hbx',hrw',hbl'⟩
      rw [show [x] ++ [y]=[x,y] from rfl] at *
      rw [HS.out]
      go_wp2_with fail
      exact ⟨⟨2,[x,y],g',cap',rfl,.inr ⟨rfl,y,r',rfl,rfl,HS.out⟩,hbx',hrw',hbl.trans hbl'⟩,by simp [intOf]⟩
  ·have HL:=zz (HTL.out.trans (sl2_yes hsy))
   have HS:=zz hsy
   clear hsy
   cases r' with
   | nil=>
    have h1:¬ 2<n:=by have:=HRN.out;simp at this;omega
    go_wp2
    go_ret
    exact ⟨by rw [HL.out];rfl,hbl⟩
   | cons z r'=>
    have h1:2<n:=by have:=HRN.out;simp at this;omega
    rcases hMr with he | ⟨b',o',he,hb',hm'⟩
    ·cases he
    ·cases he
     have hcell:=hm' 2 z rfl
     have HGR:=zz (grow_any (w.heap.size+1) w.heap.size g cap [x,y] z wr (by simp) (by simp) hbx hrw HN (by omega))
     clear hm'
     go_wp2_with fail
     refine HGR.out.mono ?_
     rintro e w' ⟨g',cap',rfl,hbx',hrw',hbl'⟩
     rw [show [x,y] ++ [z]=[x,y,z] from rfl,sg_three]
     go_wp2_with fail
     go_ret
     exact ⟨by rw [HL.out];rfl,hbl.trans hbl'⟩
theorem end_any (b o c n:Nat) (l:List UInt8) (w:World) (h0:l≠[]) (hl:l.length=n) (hn:n≤2147483647) (hb:b<w.heap.size)
 (hm:∀ i y,l[i]?=some y→w.cell? ⟨b,o+i,none⟩=some (.int .u8 y.toNat)) :
 Calls Tryz.prog 44 #[.slice (some ⟨b,o,none⟩) n c] w fun e w'=>e=.returned (.int .i64 (tl l:Nat))∧Below w.heap.size w w':=by
 cases l with
 | nil=>exact absurd rfl h0
 | cons x r=>
  rw [List.length_cons] at hl
  cases h1:dg x with
  | true=>
   have h:=end_run x 96 dg (.inl rfl) digit_any (goesOn_dig x h1) b o c r w (by omega) hm
   rw [hl] at h
   refine h.mono ?_
   rintro e w' ⟨rfl,rfl⟩
   exact ⟨by simp only [tl,h1];rfl,Below.refl _ _⟩
  | false=>
   cases h2:pt x with
   | true=>
    have h:=end_run x 166 pt (.inr rfl) inWord_any (goesOn_word x h1 h2) b o c r w (by omega) hm
    rw [hl] at h
    refine h.mono ?_
    rintro e w' ⟨rfl,rfl⟩
    exact ⟨by simp only [tl,h1,h2];rfl,Below.refl _ _⟩
   | false=>exact end_sign b o c n x r w h1 h2 hl hn hb hm
def nvA (a:Nat) (l:List UInt8):Nat:=l.foldl (fun n c=>n * 10+(c.toNat - 48)) a
theorem nvA_ge:∀ (l:List UInt8) (a:Nat),a≤nvA a l
 | [],a=>Nat.le_refl _
 | c :: r,a=>by have:=nvA_ge r (a * 10+(c.toNat - 48));unfold nvA at *;simp only [List.foldl_cons];omega
theorem dg_iff (c:UInt8):dg c=true ↔ 48≤c.toNat∧c.toNat≤57:=by unfold dg;simp;omega
theorem puM:∀ (l:List UInt8) (a:Nat),l.all dg=true→Lib.parseUintM 18446744073709551615 a l=if nvA a l≤18446744073709551615∨l=[] then .ok (nvA a l) else .range
 | [],a,_=>by simp [Lib.parseUintM,nvA]
 | c :: r,a,h=>by
  simp only [List.all_cons,Bool.and_eq_true] at h
  have hc:=(dg_iff c).1 h.1
  have hg:=nvA_ge r (a * 10+(c.toNat - 48))
  have e:nvA a (c :: r)=nvA (a * 10+(c.toNat - 48)) r:=rfl
  simp only [Lib.parseUintM,if_pos hc,e]
  split
  ·rw [if_neg];simp;omega
  ·split
   ·rw [if_neg];simp;omega
   ·rw [puM r _ h.2]
    by_cases hr:r=[]
    ·have e2:nvA (a * 10+(c.toNat - 48)) r=a * 10+(c.toNat - 48):=by rw [hr];rfl
     rw [e2];rw [if_pos (Or.inr hr),if_pos (Or.inl (by omega))]
    ·simp only [hr,or_false];simp
theorem piB (l:List UInt8) (h0:l≠[]) (h:l.all dg=true):Lib.parseIntB 64 l=if nv l≤big then .ok (nv l:Int) else .range:=by
 cases l with
 | nil=>exact absurd rfl h0
 | cons c r=>
  have hc:=h
  simp only [List.all_cons,Bool.and_eq_true] at hc
  have hd:=(dg_iff c).1 hc.1
  have e:nv (c :: r)=nvA 0 (c :: r):=rfl
  have h1:¬ (c.toNat=43∨c.toNat=45):=by omega
  have h2:¬ c.toNat=45:=by omega
  simp only [Lib.parseIntB,Lib.parseUintB,if_neg h1]
  rw [if_neg (by simp),show (2 ^ 64 - 1:Nat)=18446744073709551615 from rfl,puM _ 0 h,e]
  generalize nvA 0 (c :: r)=v
  unfold big
  by_cases hv:v≤18446744073709551615
  ·rw [if_pos (.inl hv)]
   by_cases hb:v≤9223372036854775807
   ·simp only [h2,hb,if_true]
    rw [if_neg (by simp;omega),if_neg (by simp)]
    simp
   ·rw [if_neg hb]
    simp only [h2]
    rw [if_pos (by simp;omega)]
  ·rw [if_neg (by simp;omega),if_neg (by omega)]
def Glob (w:World):Prop:=2<w.heap.size∧∃ te pe,w.cell? ⟨2,0,none⟩=some (.iface te pe)
theorem Glob.below {w w':World} {n:Nat} (h:Glob w) (hn:w.heap.size≤n) (hb:Below n w w'):Glob w':=by
 obtain ⟨h1,te,pe,h2⟩:=h
 exact ⟨Nat.lt_of_lt_of_le h1 hb.size,te,pe,(hb.cell (p:=⟨2,0,none⟩) (Nat.lt_of_lt_of_le h1 hn)).trans h2⟩
theorem parse_ok (l:List UInt8) (h0:l≠[]) (hl:l.length≤2147483647) (h:l.all dg=true) (hb:nv l≤big) (w:World) :
 Calls Tryz.prog 97 #[.string (S l),.int .i64 10,.int .i64 64] w fun e w'=>e=.returned (.tuple #[.int .i64 (nv l),.nilIface])∧Below w.heap.size w w':=by
 refine (Tryz.strconv_ParseInt_10_at64_ok (S l) (by rw [S_size];omega) (nv l) (by rw [S_data,piB l h0 h,if_pos hb]) w).mono ?_
 rintro e w' ⟨rfl,hw⟩
 refine ⟨rfl,?_⟩
 rcases hw with rfl | ⟨t,rfl⟩
 ·exact Below.refl _ _
 ·exact ⟨rfl,rfl,rfl,by rw [Lib.bytesWorld_size];omega,fun k hk=>Lib.bytesWorld_at_old _ _ _ k hk⟩
theorem parse_no (l:List UInt8) (h0:l≠[]) (hl:l.length≤2147483647) (h:l.all dg=true) (hb:¬ nv l≤big) (w:World) (hg:Glob w) :
 Calls Tryz.prog 97 #[.string (S l),.int .i64 10,.int .i64 64] w fun e w'=>∃ v N,e=.returned (.tuple #[.int .i64 v,.iface 207 (.pointer (some ⟨N,0,none⟩))])∧Below w.heap.size w w':=by
 obtain ⟨h1,te,pe,h2⟩:=hg
 refine (Tryz.strconv_ParseInt_10_at64_range (S l) (by rw [S_size];omega) (by rw [S_data,piB l h0 h,if_neg hb]) (.iface te pe) w h2 (.inr ⟨te,pe,rfl⟩)).mono ?_
 rintro e w' ⟨N,rfl,_,_,hbl⟩
 exact ⟨_,N,rfl,hbl⟩
def tvx (l:List UInt8) (x:Int × Int):Value:=.agg #[.int .i64 x.1,.string (S l),.int .i64 x.2,.int .i64 0,.int .i64 0]
theorem bcell {n:Nat} {W w1:World} (hb:Below n W w1):(∀ b o,b<n→w1.cell? ⟨b,o,none⟩=W.cell? ⟨b,o,none⟩)∧(∀ b o,b<n→w1.frozen? ⟨b,o,none⟩=W.frozen? ⟨b,o,none⟩):=
 ⟨fun b o h=>hb.cell (p:=⟨b,o,none⟩) h,fun b o h=>hb.frozen (p:=⟨b,o,none⟩) h⟩
theorem token_dig (x:UInt8) (r:List UInt8) (w:World) (hd:dg x=true) (hall:(x :: r).all dg=true) (hl:(x :: r).length≤2147483647) (hb:nv (x :: r)≤big) :
 Calls Tryz.prog 43 #[.string (S (x :: r))] w fun e w'=>e=.returned (.tuple #[tvx (x :: r) (1,(nv (x :: r):Int)),.bool true])∧Below w.heap.size w w':=by
 have HP:=fun w=>zz (parse_ok (x :: r) (by simp) hl hall hb w)
 have HG:∀ h,(S (x :: r))[0]'h=x:=fun h=>rfl
 have HS:=S_size (x :: r)
 have hz:0<(S (x :: r)).size:=by rw [HS];simp
 unfold tvx
 generalize S (x :: r)=s at *
 generalize (nv (x :: r):Int)=v at *
 have HG':=zz HG
 have HP':=zz HP
 clear HS hall hb hl HG HP
 go_enter Tryz.func43,Tryz.ntmps43
 go_wp2_with fail
 rw [HG'.out]
 refine (digit_any _ _).mono ?_;rintro e w' ⟨rfl,rfl⟩;rw [hd]
 go_wp2_with fail
 refine (HP'.out _).out.mono ?_
 rintro e w' ⟨rfl,hbl⟩
 simp only [World.size_alloc] at hbl
 obtain ⟨hc,hf⟩:=bcell hbl
 have hz2:w.heap.size+1<w'.heap.size:=by have:=hbl.size;simp at this;omega
 have HB:Hid (Below w.heap.size w w'):=(((Below.refl _ w).alloc (Nat.le_refl _) _).alloc (by simp) _).trans (hbl.mono (by omega))
 go_wp2_with fail
 refine bodyPost_ret (v:=.tuple #[.agg #[.int .i64 1,.string s,.int .i64 v,.int .i64 0,.int .i64 0],.bool true]) (by
  have k0:w'.cell? ⟨w.heap.size,0,none⟩=some (.int .i64 0):=by rw [hc _ _ (by omega)];simp
  have k1:w'.cell? ⟨w.heap.size,1,none⟩=some (.string ⟨#[]⟩):=by rw [hc _ _ (by omega)];simp
  have k2:w'.cell? ⟨w.heap.size,2,none⟩=some (.int .i64 0):=by rw [hc _ _ (by omega)];simp
  have k3:w'.cell? ⟨w.heap.size,3,none⟩=some (.int .i64 0):=by rw [hc _ _ (by omega)];simp
  have k4:w'.cell? ⟨w.heap.size,4,none⟩=some (.int .i64 0):=by rw [hc _ _ (by omega)];simp
  clear hc hf
  simp only [results,Tryz.results43];go_simp) rfl ⟨rfl,?_⟩
 exact ((((((HB.out.setCell (by simp) _).setCell (by simp) _).setCell (by simp) _).setCell (by simp) _).setCell (by simp) _).setCell (by simp) _).setCell (by simp) _
theorem token_over (x:UInt8) (r:List UInt8) (w:World) (hd:dg x=true) (hall:(x :: r).all dg=true) (hl:(x :: r).length≤2147483647) (hb:¬ nv (x :: r)≤big) (hg:Glob w) :
 Calls Tryz.prog 43 #[.string (S (x :: r))] w fun e w'=>e=.returned (.tuple #[t0,.bool false])∧Below w.heap.size w w':=by
 have HP:=fun w h=>zz (parse_no (x :: r) (by simp) hl hall hb w h)
 have HG:∀ h,(S (x :: r))[0]'h=x:=fun h=>rfl
 have HS:=S_size (x :: r)
 have hz:0<(S (x :: r)).size:=by rw [HS];simp
 unfold t0
 generalize S (x :: r)=s at *
 have HG':=zz HG
 have HP':=zz HP
 clear HS hall hb hl HG HP
 go_enter Tryz.func43,Tryz.ntmps43
 go_wp2_with fail
 rw [HG'.out]
 refine (digit_any _ _).mono ?_;rintro e w' ⟨rfl,rfl⟩;rw [hd]
 go_wp2_with fail
 refine (HP'.out _ (hg.below (Nat.le_refl _) (((Below.refl _ w).alloc (Nat.le_refl _) _).alloc (by simp) _))).out.mono ?_
 rintro e w' ⟨v,N,rfl,hbl⟩
 simp only [World.size_alloc] at hbl
 obtain ⟨hc,hf⟩:=bcell hbl
 have hz2:w.heap.size+1<w'.heap.size:=by have:=hbl.size;simp at this;omega
 have HB:Hid (Below w.heap.size w w'):=(((Below.refl _ w).alloc (Nat.le_refl _) _).alloc (by simp) _).trans (hbl.mono (by omega))
 go_wp2_with fail
 refine bodyPost_ret (v:=.tuple #[.agg #[.int .i64 0,.string ⟨#[]⟩,.int .i64 0,.int .i64 0,.int .i64 0],.bool false]) (by
  have k0:w'.cell? ⟨w.heap.size,0,none⟩=some (.int .i64 0):=by rw [hc _ _ (by omega)];simp
  have k1:w'.cell? ⟨w.heap.size,1,none⟩=some (.string ⟨#[]⟩):=by rw [hc _ _ (by omega)];simp
  have k2:w'.cell? ⟨w.heap.size,2,none⟩=some (.int .i64 0):=by rw [hc _ _ (by omega)];simp
  have k3:w'.cell? ⟨w.heap.size,3,none⟩=some (.int .i64 0):=by rw [hc _ _ (by omega)];simp
  have k4:w'.cell? ⟨w.heap.size,4,none⟩=some (.int .i64 0):=by rw [hc _ _ (by omega)];simp
  clear hc hf
  simp only [results,Tryz.results43];go_simp) rfl ⟨rfl,?_⟩
 exact ((((HB.out.setCell (by simp) _).setCell (by simp) _).setCell (by simp) _).setCell (by simp) _).setCell (by simp) _
theorem token_key (x:UInt8) (r:List UInt8) (w:World) (hd:dg x=false) (hk:ky (x :: r)=true) :
 Calls Tryz.prog 43 #[.string (S (x :: r))] w fun e w'=>e=.returned (.tuple #[tvx (x :: r) (4,0),.bool true])∧Below w.heap.size w w':=by
 have HG:∀ h,(S (x :: r))[0]'h=x:=fun h=>rfl
 have HK:=fun w=>zz (key_any (x :: r) w)
 rw [hk] at HK
 have HS:=S_size (x :: r)
 have hz:0<(S (x :: r)).size:=by rw [HS];simp
 unfold tvx
 generalize S (x :: r)=s at *
 have HG':=zz HG
 have HK':=zz HK
 clear HS hk HG HK
 go_enter Tryz.func43,Tryz.ntmps43
 go_wp2_with fail
 rw [HG'.out]
 refine (digit_any _ _).mono ?_;rintro e w' ⟨rfl,rfl⟩;rw [hd]
 go_wp2_with fail
 refine (HK'.out _).out.mono ?_;rintro e w' ⟨rfl,rfl⟩
 go_wp2_with fail
 refine bodyPost_ret (v:=.tuple #[.agg #[.int .i64 4,.string s,.int .i64 0,.int .i64 0,.int .i64 0],.bool true]) (by simp [results,Tryz.results43,go_sem]) rfl ⟨rfl,?_⟩
 exact ((Below.refl _ w).alloc (Nat.le_refl _) _).alloc (by simp) _
theorem token_name (x:UInt8) (r:List UInt8) (w:World) (hd:dg x=false) (hk:ky (x :: r)=false) (hl:(x :: r).length≤2147483647) (hn:nm (x :: r)=true) :
 Calls Tryz.prog 43 #[.string (S (x :: r))] w fun e w'=>e=.returned (.tuple #[tvx (x :: r) (2,0),.bool true])∧Below w.heap.size w w':=by
 have HG:∀ h,(S (x :: r))[0]'h=x:=fun h=>rfl
 have HK:=fun w=>zz (key_any (x :: r) w)
 rw [hk] at HK
 have HN:=fun w=>zz (name_any (x :: r) w (by omega))
 rw [hn] at HN
 have HS:=S_size (x :: r)
 have hz:0<(S (x :: r)).size:=by rw [HS];simp
 unfold tvx
 generalize S (x :: r)=s at *
 have HG':=zz HG
 have HK':=zz HK
 have HN':=zz HN
 clear HS hk HG HK hn HN
 go_enter Tryz.func43,Tryz.ntmps43
 go_wp2_with fail
 rw [HG'.out]
 refine (digit_any _ _).mono ?_;rintro e w' ⟨rfl,rfl⟩;rw [hd]
 go_wp2_with fail
 refine (HK'.out _).out.mono ?_;rintro e w' ⟨rfl,rfl⟩
 go_wp2_with fail
 refine (HN'.out _).out.mono ?_;rintro e w' ⟨rfl,rfl⟩
 go_wp2_with fail
 refine bodyPost_ret (v:=.tuple #[.agg #[.int .i64 2,.string s,.int .i64 0,.int .i64 0,.int .i64 0],.bool true]) (by simp [results,Tryz.results43,go_sem]) rfl ⟨rfl,?_⟩
 exact ((Below.refl _ w).alloc (Nat.le_refl _) _).alloc (by simp) _
theorem token_con (x:UInt8) (r:List UInt8) (w:World) (hd:dg x=false) (hk:ky (x :: r)=false) (hl:(x :: r).length≤2147483647) (hn:nm (x :: r)=false) (hc:cn (x :: r)=true) :
 Calls Tryz.prog 43 #[.string (S (x :: r))] w fun e w'=>e=.returned (.tuple #[tvx (x :: r) (3,0),.bool true])∧Below w.heap.size w w':=by
 have HG:∀ h,(S (x :: r))[0]'h=x:=fun h=>rfl
 have HK:=fun w=>zz (key_any (x :: r) w)
 rw [hk] at HK
 have HN:=fun w=>zz (name_any (x :: r) w (by omega))
 rw [hn] at HN
 have HC:=fun w=>zz (con_any (x :: r) w (by omega))
 rw [hc] at HC
 have HS:=S_size (x :: r)
 have hz:0<(S (x :: r)).size:=by rw [HS];simp
 unfold tvx
 generalize S (x :: r)=s at *
 have HG':=zz HG
 have HK':=zz HK
 have HN':=zz HN
 have HC':=zz HC
 clear HS hk HG HK hn HN hc HC
 go_enter Tryz.func43,Tryz.ntmps43
 go_wp2_with fail
 rw [HG'.out]
 refine (digit_any _ _).mono ?_;rintro e w' ⟨rfl,rfl⟩;rw [hd]
 go_wp2_with fail
 refine (HK'.out _).out.mono ?_;rintro e w' ⟨rfl,rfl⟩
 go_wp2_with fail
 refine (HN'.out _).out.mono ?_;rintro e w' ⟨rfl,rfl⟩
 go_wp2_with fail
 refine (HC'.out _).out.mono ?_;rintro e w' ⟨rfl,rfl⟩
 go_wp2_with fail
 refine bodyPost_ret (v:=.tuple #[.agg #[.int .i64 3,.string s,.int .i64 0,.int .i64 0,.int .i64 0],.bool true]) (by simp [results,Tryz.results43,go_sem]) rfl ⟨rfl,?_⟩
 exact ((Below.refl _ w).alloc (Nat.le_refl _) _).alloc (by simp) _
theorem token_none (x:UInt8) (r:List UInt8) (w:World) (hd:dg x=false) (hk:ky (x :: r)=false) (hl:(x :: r).length≤2147483647) (hn:nm (x :: r)=false) (hc:cn (x :: r)=false) :
 Calls Tryz.prog 43 #[.string (S (x :: r))] w fun e w'=>e=.returned (.tuple #[t0,.bool false])∧Below w.heap.size w w':=by
 have HG:∀ h,(S (x :: r))[0]'h=x:=fun h=>rfl
 have HK:=fun w=>zz (key_any (x :: r) w)
 rw [hk] at HK
 have HN:=fun w=>zz (name_any (x :: r) w (by omega))
 rw [hn] at HN
 have HC:=fun w=>zz (con_any (x :: r) w (by omega))
 rw [hc] at HC
 have HS:=S_size (x :: r)
 have hz:0<(S (x :: r)).size:=by rw [HS];simp
 unfold t0
 generalize S (x :: r)=s at *
 have HG':=zz HG
 have HK':=zz HK
 have HN':=zz HN
 have HC':=zz HC
 clear HS hk HG HK hn HN hc HC
 go_enter Tryz.func43,Tryz.ntmps43
 go_wp2_with fail
 rw [HG'.out]
 refine (digit_any _ _).mono ?_;rintro e w' ⟨rfl,rfl⟩;rw [hd]
 go_wp2_with fail
 refine (HK'.out _).out.mono ?_;rintro e w' ⟨rfl,rfl⟩
 go_wp2_with fail
 refine (HN'.out _).out.mono ?_;rintro e w' ⟨rfl,rfl⟩
 go_wp2_with fail
 refine (HC'.out _).out.mono ?_;rintro e w' ⟨rfl,rfl⟩
 go_wp2_with fail
 refine bodyPost_ret (v:=.tuple #[.agg #[.int .i64 0,.string ⟨#[]⟩,.int .i64 0,.int .i64 0,.int .i64 0],.bool false]) (by simp [results,Tryz.results43,go_sem]) rfl ⟨rfl,?_⟩
 exact ((Below.refl _ w).alloc (Nat.le_refl _) _).alloc (by simp) _
def tkv (l:List UInt8):Option (Int × Int)→Value
 | some x=>.tuple #[tvx l x,.bool true]
 | none=>.tuple #[t0,.bool false]
theorem tk_cons (x:UInt8) (r:List UInt8):tk (x :: r)=if dg x then (if nv (x :: r)≤big then some (1,(nv (x :: r):Int)) else none) else if ky (x :: r) then some (4,0) else if nm (x :: r) then some (2,0) else if cn (x :: r) then some (3,0) else none:=rfl
theorem token_any (l:List UInt8) (w:World) (h0:l≠[]) (hd:dg (l.headD 0)=true→l.all dg=true) (hl:l.length≤2147483647) (hg:Glob w) :
 Calls Tryz.prog 43 #[.string (S l)] w fun e w'=>e=.returned (tkv l (tk l))∧Below w.heap.size w w':=by
 cases l with
 | nil=>exact absurd rfl h0
 | cons x r=>
  simp only [List.headD_cons] at hd
  rw [tk_cons]
  by_cases h1:dg x=true
  ·by_cases hb:nv (x :: r)≤big
   ·rw [if_pos h1,if_pos hb];exact token_dig x r w h1 (hd h1) hl hb
   ·rw [if_pos h1,if_neg hb];exact token_over x r w h1 (hd h1) hl hb hg
  ·have h1':dg x=false:=by simpa using h1
   rw [if_neg h1]
   by_cases h2:ky (x :: r)=true
   ·rw [if_pos h2];exact token_key x r w h1' h2
   ·have h2':ky (x :: r)=false:=by simpa using h2
    rw [if_neg h2]
    by_cases h3:nm (x :: r)=true
    ·rw [if_pos h3];exact token_name x r w h1' h2' hl h3
    ·have h3':nm (x :: r)=false:=by simpa using h3
     rw [if_neg h3]
     by_cases h4:cn (x :: r)=true
     ·rw [if_pos h4];exact token_con x r w h1' h2' hl h3' h4
     ·have h4':cn (x :: r)=false:=by simpa using h4
      rw [if_neg h4];exact token_none x r w h1' h2' hl h3' h4'
end Go.Proofs.YtcnnlecjdkfdjaaGreatDoor.Ly
namespace Go.Proofs.YtcnnlecjdkfdjaaGreatDoor.Ly
open Go.RowKit Go.Shelf
attribute [local go_sem] Oper.semAt_some
theorem spl_cut:∀ (l:List UInt8),(Lib.indexByte l 10=-1∧spl l=[l])∨∃ i:Nat,Lib.indexByte l 10=i∧i<l.length∧spl l=l.take i :: spl (l.drop (i+1))
 | []=>.inl ⟨rfl,rfl⟩
 | c :: r=>by
  by_cases hc:c=10
  ·subst hc
   exact .inr ⟨0,by simp [Lib.indexByte],by simp,by simp [spl]⟩
  ·have hb:(c == 10)=false:=by simpa using hc
   rcases spl_cut r with ⟨h1,h2⟩ | ⟨i,h1,h2,h3⟩
   ·left
    simp only [Lib.indexByte,hb,h1,spl,h2]
    exact ⟨rfl,rfl⟩
   ·right
    refine ⟨i+1,?_,by simp;omega,?_⟩
    ·simp only [Lib.indexByte,hb,h1]
     rw [if_neg (by simp)]
     simp
    ·simp only [spl,hb,h3]
     simp
def nlB (w:World):World:=w.alloc (.cells #[.int .u8 10] 5)
theorem idx_any (p:Option Addr) (n c:Nat) (l:List UInt8) (w:World) (hl:l.length=n) (hp:p=none→c=0) (hn:n≤c) (hm:Mem w p l) :
 Calls Tryz.prog 160 #[.slice p n c,.slice (some ⟨w.heap.size,0,none⟩) 1 1] (nlB w) fun e w'=>e=.returned (.int .i64 (Lib.indexByte l 10))∧∃ q,w'=(nlB w).drewN q:=by
 have hc2:(nlB w).cell? ⟨w.heap.size,0,none⟩=some (.int .u8 10):=by unfold nlB;rw [World.cell?_alloc_mark];rfl
 cases p with
 | none=>
  obtain rfl:=hp rfl
  obtain rfl:n=0:=by omega
  obtain rfl:l=[]:=List.length_eq_zero_iff.1 hl
  refine (Tryz.bytes_Index_one_nil w.heap.size 0 1 10 (nlB w) hc2).mono ?_
  rintro e w' ⟨rfl,rfl⟩
  exact ⟨rfl,0,rfl⟩
 | some a=>
  have hmA:∀ i,i<n→(nlB w).cell? (a.add i)=some (.int .u8 ((nums l).getD i 0)):=by
   intro i hi
   rcases hm with rfl | ⟨b,o,he,hb,hm⟩
   ·simp at hl;omega
   ·cases he
    have:Addr.add ⟨b,o,none⟩ i=⟨b,o+i,none⟩:=by unfold Addr.add;split <;> simp_all
    rw [this,nums_getD l i (by omega)]
    have h2:=(((Below.refl w.heap.size w).alloc (Nat.le_refl _) (.cells #[.int .u8 10] 5)).cell (p:=⟨b,o+i,none⟩) hb)
    exact h2.trans (hm i _ (by simp))
  have h:=Tryz.bytes_Index_one_at a n c w.heap.size 0 1 (nums l) 10 (nlB w) (by rw [nums_len,hl]) hmA hc2
  rw [nums_bytes] at h
  refine h.mono ?_
  rintro e w' ⟨rfl,rfl⟩
  exact ⟨rfl,0,rfl⟩
theorem cut_no (p:Option Addr) (n c:Nat) (l:List UInt8) (w:World) (hl:l.length=n) (hn2:n≤2147483647) (hp:p=none→c=0) (hn:n≤c) (hm:Mem w p l) (h:Lib.indexByte l 10=-1) :
 Calls Tryz.prog 94 #[.slice p n c,.slice (some ⟨w.heap.size,0,none⟩) 1 1] (nlB w) fun e w'=>e=.returned (.tuple #[.slice p n c,.slice none 0 0,.bool false])∧∃ q,w'=(nlB w).drewN q:=by
 have hi:=idx_any p n c l w hl hp hn hm
 rw [h] at hi
 exact Tryz.bytes_Cut_of p _ n c 1 1 (-1) (nlB w) hn (by omega) (by omega) (by omega) hi
theorem cut_yes (p:Option Addr) (n c i:Nat) (l:List UInt8) (w:World) (hl:l.length=n) (hn2:n≤2147483647) (hp:p=none→c=0) (hn:n≤c) (hm:Mem w p l) (hi:i<n) (h:Lib.indexByte l 10=i) :
 Calls Tryz.prog 94 #[.slice p n c,.slice (some ⟨w.heap.size,0,none⟩) 1 1] (nlB w) fun e w'=>e=.returned (.tuple #[.slice p i c,.slice (if c=i+1 then p else p.map fun x=>x.add (i+1)) (n - (i+1)) (c - (i+1)),.bool true])∧∃ q,w'=(nlB w).drewN q:=by
 have hx:=idx_any p n c l w hl hp hn hm
 rw [h] at hx
 have:=Tryz.bytes_Cut_of p _ n c 1 1 i (nlB w) hn (by omega) (by omega) (by omega) hx
 unfold Lib.cutV at this
 rw [if_pos (by omega),Int.toNat_natCast] at this
 exact this
abbrev L0:=Int × Option Addr × Nat × Nat × List UInt8
def okL (w:World) (x:L0):Prop:=1≤x.1∧x.1≤2147483647∧x.2.2.2.2.length=x.2.2.1∧x.2.2.1≤2147483646∧x.2.2.1≤x.2.2.2.1∧Mem w x.2.1 x.2.2.2.2∧(x.2.1=none→x.2.2.2.1=0)
abbrev Ln (w:World):={ x:L0 // okL w x }
def enc {w:World} (x:Ln w):Array Value:=#[.int .i64 x.1.1,.slice x.1.2.1 x.1.2.2.1 x.1.2.2.2.1]
def bare {w:World} (x:Ln w):Int × List UInt8:=(x.1.1,x.1.2.2.2.2)
theorem lines1_in (n:Nat) (hn:1≤n) (ld Bs:Nat) (p:Option Addr) (m c:Nat) (l:List UInt8) (we:World) (hl:l.length=m) (hm2:m≤2147483646) (hmc:m≤c) (hM:Mem we p l) (hp:p=none→c=0) (J Jx:List (Ln we)→World→Prop)
 (hY:∀ pre x W,J pre W→pre.length<l.length+1→YieldAt Fence.wide (n - 1) Tryz.prog ld (enc x) W fun e W'=>
  (e=.returned (.bool true)∧J (pre ++ [x]) W'∧Below we.heap.size W W')∨(e=.returned (.bool false)∧Jx (pre ++ [x]) W'))
 (W:World) (hJ:∀ pre A B,J pre A→A.grownBy B none→J pre B) (hBs:W.cell? ⟨Bs,0,none⟩=some (.slice p m c)) (hW:Below we.heap.size we W) (h0:J [] W) :
 CallsIn Fence.wide n Tryz.prog 93 #[.func (.yield ld) #[] #[],.pointer (some ⟨Bs,0,none⟩)] W fun e W'=>(∃ v,e=.returned v) ∧
  ((∃ ys,ys.map bare=num 1 (spl l)∧J ys W')∨(∃ pre,(∃ r,pre.map bare ++ r=num 1 (spl l))∧Jx pre W')):=by
 refine callsIn_of_wp Tryz.func93 rfl trivial ?_ rfl
 simp only [Tryz.ntmps93,List.size_toArray,List.length_cons,List.length_nil,Nat.reduceAdd,Nat.reduceSub,Array.replicate_succ,Array.replicate_zero,List.push_toArray,List.append_toArray,List.nil_append,List.cons_append]
 have HY:=zz hY
 have HJ:=zz hJ
 have HM:=zz hM
 clear hY hJ hM
 gi_wp2
 gi_loopw [3,4,5] (fun r more i wr=>∃ (pre:List (Ln we)) (k:Nat),i=.int .i64 (k+1:Nat)∧pre.length=k∧k≤m+1∧J pre wr∧Below we.heap.size we wr ∧
  ((∃ (p1:Option Addr) (m1 c1:Nat) (l1:List UInt8),r=.slice p1 m1 c1∧more=.bool true∧l1.length=m1∧m1≤c1∧Mem we p1 l1∧(p1=none→c1=0)∧k+m1≤m∧pre.map bare ++ num ((k+1:Nat):Int) (spl l1)=num 1 (spl l)) ∨
   (r=.slice none 0 0∧more=.bool false∧pre.map bare=num 1 (spl l))))
  (fun r more i wr=>m+2 - (intOf i).toNat)
 case atStart=>exact ⟨[],0,rfl,rfl,by omega,h0,hW,.inl ⟨p,m,c,l,rfl,rfl,hl,hmc,HM.out,hp,by omega,by simp⟩⟩
 case round=>
  obtain ⟨pre,k,rfl,hpre,hkm,hJs,hbl,⟨p1,m1,c1,l1,rfl,rfl,hl1,hmc1,hM1,hp1,hkm1,hgo⟩ | ⟨rfl,rfl,hend⟩⟩:=hrel
  ·have HL:l.length=m:=hl
   have MW:=hM1.below (Nat.le_refl _) hbl
   have hPL:pre.length<l.length+1:=by omega
   have HBW:∀ q,Hid (Below we.heap.size we ((nlB wr).drewN q)):=fun q=>zz (hbl.trans (((Below.refl _ wr).alloc hbl.size _).trans ⟨rfl,rfl,rfl,Nat.le_refl _,fun _ _=>rfl⟩))
   have HJW:∀ q,Hid (J pre ((nlB wr).drewN q)):=fun q=>zz (HJ.out pre _ _ (HJ.out pre _ _ hJs (World.grownBy_alloc wr _ none)) ⟨rfl,rfl,rfl,Nat.le_refl _,fun _ _ _=>rfl⟩)
   rcases spl_cut l1 with ⟨hx,hs⟩ | ⟨i,hx,hi,hs⟩
   ·rw [hs] at hgo
    have HC:=zz (cut_no p1 m1 c1 l1 wr hl1 (by omega) hp1 hmc1 MW hx)
    unfold nlB at HC
    have hX:okL we (((k+1:Nat):Int),p1,m1,c1,l1):=⟨by show (1:Int)≤((k+1:Nat):Int);omega,by show ((k+1:Nat):Int)≤2147483647;omega,hl1,by show m1≤2147483646;omega,hmc1,hM1,hp1⟩
    have HGO:Hid ((pre ++ [(⟨_,hX⟩:Ln we)]).map bare=num 1 (spl l)):=by
     show (pre ++ [(⟨_,hX⟩:Ln we)]).map bare=num 1 (spl l)
     rw [List.map_append];exact hgo
    have HLEN:Hid ((pre ++ [(⟨_,hX⟩:Ln we)]).length=k+1):=by show (pre ++ [(⟨_,hX⟩:Ln we)]).length=k+1;simp [hpre]
    clear hgo hs hx hl1 hpre hp1 hp hl hW hBs h0
    gi_wp2_with fail
    refine ⟨trivial,?_⟩
    gi_wp2_with fail
    refine (callsIn_wide.2 HC.out).mono ?_
    rintro e w2 ⟨rfl,q,hw2⟩
    have hb2:=(HBW q).out
    have hJ2:=(HJW q).out
    unfold nlB at hb2 hJ2
    rw [← hw2] at hb2 hJ2
    clear hw2 HBW HJW HC
    obtain ⟨fn,tmps,assign,body,hy,hR⟩:=HY.out pre ⟨_,hX⟩ w2 hJ2 hPL
    simp only [enc] at hy
    rw [show ((k+1:Nat):Int)=(k:Int)+1 from by omega] at hy
    have HR:=zz hR
    clear hR
    gi_wp2_with fail
    refine HR.out.mono ?_
    rintro e W3 (⟨rfl,hJ3,hk3⟩ | ⟨rfl,hJx3⟩)
    ·gi_wp2_with fail
     go_roundw
     case rel=>exact ⟨pre ++ [⟨_,hX⟩],k+1,by go_num,HLEN.out,by omega,hJ3,hb2.trans hk3,.inr ⟨rfl,rfl,HGO.out⟩⟩
     case measure=>simp [intOf];omega
    ·gi_wp2_with fail
     refine bodyPost_ret (results_none rfl _ _ _) rfl ?_
     exact ⟨⟨_,rfl⟩,.inr ⟨_,⟨[],by rw [List.append_nil];exact HGO.out⟩,hJx3⟩⟩
   ·rw [hs] at hgo
    have HC:=zz (cut_yes p1 m1 c1 i l1 wr hl1 (by omega) hp1 hmc1 MW (by omega) hx)
    unfold nlB at HC
    have hX:okL we (((k+1:Nat):Int),p1,i,c1,l1.take i):=⟨by show (1:Int)≤((k+1:Nat):Int);omega,by show ((k+1:Nat):Int)≤2147483647;omega,by show (l1.take i).length=i;simp;omega,by show i≤2147483646;omega,by show i≤c1;omega,hM1.take i,hp1⟩
    have HGO:Hid ((pre ++ [(⟨_,hX⟩:Ln we)]).map bare ++ num ((k+1+1:Nat):Int) (spl (l1.drop (i+1)))=num 1 (spl l)):=by
     show (pre ++ [(⟨_,hX⟩:Ln we)]).map bare ++ num ((k+1+1:Nat):Int) (spl (l1.drop (i+1)))=num 1 (spl l)
     rw [← hgo,List.map_append,List.append_assoc];rfl
    have HLEN:Hid ((pre ++ [(⟨_,hX⟩:Ln we)]).length=k+1):=by show (pre ++ [(⟨_,hX⟩:Ln we)]).length=k+1;simp [hpre]
    have HD:=zz (hM1.drop (i+1) c1 (by omega))
    have HDL:Hid ((l1.drop (i+1)).length=m1 - (i+1)):=by show (l1.drop (i+1)).length=m1 - (i+1);simp [hl1]
    have HPN:Hid ((if c1=i+1 then p1 else p1.map fun x=>x.add (i+1))=none→c1 - (i+1)=0):=by
     show (if c1=i+1 then p1 else p1.map fun x=>x.add (i+1))=none→c1 - (i+1)=0
     split
     ·intro _;omega
     ·intro hh;cases p1 with | none=>rw [hp1 rfl];omega | some a=>simp at hh
    have him:i<m1:=by omega
    generalize (if c1=i+1 then p1 else p1.map fun x=>x.add (i+1))=p2 at *
    clear hgo hs hx hl1 hpre hp1 hp hl hW hBs h0 hi
    gi_wp2_with fail
    refine ⟨trivial,?_⟩
    gi_wp2_with fail
    refine (callsIn_wide.2 HC.out).mono ?_
    rintro e w2 ⟨rfl,q,hw2⟩
    have hb2:=(HBW q).out
    have hJ2:=(HJW q).out
    unfold nlB at hb2 hJ2
    rw [← hw2] at hb2 hJ2
    clear hw2 HBW HJW HC
    obtain ⟨fn,tmps,assign,body,hy,hR⟩:=HY.out pre ⟨_,hX⟩ w2 hJ2 hPL
    simp only [enc] at hy
    rw [show ((k+1:Nat):Int)=(k:Int)+1 from by omega] at hy
    have HR:=zz hR
    clear hR
    gi_wp2_with fail
    refine HR.out.mono ?_
    rintro e W3 (⟨rfl,hJ3,hk3⟩ | ⟨rfl,hJx3⟩)
    ·gi_wp2_with fail
     go_roundw
     case rel=>exact ⟨pre ++ [⟨_,hX⟩],k+1,by go_num,HLEN.out,by omega,hJ3,hb2.trans hk3,.inl ⟨p2,m1 - (i+1),c1 - (i+1),l1.drop (i+1),rfl,rfl,HDL.out,by omega,HD.out,HPN.out,by omega,HGO.out⟩⟩
     case measure=>simp [intOf];omega
    ·gi_wp2_with fail
     refine bodyPost_ret (results_none rfl _ _ _) rfl ?_
     exact ⟨⟨_,rfl⟩,.inr ⟨_,⟨_,HGO.out⟩,hJx3⟩⟩
  ·have HE:=zz hend
   clear hend hpre
   gi_wp2
   go_end0
   exact ⟨⟨_,rfl⟩,.inl ⟨pre,HE.out,hJs⟩⟩
theorem lines_stops (n:Nat) (hn:1≤n) (Bs:Nat) (p:Option Addr) (m c:Nat) (l:List UInt8) (we w:World) (hl:l.length=m) (hm2:m≤2147483646) (hmc:m≤c) (hM:Mem we p l) (hp:p=none→c=0)
 (hBs:Bs<w.heap.size) (hc:w.cell? ⟨Bs,0,none⟩=some (.slice p m c)) (hwe:Below we.heap.size we w) :
 SeqStopsK Fence.wide n Tryz.prog 93 #[.pointer (some ⟨Bs,0,none⟩)] (enc (w:=we)) (Below we.heap.size) (fun ys=>ys.map bare=num 1 (spl l)) (fun pre=>∃ r,pre.map bare ++ r=num 1 (spl l)) (l.length+1) w:=
 fun ld J Jx W hW hJ _ hY h0=>lines1_in n hn ld Bs p m c l we hl hm2 hmc hM hp J Jx hY W (fun pre A B h hg=>hJ pre A B none h hg (fun r e=>by cases e)) ((hW.cell (p:=⟨Bs,0,none⟩) hBs).trans hc) (hwe.trans (hW.mono hwe.size)) h0
theorem lines_in (n:Nat) (p:Option Addr) (m c:Nat) (w:World) :
 CallsIn Fence.wide n Tryz.prog 41 #[.slice p m c] w fun e w'=>e=.returned (.func (.func 93) #[] #[.pointer (some ⟨w.heap.size,0,none⟩)])∧w'=w.alloc (.cells #[.slice p m c] 42):=by
 refine callsIn_of_wp Tryz.func41 rfl trivial ?_ rfl
 simp only [Tryz.ntmps41,List.size_toArray,List.length_cons,List.length_nil,Nat.reduceAdd,Nat.reduceSub,Array.replicate_succ,Array.replicate_zero,List.push_toArray,List.append_toArray,List.nil_append,List.cons_append]
 gi_wp2
 go_ret
 exact ⟨rfl,rfl⟩
end Go.Proofs.YtcnnlecjdkfdjaaGreatDoor.Ly
namespace Go.Proofs.YtcnnlecjdkfdjaaGreatDoor.Ly
theorem gp_suffix (l:List UInt8):gp l=l.drop (l.length - (gp l).length):=by
 induction l with
 | nil=>rfl
 | cons a r ih=>
  unfold gp at *
  simp only [List.dropWhile_cons]
  split
  ·have h:=gp_le r
   unfold gp at h
   rw [List.length_cons,show r.length+1 - (List.dropWhile (fun x=>x == 32) r).length=(r.length - (List.dropWhile (fun x=>x == 32) r).length)+1 from by omega,List.drop_succ_cons]
   exact ih
  ·simp
theorem sk_suffix (l:List UInt8):sk l=l.drop (l.length - (sk l).length):=by
 unfold sk;split
 ·simp
 ·exact gp_suffix l
theorem gp_idem (l:List UInt8):gp (gp l)=gp l:=by
 induction l with
 | nil=>rfl
 | cons a r ih=>
  unfold gp at *
  simp only [List.dropWhile_cons]
  split
  ·exact ih
  ·rename_i h;rw [List.dropWhile_cons,if_neg h]
theorem sk_idem (l:List UInt8):sk (sk l)=sk l:=by
 by_cases h:((gp l).take 2 == [45,45])=true
 ·have:sk l=[]:=by unfold sk;rw [if_pos h]
  rw [this];rfl
 ·have:sk l=gp l:=by unfold sk;rw [if_neg h]
  rw [this];unfold sk;rw [gp_idem,if_neg h]
theorem raw_skip (n:Int) (a:Nat) (l:List UInt8):raw n a l=raw n (a+(l.length - (sk l).length)) (sk l):=by
 rw [raw_step,raw_step n _ (sk l),sk_idem]
 have hk:=sk_le l
 cases h:sk l with
 | nil=>rfl
 | cons c r=>
  rw [h] at hk
  simp only [List.length_cons] at hk ⊢
  rw [show a+(l.length - (r.length+1))+(r.length+1 - (r.length+1))=a+(l.length - (r.length+1)) from by omega]
theorem raw_bad (n:Int) (a:Nat) (c:UInt8) (r:List UInt8) (hs:sk (c :: r)=c :: r) (h:tk ((c :: r).take (tl (c :: r)))=none):raw n a (c :: r)=([],some (n,(a:Int)+1)):=by
 rw [raw_step,hs];simp [h]
theorem raw_tok (n:Int) (a:Nat) (c:UInt8) (r:List UInt8) (hs:sk (c :: r)=c :: r) {x:Int × Int} (h:tk ((c :: r).take (tl (c :: r)))=some x) :
 raw n a (c :: r)=(⟨x.1,(c :: r).take (tl (c :: r)),x.2,n,(a:Int)+1⟩ :: (raw n (a+tl (c :: r)) ((c :: r).drop (tl (c :: r)))).1,(raw n (a+tl (c :: r)) ((c :: r).drop (tl (c :: r)))).2):=by
 rw [raw_step,hs];simp [h]
theorem raw_end (n:Int) (a:Nat):raw n a []=([],none):=rfl
theorem tw_all (p:UInt8→Bool) (r:List UInt8):(r.take (r.takeWhile p).length).all p=true:=by
 induction r with
 | nil=>rfl
 | cons a r ih=>
  simp only [List.takeWhile_cons]
  split
  ·rename_i h;simp [h];simpa using ih
  ·simp
theorem tok_dig (l:List UInt8):dg ((l.take (tl l)).headD 0)=true→(l.take (tl l)).all dg=true:=by
 cases l with
 | nil=>simp [tl]
 | cons c r=>
  intro h
  have hp:=tl_pos c r
  have e:((c :: r).take (tl (c :: r))).headD 0=c:=by
   rw [show tl (c :: r)=(tl (c :: r) - 1)+1 from by omega,List.take_succ_cons];rfl
  rw [e] at h
  have e2:tl (c :: r)=(r.takeWhile dg).length+1:=by simp only [tl,h,if_true];omega
  rw [e2,List.take_succ_cons,List.all_cons,h,tw_all];rfl
theorem tok_ne (c:UInt8) (r:List UInt8):(c :: r).take (tl (c :: r))≠[]:=by
 have hp:=tl_pos c r
 rw [show tl (c :: r)=(tl (c :: r) - 1)+1 from by omega,List.take_succ_cons];simp
theorem tok_len (l:List UInt8):(l.take (tl l)).length=tl l:=by
 have:=tl_le l;simp;omega
theorem rawLs_snoc (a:List (Int × List UInt8)) (x:Int × List UInt8) (h:(rawLs a).2=none):rawLs (a ++ [x])=((rawLs a).1 ++ (raw x.1 0 x.2).1,(raw x.1 0 x.2).2):=by
 rw [rawLs_append,h]
 simp only [rawLs]
 cases h2:(raw x.1 0 x.2).2 <;> simp
theorem cap_of_over {q:List Tok × Option (Int × Int)} {t:Tok} (h:q.1[2000]?=some t):(cap q).2=some (pl t):=by unfold cap;rw [h]
theorem cap_of_bad {q:List Tok × Option (Int × Int)} {e:Int × Int} (h1:q.1.length≤2000) (h:q.2=some e):(cap q).2=some e:=by
 unfold cap;rw [List.getElem?_eq_none h1,h]
theorem cap_of_ok {q:List Tok × Option (Int × Int)} (h1:q.1.length≤2000) (h:q.2=none):cap q=(q.1,none):=by
 unfold cap;rw [List.getElem?_eq_none h1,h]
end Go.Proofs.YtcnnlecjdkfdjaaGreatDoor.Ly
