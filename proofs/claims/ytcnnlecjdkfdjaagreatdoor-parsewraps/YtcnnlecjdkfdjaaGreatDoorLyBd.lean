/- Parts of the proof. -/
import Derived.Test.YtcnnlecjdkfdjaaGreatDoorLyBehind
import Derived.Deep.DeepCutAuto
set_option linter.unusedVariables false
set_option linter.unusedSimpArgs false
set_option maxRecDepth 100000
set_option maxHeartbeats 8000000
namespace Go.Proofs.YtcnnlecjdkfdjaaGreatDoor.Ly
open Go.RowKit
abbrev Sm:=List Blk × List Tok × Bool
def mid (nl:Bool) (t:Tok) (s:Sm):Option (List Blk × List Tok):=
 let r:=if nl && !s.2.2 then lineM t s.1 s.2.1 else (s.1,s.2.1)
 if closesK t then fitM t r.1 r.2 else some r
def stepM (nl:Bool) (t:Tok) (rest:List Tok) (s:Sm):Option Sm:=
 match mid nl t s with
 | none=>none
 | some r=>some (behM t rest r.1 (r.2 ++ [t]) false)
def over (prev:Option Tok) (t:Tok):Bool:=match prev with | some p=>decide (p.ln<t.ln) | none=>false
def goM (prev:Option Tok):List Tok→Sm→Except Tok Sm
 | [],s=>.ok s
 | t :: r,s=>match stepM (over prev t) t r s with
  | none=>.error t
  | some s'=>goM (some t) r s'
def start (t:Tok):Sm:=if isK t [123] then ([],[],false) else ([⟨[],max t.co 1⟩],[pt1 123 t],true)
def finM (u:Tok) (s:Sm):List Tok × (Int × Int) × Int:=
 match (endM every u s.1 s.2.1).1 with
 | []=>((endM every u s.1 s.2.1).2,(0,0),0)
 | _ :: _=>([],(u.ln,u.co),30)
def resM (u:Tok):Except Tok Sm→List Tok × (Int × Int) × Int
 | .error t=>([],(t.ln,t.co),30)
 | .ok s=>finM u s
def layM:List Tok→List Tok × (Int × Int) × Int
 | []=>([],(0,0),0)
 | t :: r=>resM ((t :: r).getLast (by simp)) (goM none (t :: r) (start t))
theorem lineM_sum (t:Tok) (st:List Blk) (o:List Tok):(lineM t st o).2.length+(lineM t st o).1.length≤o.length+st.length+1:=by
 have h:=endM_sum (fun c=>decide (t.co<c)) t st o
 unfold lineM
 simp only
 split
 ·simp;omega
 ·omega
theorem popM_sum {s:List UInt8} {st:List Blk} {o:List Tok} {r:List Blk × List Tok} (h:popM s st o=some r):r.2.length+r.1.length≤o.length+st.length:=by
 unfold popM at h
 split at h
 ·cases h;simp
 ·cases h
theorem fitM_sum {t:Tok} {st:List Blk} {o:List Tok} {r:List Blk × List Tok} (h:fitM t st o=some r):r.2.length+r.1.length≤o.length+st.length:=by
 unfold fitM at h
 have h2:=endM_sum every t st o
 split at h
 ·have:=popM_sum h;omega
 ·exact popM_sum h
theorem mid_sum {nl:Bool} {t:Tok} {s:Sm} {r:List Blk × List Tok} (h:mid nl t s=some r):r.2.length+r.1.length≤s.2.1.length+s.1.length+1:=by
 unfold mid at h
 have h2:=lineM_sum t s.1 s.2.1
 simp only at h
 split at h
 ·have:=fitM_sum h
  split at this
  ·omega
  ·simp only at this;omega
 ·cases h
  split
  ·omega
  ·simp only;omega
theorem behM_sum (t:Tok) (rest:List Tok) (st:List Blk) (o:List Tok) (f:Bool):(behM t rest st o f).2.1.length+(behM t rest st o f).1.length≤o.length+st.length+2:=by
 unfold behM
 split
 ·simp;omega
 ·split
  ·unfold indM
   split
   ·simp;omega
   ·split
    ·simp
    ·split
     ·simp;omega
     ·simp;omega
  ·simp
theorem wrap_i {n:Int} (h0:0≤n) (h1:n<9223372036854775808):IntKind.i64.wrap n=n:=by rw [IntKind.wrap_i64];omega
def prevM (l:List Tok) (k:Nat):Option Tok:=match k with | 0=>none | k+1=>l[k]?
theorem lay_any (p:Option Addr) (m c:Nat) (l:List Tok) (w:World) (hl:l.length=m) (hm:m≤100000) (hmc:m≤c) (hM:TMem w p l) :
 Calls Tryz.prog 20 #[.slice p m c] w fun e W'=>∃ pa cp,e=.returned (.tuple #[.slice pa (layM l).1.length cp,.agg #[.int .i64 (layM l).2.1.1,.int .i64 (layM l).2.1.2],.int .i64 (layM l).2.2])∧TMem W' pa (layM l).1∧Below w.heap.size w W':=by
 cases l with
 | nil=>
  obtain rfl:m=0:=by simpa using hl.symm
  unfold layM
  go_enter Tryz.func20,Tryz.ntmps20
  go_wp2_with fail
  exact bodyPost_ret (v:=.tuple #[.slice none 0 0,.agg #[.int .i64 0,.int .i64 0],.int .i64 0]) (by simp only [results,Tryz.results20];go_simp) rfl ⟨none,0,rfl,.inl rfl,(Below.refl _ w).alloc (Nat.le_refl _) _⟩
 | cons t r=>
  have hm1:r.length+1=m:=by simpa using hl
  have hm0:0<m:=by omega
  rcases hM with he | ⟨g,og,rfl,hg,hgm⟩
  ·cases he
  have M0:TMem w (some ⟨g,og,none⟩) (t :: r):=.inr ⟨g,og,rfl,hg,hgm⟩
  have HGM:=zz hgm
  have G0:Hold2 g og t w:=by have:=hgm 0 t rfl;simp only [Nat.zero_mul,Nat.add_zero] at this;exact this
  clear hgm
  have I:=zz (fun w=>is_any t [123] w)
  unfold tv at I
  obtain ⟨u,hu⟩:∃ u,u=(t :: r).getLast (by simp):=⟨_,rfl⟩
  have HLM:Hid (layM (t :: r)=resM u (goM none (t :: r) (start t))):=by show layM (t :: r)=_;rw [hu];rfl
  generalize layM (t :: r)=R at *
  have B0:=(Below.refl _ w).alloc (Nat.le_refl _) (.cells #[.int .i64 0,.int .i64 0] 29)
  have B1:=B0.alloc (by simp) (.cells #[.slice none 0 0,.slice none 0 0,.bool false] 89)
  have PL0:=Hold.new w #[.int .i64 0,.int .i64 0] 29
  have PB0:=Hold.new (w.alloc (.cells #[.int .i64 0,.int .i64 0] 29)) #[.slice none 0 0,.slice none 0 0,.bool false] 89
  rw [World.size_alloc] at PB0
  have PL1:=PL0.alloc (.cells #[.slice none 0 0,.slice none 0 0,.bool false] 89)
  have LL:L (fun b=>b<w.heap.size∨b=w.heap.size) (w.heap.size+1) [] [] false ((w.alloc (.cells #[.int .i64 0,.int .i64 0] 29)).alloc (.cells #[.slice none 0 0,.slice none 0 0,.bool false] 89)):=by
   refine ⟨none,0,none,0,PB0,⟨rfl,.inl ⟨rfl,rfl⟩⟩,⟨rfl,.inl ⟨rfl,rfl⟩⟩,fun b hb=>⟨by simp;omega,by omega,by simp [Value.ownBlock],by simp [Value.ownBlock]⟩⟩
  have KK:KP (fun b=>b<w.heap.size) w ((w.alloc (.cells #[.int .i64 0,.int .i64 0] 29)).alloc (.cells #[.slice none 0 0,.slice none 0 0,.bool false] 89)):=KP.of_below B1 fun b hb=>hb
  obtain ⟨n0,n1,n2,n3,n4⟩:=Hold2.below G0 B1 hg
  clear B0 PL0 PB0 M0 G0
  go_enter Tryz.func20,Tryz.ntmps20
  go_upto_if 17 with (go_at_call 45;refine (I.out _).mono ?_;rintro e w2 ⟨rfl,b2⟩)
  generalize ((w.alloc (.cells #[.int .i64 0,.int .i64 0] 29)).alloc (.cells #[.slice none 0 0,.slice none 0 0,.bool false] 89))=w1 at *
  have G2:Hold2 g og t w2:=Hold2.below ⟨n0,n1,n2,n3,n4⟩ b2 (Nat.lt_of_lt_of_le hg KK.size)
  have L2:=LL.below b2
  have K2:=KK.trans (KP.of_below b2 fun b hb=>LL.lt b (.inl hb))
  have PL2:=PL1.below b2 PL1.lt
  have HG2:=zz G2
  clear n0 n1 n2 n3 n4 LL KK PL1 b2 B1 G2 I
  go_cut [] (fun wx=>L (fun b=>b<w.heap.size∨b=w.heap.size) (w.heap.size+1) (start t).2.1 (start t).1 (start t).2.2 wx∧KP (fun b=>b<w.heap.size) w wx∧Hold w.heap.size #[.int .i64 0,.int .i64 0] 29 wx)
  case first=>
   cases hi:isK t [123]
   ·obtain ⟨m0,m1,m2,m3,m4⟩:=HG2.out
    by_cases hx:t.co<1
    ·have HST:Hid (start t=([⟨[],1⟩],[pt1 123 t],true)):=by show start t=_;unfold start;rw [hi,if_neg (by decide),show max t.co 1=1 by omega]
     have BG:=zz (fun w' h c=>begin_any (fun b=>b<w.heap.size∨b=w.heap.size) (w.heap.size+1) t c [] [] false w' h (by simp) (by simp))
     unfold tv at BG
     go_wp2_with fail
     go_region_held3 (fun w'=>w'.cell? ⟨g,og,none⟩=some (.int .i64 t.kd)∧w'.cell? ⟨g,og+1,none⟩=some (.string (S t.tx))∧w'.cell? ⟨g,og+2,none⟩=some (.int .i64 t.nu)∧w'.cell? ⟨g,og+3,none⟩=some (.int .i64 t.ln)∧w'.cell? ⟨g,og+4,none⟩=some (.int .i64 t.co)) (first | go_keep | (exact (show Hold2 g og t w3 from Hold2.kp (w:=w2.drew) ⟨m0,m1,m2,m3,m4⟩ K3 (Or.inl hg))))
      (first | (go_at_call 46;refine (BG.out _ L2.drew _).mono ?_;rintro e w3 ⟨rfl,L3,K3⟩))
     have K4:=K2.drew.trans (K3.mono fun b hb=>.inl hb)
     have PL4:Hold w.heap.size #[.int .i64 0,.int .i64 0] 29 w3:=(K3.block _ (.inr rfl)).trans PL2
     go_wp2_with fail
     go_meet
     case rel=>rw [HST.out];first | exact ⟨L3,K4,PL4⟩ | (rw [if_neg (by omega)] at L3;exact ⟨L3,K4,PL4⟩) | (rw [show max t.co 1=1 by omega] at L3;exact ⟨L3,K4,PL4⟩)
    ·have HST:Hid (start t=([⟨[],t.co⟩],[pt1 123 t],true)):=by show start t=_;unfold start;rw [hi,if_neg (by decide),show max t.co 1=t.co by omega]
     have BG:=zz (fun w' h c=>begin_any (fun b=>b<w.heap.size∨b=w.heap.size) (w.heap.size+1) t c [] [] false w' h (by simp) (by simp))
     unfold tv at BG
     go_wp2_with fail
     go_region_held3 (fun w'=>w'.cell? ⟨g,og,none⟩=some (.int .i64 t.kd)∧w'.cell? ⟨g,og+1,none⟩=some (.string (S t.tx))∧w'.cell? ⟨g,og+2,none⟩=some (.int .i64 t.nu)∧w'.cell? ⟨g,og+3,none⟩=some (.int .i64 t.ln)∧w'.cell? ⟨g,og+4,none⟩=some (.int .i64 t.co)) (first | go_keep | (exact (show Hold2 g og t w3 from Hold2.kp (w:=w2.drew) ⟨m0,m1,m2,m3,m4⟩ K3 (Or.inl hg))))
      (first | (go_at_call 46;refine (BG.out _ L2.drew _).mono ?_;rintro e w3 ⟨rfl,L3,K3⟩))
     have K4:=K2.drew.trans (K3.mono fun b hb=>.inl hb)
     have PL4:Hold w.heap.size #[.int .i64 0,.int .i64 0] 29 w3:=(K3.block _ (.inr rfl)).trans PL2
     go_wp2_with fail
     go_meet
     case rel=>rw [HST.out];first | exact ⟨L3,K4,PL4⟩ | (rw [if_neg (by omega)] at L3;exact ⟨L3,K4,PL4⟩) | (rw [show max t.co 1=t.co by omega] at L3;exact ⟨L3,K4,PL4⟩)
   ·have HST:Hid (start t=([],[],false)):=by show start t=_;unfold start;rw [hi,if_pos rfl]
    go_wp2_with fail
    go_meet
    case rel=>rw [HST.out];exact ⟨L2,K2,PL2⟩
  case rest=>
   obtain ⟨L5,K4,PL4⟩:=hcut
   have hsum:(start t).2.1.length+(start t).1.length≤2:=by unfold start;split <;> simp
   clear L2 K2 PL2 HG2
   generalize start t=s0 at *
   have hu2:(t :: r)[m - 1]?=some u:=by rw [← hl,← List.getLast?_eq_getElem?,List.getLast?_eq_some_getLast (by simp),hu]
   clear hu
   generalize t :: r=l at *
   go_wp2_with fail
   go_loopg [29] m (fun gk i wr=>∃ (k:Nat) (s:Sm),k≤m∧gk=m - k∧i=.int .i64 k∧s.2.1.length+s.1.length≤2+4 * k∧L (fun b=>b<w.heap.size∨b=w.heap.size) (w.heap.size+1) s.2.1 s.1 s.2.2 wr∧KP (fun b=>b<w.heap.size) w wr∧Hold w.heap.size #[.int .i64 0,.int .i64 0] 29 wr∧goM none l s0=goM (prevM l k) (l.drop k) s)
   case atStart=>exact ⟨0,s0,Nat.zero_le _,by omega,rfl,by omega,L5,K4,PL4,rfl⟩
   case round=>
    obtain ⟨k,s,hk,hgk,rfl,hsm,L6,K6,PL6,hgo⟩:=hrel
    clear L5 K4 PL4 hsum
    have HGO:=zz hgo
    clear hgo
    by_cases hlt:k<m
    ·have hkl:k<l.length:=by omega
     have hdr:=List.drop_eq_getElem_cons hkl
     have GK:Hold2 g (og+k * 5) l[k] wr:=by
      have h:=HGM.out k l[k] (by simp)
      exact Hold2.kp (P:=fun b=>b<w.heap.size) (w:=w) h K6 hg
     obtain ⟨x,hx⟩:∃ x,x=l[k]:=⟨_,rfl⟩
     rw [← hx] at GK hdr
     have L7:=L6.new (.cells #[.int .i64 x.kd,.string (S x.tx),.int .i64 x.nu,.int .i64 x.ln,.int .i64 x.co] 51)
     have K7:=K6.trans (KP.alloc wr (.cells #[.int .i64 x.kd,.string (S x.tx),.int .i64 x.nu,.int .i64 x.ln,.int .i64 x.co] 51) (fun b hb=>L6.lt b (.inl hb)))
     have T7:=TB.new wr x
     have PL7:=PL6.alloc (.cells #[.int .i64 x.kd,.string (S x.tx),.int .i64 x.nu,.int .i64 x.ln,.int .i64 x.co] 51)
     have hq2:w.heap.size<wr.heap.size:=PL6.lt
     have HB6:Hid (∀ v,(wr.alloc (.cells #[.int .i64 x.kd,.string (S x.tx),.int .i64 x.nu,.int .i64 x.ln,.int .i64 x.co] 51)).cell? ⟨w.heap.size+1,2,none⟩=some v→v=.bool s.2.2):=by
      intro v hv
      obtain ⟨_,_,_,_,hS⟩:=L7
      have:(wr.alloc (.cells #[.int .i64 x.kd,.string (S x.tx),.int .i64 x.nu,.int .i64 x.ln,.int .i64 x.co] 51)).cell? ⟨w.heap.size+1,2,none⟩=some (.bool s.2.2):=hS.hold.cell 2
      rw [this] at hv;cases hv;rfl
     obtain ⟨n0,n1,n2,n3,n4⟩:=GK
     obtain ⟨st,o,f⟩:=s
     simp only at L6 L7 hsm HB6
     have HST:Hid (goM none l s0=match stepM (over (prevM l k) x) x (l.drop (k+1)) (st,o,f) with | none=>.error x | some s'=>goM (some x) (l.drop (k+1)) s'):=by
      show goM none l s0=_
      rw [HGO.out,hdr];rfl
     have hpx:prevM l (k+1)=some x:=by show l[k]?=some x;rw [hx];simp
     clear HGO hdr hx
     generalize hbb:over (prevM l k) x=bb at *
     have bf:(wr.alloc (.cells #[.int .i64 x.kd,.string (S x.tx),.int .i64 x.nu,.int .i64 x.ln,.int .i64 x.co] 51)).cell? ⟨w.heap.size+1,2,none⟩=some (.bool f):=by
      obtain ⟨_,_,_,_,hS⟩:=L7
      exact hS.hold.cell 2
     have x3:(wr.alloc (.cells #[.int .i64 x.kd,.string (S x.tx),.int .i64 x.nu,.int .i64 x.ln,.int .i64 x.co] 51)).cell? ⟨wr.heap.size,3,none⟩=some (.int .i64 x.ln):=Hold.cell T7 3
     clear HB6
     go_upto_region 9 with fail
     go_cut [6,7,29,51] (fun s6 s7 s29 s51 wx=>s6=.int .i64 k∧s7=.pointer (some ⟨wr.heap.size,0,none⟩)∧s29=.int .i64 k∧s51=.bool (bb && !f)∧L (fun b=>(b<w.heap.size∨b=w.heap.size)∨b=wr.heap.size) (w.heap.size+1) o st f wx∧KP (fun b=>b<w.heap.size) w wx∧Hold w.heap.size #[.int .i64 0,.int .i64 0] 29 wx∧TB wr.heap.size x wx)
     case first=>
      have L8:=L7.drew
      have K8:=K7.drew
      clear L7 K7 L6 K6
      by_cases hk0:0<k
      ·obtain ⟨y,hy⟩:∃ y,l[k - 1]?=some y:=⟨_,List.getElem?_eq_getElem (by omega)⟩
       have hb0:bb=decide (y.ln<x.ln):=by
        rw [← hbb]
        obtain ⟨j,rfl⟩:∃ j,k=j+1:=⟨k - 1,by omega⟩
        show over (l[j]?) x=_
        rw [Nat.add_sub_cancel] at hy;rw [hy];rfl
       have y3:(wr.alloc (.cells #[.int .i64 x.kd,.string (S x.tx),.int .i64 x.nu,.int .i64 x.ln,.int .i64 x.co] 51)).cell? ⟨g,og+(k - 1) * 5+3,none⟩=some (.int .i64 y.ln):=(World.cell?_of_block (K8.block g hg)).trans (HGM.out (k - 1) y hy).2.2.2.1
       clear hy
       cases f
       ·by_cases hyx:y.ln<x.ln
        ·have hb1:bb=true:=by rw [hb0];exact decide_eq_true hyx
         subst hb1
         clear hb0 hbb
         go_region
         all_goals (go_wp2_with fail;go_meet;case rel=>exact ⟨rfl,rfl,rfl,rfl,L8,K8,PL7,T7⟩)
        ·have hb1:bb=false:=by rw [hb0];exact decide_eq_false hyx
         subst hb1
         clear hb0 hbb
         go_region
         all_goals (go_wp2_with fail;go_meet;case rel=>exact ⟨rfl,rfl,rfl,rfl,L8,K8,PL7,T7⟩)
       ·clear hb0 hbb
        go_region
        all_goals (go_wp2_with fail;go_meet;case rel=>exact ⟨rfl,rfl,rfl,by simp,L8,K8,PL7,T7⟩)
      ·have hb0:bb=false:=by
        rw [← hbb]
        obtain rfl:k=0:=by omega
        rfl
       subst hb0
       clear hbb
       go_region
       all_goals (go_wp2_with fail;go_meet;case rel=>exact ⟨rfl,rfl,rfl,rfl,L8,K8,PL7,T7⟩)
     case rest=>
      obtain ⟨rfl,rfl,rfl,rfl,L8,K8,PL8,T8⟩:=hcut
      clear L6 L7 K6 K7 PL6 PL7 T7 n0 n1 n2 n3 n4 bf x3
      have hq3:=L8.lt _ (.inr rfl)
      generalize hq:wr.heap.size=q at *
      obtain ⟨r1,hr1⟩:∃ r1,r1=(if (bb && !f)=true then lineM x st o else (st,o)):=⟨_,rfl⟩
      have hr1s:r1.2.length+r1.1.length≤o.length+st.length+1:=by
       rw [hr1];split
       ·exact lineM_sum x st o
       ·simp only;omega
      have LW:=zz (fun w' h=>line_any (fun b=>(b<w.heap.size∨b=w.heap.size)∨b=q) (w.heap.size+1) x o st f w' h (by omega))
      unfold tv at LW
      have C8:=T8.cells
      obtain ⟨c0,c1,c2,c3,c4⟩:=C8
      go_upto_if 51 with fail
      go_cut [6,7,29] (fun s6 s7 s29 wx=>s6=.int .i64 k∧s7=.pointer (some ⟨q,0,none⟩)∧s29=.int .i64 k∧L (fun b=>(b<w.heap.size∨b=w.heap.size)∨b=q) (w.heap.size+1) r1.2 r1.1 f wx∧KP (fun b=>b<w.heap.size) w wx∧Hold w.heap.size #[.int .i64 0,.int .i64 0] 29 wx∧TB q x wx)
      case first=>
       cases hbf:(bb && !f)
       ·rw [hbf,if_neg (by decide)] at hr1
        go_wp2_with fail
        go_meet
        case rel=>rw [hr1];exact ⟨rfl,rfl,rfl,L8,K8,PL8,T8⟩
       ·rw [hbf,if_pos rfl] at hr1
        go_wp2_with fail
        have LW2:=LW.out _ L8
        clear LW
        refine LW2.mono ?_
        rintro e w9 ⟨rfl,L9,K9⟩
        go_wp2_with fail
        go_meet
        case rel=>rw [hr1];exact ⟨rfl,rfl,rfl,L9,K8.trans (K9.mono fun b hb=>.inl (.inl hb)),(K9.block _ (.inl (.inr rfl))).trans PL8,(K9.block _ (.inr rfl)).trans T8⟩
      case rest=>
       obtain ⟨rfl,rfl,rfl,L9,K9,PL9,T9⟩:=hcut
       have hmid:mid bb x (st,o,f)=if closesK x then fitM x r1.1 r1.2 else some r1:=by rw [hr1];rfl
       clear L8 K8 PL8 T8 LW c0 c1 c2 c3 c4 hr1
       have HN:Hid (mid bb x (st,o,f)=none→goM none l s0=.error x):=by
        intro h;rw [HST.out];unfold stepM;rw [h]
       have HS:Hid (∀ r2,mid bb x (st,o,f)=some r2→goM none l s0=goM (some x) (l.drop (k+1)) (behM x (l.drop (k+1)) r2.1 (r2.2 ++ [x]) false)):=by
        intro r2 h;rw [HST.out];unfold stepM;rw [h]
       have HSM:Hid (∀ r2,mid bb x (st,o,f)=some r2→r2.2.length+r2.1.length≤o.length+st.length+1):=by
        intro r2 h;exact mid_sum h
       generalize mid bb x (st,o,f)=md at *
       obtain ⟨st1,o1⟩:=r1
       simp only at hr1s hmid L9
       clear HST
       obtain ⟨pa,ca,po,co,hLS⟩:=L9
       have b2:wc.cell? ⟨w.heap.size+1,2,none⟩=some (.bool f):=hLS.hold.cell 2
       have b3:=hLS.hold.frozen 2
       have L10:=(hLS.fresh false).1
       have K10:=K9.trans ((hLS.fresh false).2.mono fun b hb=>.inl (.inl hb))
       have hqB:q≠w.heap.size+1:=(hLS.apart q (.inr rfl)).2.1
       have T10:TB q x (wc.setCell ⟨w.heap.size+1,2,none⟩ (.bool false)):=Hold.other T9 hqB 2 _
       have PL10:Hold w.heap.size #[.int .i64 0,.int .i64 0] 29 (wc.setCell ⟨w.heap.size+1,2,none⟩ (.bool false)):=Hold.other PL9 (by omega) 2 _
       clear hLS K9 T9 PL9
       have CL:=zz (fun w=>closes_any x w)
       have FT:=zz (fun w' h=>fit_any (fun b=>(b<w.heap.size∨b=w.heap.size)∨b=q) (w.heap.size+1) x o1 st1 false w' h (by omega))
       unfold tv at CL FT
       obtain ⟨c0,c1,c2,c3,c4⟩:=T10.cells
       go_upto_region 12 with fail
       generalize wc.setCell ⟨w.heap.size+1,2,none⟩ (.bool false)=wd at *
       go_cut [6,7,29,61] (fun s6 s7 s29 s61 wx=>s6=.int .i64 k∧s7=.pointer (some ⟨q,0,none⟩)∧s29=.int .i64 k∧KP (fun b=>b<w.heap.size) w wx∧Hold w.heap.size #[.int .i64 0,.int .i64 0] 29 wx∧TB q x wx∧((md=none∧s61=.bool true)∨∃ r2,md=some r2∧s61=.bool false∧L (fun b=>(b<w.heap.size∨b=w.heap.size)∨b=q) (w.heap.size+1) r2.2 r2.1 false wx))
       case first=>
        cases hcl:closesK x
        ·rw [hcl] at CL hmid
         rw [if_neg (by decide)] at hmid
         have HMD:=zz hmid
         clear hmid
         go_wp2_with fail
         have CL2:=CL.out wd
         refine CL2.mono ?_
         rintro e w12 ⟨rfl,b12⟩
         go_wp2_with fail
         go_meet
         case rel=>exact ⟨rfl,rfl,rfl,K10.trans (KP.of_below b12 fun b hb=>L10.lt b (.inl (.inl hb))),PL10.below b12 PL10.lt,TB.below T10 b12 (Hold.lt T10),.inr ⟨_,HMD.out,rfl,L10.below b12⟩⟩
        ·rw [hcl] at CL hmid
         rw [if_pos rfl] at hmid
         have HMD:=zz hmid
         clear hmid
         go_wp2_with fail
         have CL2:=CL.out wd
         refine CL2.mono ?_
         rintro e w12 ⟨rfl,b12⟩
         have L12:=L10.below b12
         have T12:=TB.below T10 b12 (Hold.lt T10)
         have K12:=K10.trans (KP.of_below b12 fun b hb=>L10.lt b (.inl (.inl hb)))
         have PL12:=PL10.below b12 PL10.lt
         obtain ⟨e0,e1,e2,e3,e4⟩:=T12.cells
         have FT2:=zz (FT.out w12 L12)
         clear c0 c1 c2 c3 c4 CL CL2 b12 L10 K10 PL10 T10 FT
         go_wp2_with fail
         refine FT2.out.mono ?_
         rintro e w13 (⟨r2,hr2,rfl,L13,K13⟩ | ⟨hr2,rfl,K13⟩)
         ·have HMD2:=zz (HMD.out.trans hr2)
          clear HMD hr2
          go_wp2_with fail
          go_meet
          case rel=>exact ⟨rfl,rfl,rfl,K12.trans (K13.mono fun b hb=>.inl (.inl hb)),(K13.block _ (.inl (.inr rfl))).trans PL12,(K13.block _ (.inr rfl)).trans T12,.inr ⟨_,HMD2.out,rfl,L13⟩⟩
         ·have HMD2:=zz (HMD.out.trans hr2)
          clear HMD hr2
          go_wp2_with fail
          go_meet
          case rel=>exact ⟨rfl,rfl,rfl,K12.trans (K13.mono fun b hb=>.inl (.inl hb)),(K13.block _ (.inl (.inr rfl))).trans PL12,(K13.block _ (.inr rfl)).trans T12,.inl ⟨HMD2.out,rfl⟩⟩
       case rest=>
        obtain ⟨rfl,rfl,rfl,K13,PL13,T13,hcase⟩:=hcut
        clear L10 K10 PL10 T10 CL FT c0 c1 c2 c3 c4 hmid
        obtain ⟨c0,c1,c2,c3,c4⟩:=T13.cells
        rcases hcase with ⟨hmd,rfl⟩ | ⟨r2,hmd,rfl,L13⟩
        ·have hR:R=([],(x.ln,x.co),30):=by rw [HLM.out,HN.out hmd];rfl
         have HR:=zz hR
         have p0:wc.cell? ⟨w.heap.size,0,none⟩=some (.int .i64 0):=PL13.cell 0
         have p1:wc.cell? ⟨w.heap.size,1,none⟩=some (.int .i64 0):=PL13.cell 1
         have WR:=zz (wrong_any x wc)
         unfold tv at WR
         clear HLM HN HS HSM hmd hR
         go_wp2_with fail
         refine WR.out.mono ?_
         rintro e w14 ⟨rfl,b14⟩
         have PL14:=PL13.below b14 PL13.lt
         have p0':w14.cell? ⟨w.heap.size,0,none⟩=some (.int .i64 0):=PL14.cell 0
         have p1':w14.cell? ⟨w.heap.size,1,none⟩=some (.int .i64 0):=PL14.cell 1
         have f0':=PL14.frozen 0
         have f1':=PL14.frozen 1
         clear p0 p1
         go_wp2_with fail
         have B14:Below w.heap.size w w14:=(K13.below fun b hb=>hb).trans (b14.mono (K13.size))
         exact bodyPost_ret (v:=.tuple #[.slice none 0 0,.agg #[.int .i64 x.ln,.int .i64 x.co],.int .i64 30]) (by simp only [results,Tryz.results20];go_simp) rfl ⟨none,0,by rw [HR.out];rfl,by rw [HR.out];exact .inl rfl,(B14.setCell (by simp) _).setCell (by simp) _⟩
        ·have HGO2:=zz (HS.out r2 hmd)
         have hsm2:=HSM.out r2 hmd
         clear HN HS HSM hmd
         obtain ⟨st2,o2⟩:=r2
         simp only at L13 hsm2 HGO2
         obtain ⟨pa,ca,po,co,hLS⟩:=L13
         obtain ⟨i0,hi,hz0,hz1,hz2⟩:=info_parts info32
         have b0':wc.cell? ⟨w.heap.size+1,0,none⟩=some (.slice pa o2.length ca):=hLS.hold.cell 0
         have f0':=hLS.hold.frozen 0
         have hH1:=hLS.hold
         have hT1:=hLS.told
         have nB:(Value.slice pa o2.length ca).ownBlock≠some (w.heap.size+1):=Ne.symm (row_ne hH1 hT1 (by decide))
         have HLS:=zz hLS
         have HX:=zz (fun ops rest o' a Q hgd s x' ho hs hx=>@wpList_append_lies Tryz.prog (wc.alloc (.cells #[.int .i64 x.kd,.string (S x.tx),.int .i64 x.nu,.int .i64 x.ln,.int .i64 x.co] 51)) ops rest o' a Q hgd s x' 22 ho 0 51 i0 _ 5 48 Tryz.underlying22 hi hz0 hz1 hz2 rfl (by omega) (.slice pa o2.length ca) o2.length (tcs o2) hs (hT1.alloc _) ⟨wc.heap.size,0,none⟩ 1 1 [.int .i64 x.kd,.string (S x.tx),.int .i64 x.nu,.int .i64 x.ln,.int .i64 x.co] hx rfl (cell_five_new wc (.int .i64 x.kd) (.string (S x.tx)) (.int .i64 x.nu) (.int .i64 x.ln) (.int .i64 x.co) 51) (by simp [Value.oneCell']) (by omega) (by unfold maxLen;omega) (by omega) (by simp) (wc.heap.size+1) (by simp))
         have HBF:Hid (∀ w2:World,(wc.alloc (.cells #[.int .i64 x.kd,.string (S x.tx),.int .i64 x.nu,.int .i64 x.ln,.int .i64 x.co] 51)).grownBy w2 (Value.slice pa o2.length ca).ownBlock→Hold (w.heap.size+1) #[.slice pa o2.length ca,.slice po st2.length co,.bool false] 89 w2):=fun w2 hgrow=>(hgrow.block _ (Hold.lt (hH1.alloc _)) (Ne.symm nB)).trans (hH1.alloc _)
         have HNX:Hid (∀ (W2:World) (gg cap:Nat),W2.ownsRow 0 51 5 (.slice (some ⟨gg,0,none⟩) (o2.length+1) cap) (o2.length+1) (tcs o2 ++ tc x)→(wc.alloc (.cells #[.int .i64 x.kd,.string (S x.tx),.int .i64 x.nu,.int .i64 x.ln,.int .i64 x.co] 51)).grownBy W2 (Value.slice pa o2.length ca).ownBlock→((Value.slice pa o2.length ca).ownBlock=some gg∨gg=wc.heap.size+1)→L (fun b=>(b<w.heap.size∨b=w.heap.size)∨b=q) (w.heap.size+1) (o2 ++ [x]) st2 false (W2.setCell ⟨w.heap.size+1,0,none⟩ (.slice (some ⟨gg,0,none⟩) (o2.length+1) cap))∧KP (fun b=>(b<w.heap.size∨b=w.heap.size)∨b=q) wc (W2.setCell ⟨w.heap.size+1,0,none⟩ (.slice (some ⟨gg,0,none⟩) (o2.length+1) cap))):=by
          intro W2 gg cap h1 h2 h3
          exact HLS.out.put ((Below.refl _ wc).alloc (Nat.le_refl _) _) x h1 h2 h3 (by omega)
         clear hH1 hT1
         have hml:(l.drop (k+1)).length=m - (k+1):=by rw [List.length_drop,hl]
         have hcc:c=k+1→l.drop (k+1)=[]:=fun h=>List.drop_eq_nil_of_le (by omega)
         have HTM:Hid (∀ W:World,KP (fun b=>b<w.heap.size) w W→TMem W (some ⟨g,og+(k+1) * 5,none⟩) (l.drop (k+1))):=by
          intro W hW
          refine .inr ⟨g,og+(k+1) * 5,rfl,Nat.lt_of_lt_of_le hg hW.size,fun i t' ht=>?_⟩
          have hc2:∀ y,W.cell? ⟨g,y,none⟩=w.cell? ⟨g,y,none⟩:=fun y=>World.cell?_of_block (hW.block g hg)
          have:=HGM.out (k+1+i) t' (by rw [← List.getElem?_drop];exact ht)
          rw [hc2,hc2,hc2,hc2,hc2,show og+(k+1) * 5+i * 5=og+(k+1+i) * 5 by omega]
          exact this
         have BH:=zz (fun p cp w' h hM hp=>behind_any (fun b=>(b<w.heap.size∨b=w.heap.size)∨b=q) (w.heap.size+1) x (l.drop (k+1)) p (m - (k+1)) cp (o2 ++ [x]) st2 false w' h (by simp;omega) hml (by omega) hM hp)
         have hbs:=behM_sum x (l.drop (k+1)) st2 (o2 ++ [x]) false
         unfold tv at BH
         generalize behM x (l.drop (k+1)) st2 (o2 ++ [x]) false=s2 at *
         simp only [List.length_append,List.length_singleton] at hbs
         have hpv:prevM l (k+1)=some x:=hpx
         go_wp2_with (at_builtin;have HY:=HX.out;refine HY _ _ _ _ _ rfl _ _ rfl rfl rfl ?_;clear HY;intro gg cap W2 hown1 hgrow hat hlt2;have HB2:=HBF.out _ hgrow;have d0:W2.cell? ⟨w.heap.size+1,0,none⟩=some (.slice pa o2.length ca):=HB2.cell 0;have d1:=HB2.frozen 0;have HN2:=zz (HNX.out W2 gg cap hown1 hgrow hat);clear HB2 hown1 hgrow)
         clear HX HBF HNX d0 d1 b0' f0'
         generalize W2.setCell ⟨w.heap.size+1,0,none⟩ (.slice (some ⟨gg,0,none⟩) (o2.length+1) cap)=W3 at *
         obtain ⟨L14,K14⟩:=HN2.out
         have T14:TB q x W3:=(K14.block _ (.inr rfl)).trans T13
         have PL14:Hold w.heap.size #[.int .i64 0,.int .i64 0] 29 W3:=(K14.block _ (.inl (.inr rfl))).trans PL13
         have K15:=K13.trans (K14.mono fun b hb=>.inl (.inl hb))
         clear HN2 K14 K13 T13 PL13 c0 c1 c2 c3 c4 HLS
         obtain ⟨c0,c1,c2,c3,c4⟩:=T14.cells
         have hk1:(k:Int)+1≤(m:Int):=by omega
         have hk2:(m:Int)≤(c:Int):=by omega
         have hk3:k+1≤m:=by omega
         have hwr:IntKind.i64.wrap ((k:Int)+1)=(k:Int)+1:=wrap_i (by omega) (by omega)
         have hk4:(0:Int)≤(k:Int)+1:=by omega
         have hk5:((k:Int)+1).toNat=k+1:=by omega
         by_cases hck:c=k+1
         ·have hnil:=zz (hcc hck)
          clear hcc HTM
          have BHB:=zz (fun w' h=>BH.out (some ⟨g,og,none⟩) (c - (k+1)) w' h (by rw [hnil.out];exact .inl rfl) (fun b o h=>by cases h;exact .inl (.inl hg)))
          have hif:∀ a b:Option Addr,(if c=k+1 then a else b)=a:=fun a b=>if_pos hck
          clear BH hnil hck
          go_region_held3 (fun w'=>w'.cell? ⟨q,0,none⟩=some (.int .i64 x.kd)∧w'.cell? ⟨q,1,none⟩=some (.string (S x.tx))∧w'.cell? ⟨q,2,none⟩=some (.int .i64 x.nu)∧w'.cell? ⟨q,3,none⟩=some (.int .i64 x.ln)∧w'.cell? ⟨q,4,none⟩=some (.int .i64 x.co)) (first | go_keep | (exact TB.cells (show TB q x W4 from (K16.block _ (Or.inr rfl)).trans T14)))
           (first | (go_at_call 51;refine (BHB.out _ L14.drew).mono ?_;rintro e W4 ⟨rfl,L16,K16⟩))
          go_wp2_with fail
          go_roundg (m - (k+1))
          case measure=>omega
          case rel=>exact ⟨k+1,s2,by omega,rfl,by go_num,by omega,L16.weak fun b hb=>.inl hb,K15.drew.trans (K16.mono fun b hb=>.inl (.inl hb)),(K16.block _ (.inl (.inr rfl))).trans PL14,by rw [hpv];exact HGO2.out⟩
         ·have BHA:=zz (fun w' h hM=>BH.out (some ⟨g,og+(k+1) * 5,none⟩) (c - (k+1)) w' h hM (fun b o h=>by cases h;exact .inl (.inl hg)))
          clear BH
          go_region_held3 (fun w'=>w'.cell? ⟨q,0,none⟩=some (.int .i64 x.kd)∧w'.cell? ⟨q,1,none⟩=some (.string (S x.tx))∧w'.cell? ⟨q,2,none⟩=some (.int .i64 x.nu)∧w'.cell? ⟨q,3,none⟩=some (.int .i64 x.ln)∧w'.cell? ⟨q,4,none⟩=some (.int .i64 x.co)) (first | go_keep | (exact TB.cells (show TB q x W4 from (K16.block _ (Or.inr rfl)).trans T14)))
           (first | (go_at_call 51;refine (BHA.out _ L14.drew (HTM.out _ K15.drew)).mono ?_;rintro e W4 ⟨rfl,L16,K16⟩))
          go_wp2_with fail
          go_roundg (m - (k+1))
          case measure=>omega
          case rel=>exact ⟨k+1,s2,by omega,rfl,by go_num,by omega,L16.weak fun b hb=>.inl hb,K15.drew.trans (K16.mono fun b hb=>.inl (.inl hb)),(K16.block _ (.inl (.inr rfl))).trans PL14,by rw [hpv];exact HGO2.out⟩
    ·have hkm:k=m:=by omega
     have hgo2:goM none l s0=.ok s:=by rw [HGO.out,List.drop_eq_nil_of_le (by omega)];rfl
     have HR:Hid (R=finM u s):=by show R=_;rw [HLM.out,hgo2];rfl
     clear HGO hgo2 HLM
     have GK:Hold2 g (og+(m - 1) * 5) u wr:=by
      have h:=HGM.out (m - 1) u hu2
      exact Hold2.kp (P:=fun b=>b<w.heap.size) (w:=w) h K6 hg
     have L7:=L6.new (.cells #[.int .i64 u.kd,.string (S u.tx),.int .i64 u.nu,.int .i64 u.ln,.int .i64 u.co] 51)
     have K7:=K6.trans (KP.alloc wr (.cells #[.int .i64 u.kd,.string (S u.tx),.int .i64 u.nu,.int .i64 u.ln,.int .i64 u.co] 51) (fun b hb=>L6.lt b (.inl hb)))
     have T7:=TB.new wr u
     have PL7:=PL6.alloc (.cells #[.int .i64 u.kd,.string (S u.tx),.int .i64 u.nu,.int .i64 u.ln,.int .i64 u.co] 51)
     obtain ⟨n0,n1,n2,n3,n4⟩:=GK
     obtain ⟨st,o,f⟩:=s
     simp only at L6 L7 hsm
     have EA:=zz (endAll_any (fun b=>(b<w.heap.size∨b=w.heap.size)∨b=wr.heap.size) (w.heap.size+1) u o st f _ L7 (by omega))
     unfold tv at EA
     have HFM:Hid (finM u (st,o,f)=match (endM every u st o).1 with | []=>((endM every u st o).2,(0,0),0) | _ :: _=>([],(u.ln,u.co),30)):=rfl
     generalize finM u (st,o,f)=fm at *
     generalize endM every u st o=en at *
     obtain ⟨st2,o2⟩:=en
     simp only at EA HFM
     generalize hq:wr.heap.size=q at *
     go_wp2_with fail
     refine EA.out.mono ?_
     rintro e w8 ⟨rfl,L8,K8⟩
     have K9:=K7.trans (K8.mono fun b hb=>.inl (.inl hb))
     have PL9:Hold w.heap.size #[.int .i64 0,.int .i64 0] 29 w8:=(K8.block _ (.inl (.inr rfl))).trans PL7
     have T9:TB q u w8:=(K8.block _ (.inr rfl)).trans T7
     have B9:Below w.heap.size w w8:=K9.below fun b hb=>hb
     clear L7 K7 K8 T7 PL7 L6 K6 PL6 n0 n1 n2 n3 n4 EA
     obtain ⟨pa,ca,po,co,hLS⟩:=L8
     have b0:w8.cell? ⟨w.heap.size+1,0,none⟩=some (.slice pa o2.length ca):=hLS.hold.cell 0
     have b1:w8.cell? ⟨w.heap.size+1,1,none⟩=some (.slice po st2.length co):=hLS.hold.cell 1
     have p0:w8.cell? ⟨w.heap.size,0,none⟩=some (.int .i64 0):=PL9.cell 0
     have p1:w8.cell? ⟨w.heap.size,1,none⟩=some (.int .i64 0):=PL9.cell 1
     have f0:=PL9.frozen 0
     have f1:=PL9.frozen 1
     obtain ⟨c0,c1,c2,c3,c4⟩:=T9.cells
     have TM:=row_tmem hLS.told
     have hpa:∀ b o',pa=some ⟨b,o',none⟩→b≠w.heap.size:=by
      intro b o' h e
      have:=(hLS.apart w.heap.size (.inl (.inr rfl))).2.2.1
      rw [h,e] at this;exact this rfl
     cases st2 with
     | nil=>
      have hR:R=(o2,(0,0),0):=by rw [HR.out,HFM.out]
      have HR2:=zz hR
      simp only [List.length_nil] at b1
      clear HR HFM hR hLS
      go_wp2_with fail
      have TM2:TMem ((w8.setCell ⟨w.heap.size,0,none⟩ (.int .i64 0)).setCell ⟨w.heap.size,1,none⟩ (.int .i64 0)) pa o2:=TM.1.kp (P:=fun b=>b≠w.heap.size) ((KP.setCell _ _ _ _ (fun h=>h rfl)).trans (KP.setCell _ _ _ _ (fun h=>h rfl))) hpa
      exact bodyPost_ret (v:=.tuple #[.slice pa o2.length ca,.agg #[.int .i64 0,.int .i64 0],.int .i64 0]) (by simp only [results,Tryz.results20];go_simp) rfl ⟨pa,ca,by rw [HR2.out],by rw [HR2.out];exact TM2,(B9.setCell (by simp) _).setCell (by simp) _⟩
     | cons bk st3=>
      have hR:R=([],(u.ln,u.co),30):=by rw [HR.out,HFM.out]
      have HR2:=zz hR
      have WR:=zz (wrong_any u w8)
      unfold tv at WR
      simp only [List.length_cons] at b1
      clear HR HFM hR hLS
      go_wp2_with fail
      refine WR.out.mono ?_
      rintro e w14 ⟨rfl,b14⟩
      have PL14:=PL9.below b14 PL9.lt
      have p0':w14.cell? ⟨w.heap.size,0,none⟩=some (.int .i64 0):=PL14.cell 0
      have p1':w14.cell? ⟨w.heap.size,1,none⟩=some (.int .i64 0):=PL14.cell 1
      have f0':=PL14.frozen 0
      have f1':=PL14.frozen 1
      clear p0 p1
      go_wp2_with fail
      have B14:Below w.heap.size w w14:=B9.trans (b14.mono B9.size)
      exact bodyPost_ret (v:=.tuple #[.slice none 0 0,.agg #[.int .i64 u.ln,.int .i64 u.co],.int .i64 30]) (by simp only [results,Tryz.results20];go_simp) rfl ⟨none,0,by rw [HR2.out];rfl,by rw [HR2.out];exact .inl rfl,(B14.setCell (by simp) _).setCell (by simp) _⟩
def plc (l:List UInt8):Int × Int:=(lexM l).2.getD (0,0)
def ern (l:List UInt8):Int:=if (lexM l).2.isSome then 20 else 0
theorem lex_told (p:Option Addr) (m c:Nat) (l:List UInt8) (w:World) (hl:l.length=m) (hm2:m≤2147483646) (hmc:m≤c) (hM:Mem w p l) (hp:p=none→c=0) (hg:Glob w) :
 Calls Tryz.prog 19 #[.slice p m c] w fun e W'=>∃ pa cp,e=.returned (.tuple #[.slice pa (lexM l).1.length cp,.agg #[.int .i64 (plc l).1,.int .i64 (plc l).2],.int .i64 (ern l)])∧TMem W' pa (lexM l).1∧(lexM l).1.length≤cp∧Below w.heap.size w W':=by
 refine (lex_any p m c l w hl hm2 hmc hM hp hg).mono ?_
 rintro e W' ⟨v,a,b,k,rfl,hrow,hcase,hB⟩
 obtain ⟨pa,cp,rfl⟩:=slice_of hrow
 obtain ⟨h1,h2⟩:=row_tmem hrow
 have hcp:(lexM l).1.length≤cp:=by
  rcases hrow.2 with ⟨hv,h0⟩ | ⟨g,cap,cur,hv,hb,hg,h1,_⟩
  ·rw [h0];exact Nat.zero_le _
  ·cases hv;exact h1
 refine ⟨pa,cp,?_,h1,hcp,hB⟩
 unfold plc ern
 rcases hcase with ⟨hn,rfl,rfl,rfl⟩ | ⟨hs,rfl⟩
 ·rw [hn];rfl
 ·rw [hs];rfl
end Go.Proofs.YtcnnlecjdkfdjaaGreatDoor.Ly
namespace Go.Proofs.YtcnnlecjdkfdjaaGreatDoor.Ly
theorem tk_nu {l:List UInt8} {x:Int × Int} (h:tk l=some x):0≤x.2∧x.2≤9223372036854775807:=by
 unfold tk at h
 split at h
 ·split at h
  ·rename_i hb
   cases h
   unfold big at hb
   exact ⟨by omega,by show ((nv l:Nat):Int)≤_;omega⟩
  ·cases h
 split at h
 ·cases h;exact ⟨by decide,by decide⟩
 split at h
 ·cases h;exact ⟨by decide,by decide⟩
 split at h
 ·cases h;exact ⟨by decide,by decide⟩
 ·cases h
def OkT (n:Nat) (t:Tok):Prop:=t.tx.length≤n∧0≤t.nu∧t.nu≤9223372036854775807
theorem rawL_ok (n:Int):∀ (f at_:Nat) (l:List UInt8),∀ t ∈ (rawL n f at_ l).1,OkT l.length t:=by
 intro f
 induction f with
 | zero=>intro at_ l t ht;cases ht
 | succ f ih=>
  intro at_ l t ht
  unfold rawL at ht
  have hs:=sk_le l
  cases hk:sk l with
  | nil=>rw [hk] at ht;cases ht
  | cons c r=>
   rw [hk] at ht hs
   simp only at ht
   cases hx:tk ((c :: r).take (tl (c :: r))) with
   | none=>rw [hx] at ht;cases ht
   | some x=>
    rw [hx] at ht
    simp only at ht
    rcases List.mem_cons.1 ht with rfl | ht
    ·refine ⟨?_,tk_nu hx⟩
     show ((c :: r).take (tl (c :: r))).length≤l.length
     rw [List.length_take]
     omega
    ·have:=ih _ _ t ht
     refine ⟨?_,this.2⟩
     have h2:=this.1
     rw [List.length_drop] at h2
     omega
theorem spl_le:∀ (l:List UInt8),∀ x ∈ spl l,x.length≤l.length:=by
 intro l
 induction l with
 | nil=>intro x hx;simp [spl] at hx;subst hx;simp
 | cons c r ih=>
  intro x hx
  unfold spl at hx
  split at hx
  ·rcases List.mem_cons.1 hx with rfl | hx
   ·simp
   ·have:=ih x hx;simp only [List.length_cons];omega
  ·cases hs:spl r with
   | nil=>
    rw [hs] at hx
    simp at hx
    subst hx
    simp
   | cons h t=>
    rw [hs] at hx
    rcases List.mem_cons.1 hx with rfl | hx
    ·have:=ih h (by rw [hs];simp)
     simp only [List.length_cons];omega
    ·have:=ih x (by rw [hs];simp [hx])
     simp only [List.length_cons];omega
theorem num_mem:∀ (ls:List (List UInt8)) (n:Int),∀ x ∈ num n ls,x.2 ∈ ls:=by
 intro ls
 induction ls with
 | nil=>intro n x hx;cases hx
 | cons a r ih=>
  intro n x hx
  unfold num at hx
  rcases List.mem_cons.1 hx with rfl | hx
  ·simp
  ·exact List.mem_cons_of_mem _ (ih _ x hx)
theorem rawLs_ok (m:Nat):∀ (ls:List (Int × List UInt8)),(∀ x ∈ ls,x.2.length≤m)→∀ t ∈ (rawLs ls).1,OkT m t:=by
 intro ls
 induction ls with
 | nil=>intro _ t ht;cases ht
 | cons a r ih=>
  intro hl t ht
  have hr:∀ t ∈ (raw a.1 0 a.2).1,OkT m t:=fun t ht=>by
   have:=rawL_ok a.1 _ 0 a.2 t ht
   exact ⟨Nat.le_trans this.1 (hl a (by simp)),this.2⟩
  unfold rawLs at ht
  cases he:(raw a.1 0 a.2).2 with
  | some e=>rw [he] at ht;exact hr t ht
  | none=>
   rw [he] at ht
   simp only at ht
   rcases List.mem_append.1 ht with ht | ht
   ·exact hr t ht
   ·exact ih (fun x hx=>hl x (by simp [hx])) t ht
theorem lex_ok (l:List UInt8):∀ t ∈ (lexM l).1,OkT l.length t:=by
 intro t ht
 have h:=rawLs_ok l.length (num 1 (spl l)) (fun x hx=>spl_le l _ (num_mem _ _ x hx))
 unfold lexM cap at ht
 split at ht
 ·cases ht
 ·split at ht
  ·cases ht
  ·exact h t ht
theorem lex_len (l:List UInt8):(lexM l).1.length≤2000:=by
 unfold lexM cap
 split
 ·simp
 ·rename_i h
  split
  ·simp
  ·simp only
   rcases Nat.lt_or_ge 2000 (rawLs (num 1 (spl l))).1.length with h2 | h2
   ·rw [List.getElem?_eq_getElem h2] at h;cases h
   ·exact h2
section
variable {K:Tok→Prop} {t:Tok}
theorem endM_ok (may:Int→Bool) (ht:∀ c,K (pt1 c t)):∀ (st:List Blk) (o:List Tok),(∀ x ∈ o,K x)→∀ x ∈ (endM may t st o).2,K x:=by
 intro st
 induction st with
 | nil=>intro o ho;exact ho
 | cons b r ih=>
  intro o ho
  unfold endM
  split
  ·refine ih _ fun x hx=>?_
   rcases List.mem_append.1 hx with hx | hx
   ·exact ho x hx
   ·simp at hx;rw [hx];exact ht 125
  ·exact ho
theorem add_ok {o:List Tok} {y:Tok} (ho:∀ x ∈ o,K x) (hy:K y):∀ x ∈ o ++ [y],K x:=fun x hx=>by
 rcases List.mem_append.1 hx with hx | hx
 ·exact ho x hx
 ·simp at hx;rw [hx];exact hy
theorem lineM_ok (ht:∀ c,K (pt1 c t)) (st:List Blk) (o:List Tok) (ho:∀ x ∈ o,K x):∀ x ∈ (lineM t st o).2,K x:=by
 unfold lineM
 simp only
 have:=endM_ok (fun c=>decide (t.co<c)) ht st o ho
 split
 ·exact add_ok this (ht 59)
 ·exact this
theorem fitM_ok (ht:∀ c,K (pt1 c t)) (st:List Blk) (o:List Tok) (ho:∀ x ∈ o,K x) {r:List Blk × List Tok} (h:fitM t st o=some r):∀ x ∈ r.2,K x:=by
 unfold fitM popM at h
 split at h
 ·split at h
  ·cases h;exact endM_ok every ht st o ho
  ·cases h
 ·split at h
  ·cases h;exact ho
  ·cases h
theorem mid_ok (ht:∀ c,K (pt1 c t)) (nl:Bool) (s:Sm) (ho:∀ x ∈ s.2.1,K x) {r:List Blk × List Tok} (h:mid nl t s=some r):∀ x ∈ r.2,K x:=by
 unfold mid at h
 simp only at h
 have h1:∀ x ∈ (if nl && !s.2.2 then lineM t s.1 s.2.1 else (s.1,s.2.1)).2,K x:=by
  split
  ·exact lineM_ok ht _ _ ho
  ·exact ho
 split at h
 ·exact fitM_ok ht _ _ h1 h
 ·cases h;exact h1
theorem behM_ok (ht:∀ c,K (pt1 c t)) (rest:List Tok) (hr:∀ y ∈ rest,∀ c,K (pt1 c y)) (st:List Blk) (o:List Tok) (f:Bool) (ho:∀ x ∈ o,K x):∀ x ∈ (behM t rest st o f).2.1,K x:=by
 unfold behM
 split
 ·exact ho
 ·split
  ·unfold indM
   split
   ·exact add_ok (add_ok ho (ht 123)) (ht 125)
   ·rename_i n r
    split
    ·exact ho
    ·split
     ·exact add_ok ho (hr n (by simp) 123)
     ·exact add_ok (add_ok ho (ht 123)) (ht 125)
  ·exact ho
end
theorem goM_ok {K:Tok→Prop}:∀ (l:List Tok) (prev:Option Tok) (s s':Sm),(∀ t ∈ l,K t∧∀ c,K (pt1 c t))→(∀ x ∈ s.2.1,K x)→goM prev l s=.ok s'→∀ x ∈ s'.2.1,K x:=by
 intro l
 induction l with
 | nil=>intro prev s s' _ ho h;cases h;exact ho
 | cons t r ih=>
  intro prev s s' hl ho h
  have ht:=hl t (by simp)
  unfold goM at h
  cases hs:stepM (over prev t) t r s with
  | none=>rw [hs] at h;cases h
  | some s1=>
   rw [hs] at h
   refine ih (some t) s1 s' (fun y hy=>hl y (by simp [hy])) ?_ h
   unfold stepM at hs
   cases hm:mid (over prev t) t s with
   | none=>rw [hm] at hs;cases hs
   | some q=>
    rw [hm] at hs
    cases hs
    exact behM_ok ht.2 r (fun y hy=>(hl y (by simp [hy])).2) _ _ _ (add_ok (mid_ok ht.2 _ s ho hm) ht.1)
theorem lay_cons (t:Tok) (r:List Tok):layM (t :: r)=resM ((t :: r).getLast (by simp)) (goM none (t :: r) (start t)):=rfl
theorem lay_ok {K:Tok→Prop} (l:List Tok) (hl:∀ t ∈ l,K t∧∀ c,K (pt1 c t)):∀ x ∈ (layM l).1,K x:=by
 cases l with
 | nil=>intro x hx;cases hx
 | cons t r=>
  rw [lay_cons]
  have hst:∀ x ∈ (start t).2.1,K x:=by
   unfold start
   split
   ·intro x hx;cases hx
   ·intro x hx
    simp at hx
    rw [hx]
    exact (hl t (by simp)).2 123
  have hlast:=hl _ (List.getLast_mem (l:=t :: r) (by simp))
  generalize (t :: r).getLast (by simp)=u at *
  cases hg:goM none (t :: r) (start t) with
  | error e=>intro x hx;cases hx
  | ok s=>
   have h1:=goM_ok (t :: r) none (start t) s hl hst hg
   show ∀ x ∈ (finM u s).1,K x
   unfold finM
   split
   ·exact endM_ok every hlast.2 _ _ h1
   ·intro x hx;cases hx
theorem goM_len:∀ (l:List Tok) (prev:Option Tok) (s s':Sm),goM prev l s=.ok s'→s'.2.1.length+s'.1.length≤s.2.1.length+s.1.length+4 * l.length:=by
 intro l
 induction l with
 | nil=>intro prev s s' h;cases h;exact Nat.le_refl _
 | cons t r ih=>
  intro prev s s' h
  unfold goM at h
  cases hs:stepM (over prev t) t r s with
  | none=>rw [hs] at h;cases h
  | some s1=>
   rw [hs] at h
   have h1:=ih (some t) s1 s' h
   unfold stepM at hs
   cases hm:mid (over prev t) t s with
   | none=>rw [hm] at hs;cases hs
   | some q=>
    rw [hm] at hs
    cases hs
    have h2:=mid_sum hm
    have h3:=behM_sum t r q.1 (q.2 ++ [t]) false
    simp only [List.length_append,List.length_cons,List.length_nil] at h1 h3 ⊢
    omega
theorem lay_len (l:List Tok):(layM l).1.length≤4 * l.length+4:=by
 cases l with
 | nil=>simp [layM]
 | cons t r=>
  rw [lay_cons]
  generalize (t :: r).getLast (by simp)=u
  cases hg:goM none (t :: r) (start t) with
  | error e=>simp [resM]
  | ok s=>
   have h1:=goM_len (t :: r) none (start t) s hg
   have h2:(start t).2.1.length+(start t).1.length≤2:=by unfold start;split <;> simp
   show (finM u s).1.length≤_
   unfold finM
   split
   ·have h3:=endM_sum every u s.1 s.2.1
    simp only at h3 ⊢
    omega
   ·simp
end Go.Proofs.YtcnnlecjdkfdjaaGreatDoor.Ly
