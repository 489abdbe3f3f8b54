/-
  ParseWraps, for every list of tokens and every number of brackets: the law returns true, and its arguments read as they did. The condition: the listed variables of Go's library hold what its text lays (tied by the card).
-/
import Derived.Test.YtcnnlecjdkfdjaaGreatDoorWrapsMath
set_option linter.unusedVariables false
set_option linter.unusedSimpArgs false
set_option maxRecDepth 100000
set_option maxHeartbeats 8000000
namespace Go.Proofs.YtcnnlecjdkfdjaaGreatDoor
open Go.RowKit
theorem two_snd (w:World) (A B:Array Value) (t u:TypeId):Hold (w.heap.size+1) B u ((w.alloc (.cells A t)).alloc (.cells B u)):=by
 have:=Hold.new (w.alloc (.cells A t)) B u
 rwa [World.size_alloc] at this
theorem em_two {P:Nat→Prop} {w:World} {g:Nat} {e:Tr} {pn pk:Option Addr} {cn ck:Nat} (hP:P g) (hH:Hold g #[.int .i64 e.kd,.string (S e.nm),.int .i64 e.nu,.slice pn e.ns.length cn,.slice pk e.ks.length ck,.int .i64 e.kd,.string (S e.nm),.int .i64 e.nu,.slice pn e.ns.length cn,.slice pk e.ks.length ck] 27 w) (hE:TrIn P w e [.int .i64 e.kd,.string (S e.nm),.int .i64 e.nu,.slice pn e.ns.length cn,.slice pk e.ks.length ck]):EM P w (some ⟨g,0,none⟩) [e,e]:=by
 refine .inr ⟨g,0,rfl,hP,fun i t ht=>?_⟩
 match i,ht with
 | 0,ht=>
  cases ht
  refine ⟨_,rfl,fun j d hd=>?_,hE⟩
  rw [hH.cell]
  match j,hd with
  | 0,hd=>exact hd
  | 1,hd=>exact hd
  | 2,hd=>exact hd
  | 3,hd=>exact hd
  | 4,hd=>exact hd
  | j+5,hd=>cases hd
 | 1,ht=>
  cases ht
  refine ⟨_,rfl,fun j d hd=>?_,hE⟩
  rw [hH.cell]
  match j,hd with
  | 0,hd=>exact hd
  | 1,hd=>exact hd
  | 2,hd=>exact hd
  | 3,hd=>exact hd
  | 4,hd=>exact hd
  | j+5,hd=>cases hd
 | i+2,ht=>cases ht
theorem app_in {P:Nat→Prop} {w:World} {g:Nat} {e:Tr} (h:EM P w (some ⟨g,0,none⟩) [e,e]):TrIn P w (appT e) [.int .i64 5,.string ⟨#[]⟩,.int .i64 0,.slice none 0 0,.slice (some ⟨g,0,none⟩) 2 2]:=by
 rw [TrIn_iff]
 exact ⟨none,0,some ⟨g,0,none⟩,2,rfl,by show 0≤_;omega,by show _≤(0:Int)∧(0:Int)≤_;omega,⟨Nat.le_refl _,by show 0≤_;omega,fun _=>rfl⟩,⟨by show 2≤2;omega,by omega,fun h=>by cases h⟩,.inl rfl,h⟩
theorem exprV_tup (e:Tr):∃ (o:ByteArray) (n:Int),exprV e=.tuple #[.string o,.int .i64 n]:=by
 have hw:∀ s:St,∃ (o:ByteArray) (n:Int),wholeV s=.tuple #[.string o,.int .i64 n]:=fun s=>by
  rcases s with _ | ⟨o,t⟩
  ·exact ⟨_,_,rfl⟩
  ·exact ⟨_,_,rfl⟩
 unfold exprV
 split <;> exact hw _
theorem mass_app (e:Tr):mass (appT e)=1+(mass e+mass e):=by
 rw [mass_eq]
 show 1+0+(mass e+(mass e+0))=_
 omega
def G7 (B:Nat) (va:Value) (t u:Tk) (l:List Tk) (o1 o3 o6:Option Value) (w:World):Nat→Value→Prop
 | 0,v=>v=.agg (tkC t).toArray
 | 1,v=>o3=none→TR B w v [t]∧v.ownBlock≠va.ownBlock
 | 2,v=>v=va
 | 3,v=>o1≠none∧(o6=none→TR B w v (t :: l))
 | 4,v=>v=.agg (tkC u).toArray
 | 5,v=>o6=none→∃ g,v=.slice (some ⟨g,0,none⟩) 1 1∧B≤g∧Hold g (tkC u).toArray 51 w∧(o3=none→∀ x,o1=some x→x.ownBlock≠some g)∧∀ x,o3=some x→x.ownBlock≠some g
 | 6,v=>o3≠none∧TR B w v (t :: (l ++ [u]))
 | 7,v=>o6≠none∧TR B w v (t :: (l ++ [u]))
 | _,_=>True
theorem G7.grow {B:Nat} {va:Value} {t u:Tk} {l:List Tk} {o1 o3 o6:Option Value} {w w':World} (hb:Below w.heap.size w w') (i:Nat) (v:Value) (h:G7 B va t u l o1 o3 o6 w i v):G7 B va t u l o1 o3 o6 w' i v:=by
 unfold G7 at h ⊢
 split
 all_goals try simp only at h
 ·exact h
 ·exact fun e=>⟨(h e).1.below hb,(h e).2⟩
 ·exact h
 ·exact ⟨h.1,fun e=>(h.2 e).below hb⟩
 ·exact h
 ·intro e
  obtain ⟨g,h1,h2,h3,h4⟩:=h e
  exact ⟨g,h1,h2,h3.below hb h3.lt,h4⟩
 ·exact ⟨h.1,h.2.below hb⟩
 ·exact ⟨h.1,h.2.below hb⟩
 ·trivial
structure F7 (B:Nat) (W:World) (va:Value) (t u:Tk) (l:List Tk) (val:Nat→Option Value) (w:World):Prop where
 bel:Below B W w
 size:B≤w.heap.size
 row:val 3=none→TR B w va l
 ord:val 7≠none→val 2≠none
 all:∀ i v,val i=some v→G7 B va t u l (val 1) (val 3) (val 6) w i v
theorem F7.go {B:Nat} {W:World} {va:Value} {t u:Tk} {l:List Tk} {val:Nat→Option Value} {w w':World} (h:F7 B W va t u l val w) (hb:Below w.heap.size w w') (i:Nat) (v:Value) (h1:i≠1) (h3:i≠3) (h6:i≠6) (hv:G7 B va t u l (val 1) (val 3) (val 6) w' i v) (h7:i=7→val 2≠none:=by intro e;cases e):F7 B W va t u l (setV val i v) w':=by
 refine ⟨h.bel.trans (hb.mono h.size),Nat.le_trans h.size hb.size,fun e=>(h.row (by rwa [setV_ne _ _ (Ne.symm h3)] at e)).below hb,fun e=>?_,fun j x hj=>?_⟩
 ·by_cases e7:i=7
  ·exact setV_some (h7 e7)
  ·exact setV_some (h.ord (by rwa [setV_ne _ _ (fun h=>e7 h.symm)] at e))
 rw [setV_ne _ _ (Ne.symm h1),setV_ne _ _ (Ne.symm h3),setV_ne _ _ (Ne.symm h6)]
 by_cases e:j=i
 ·subst e
  rw [setV_at] at hj
  cases hj
  exact hv
 ·rw [setV_ne _ _ e] at hj
  exact (h.all j x hj).grow hb
theorem bel_drew {n:Nat} {w w':World} (h:Below n w w'):Below n w w'.drew:=⟨h.os,h.tape,h.output,h.size,h.block⟩
theorem DF.wasBut {ops:Array Oper} {a0 a:Act} {val:Nat→Option Value} (h:DF ops a0 val a) (t:Tmp) (k:Nat) (hk:val k=none) (ht:((List.range ops.size).all fun i=>i == k || ((ops[i]?).map fun o=>o.dst != some t).getD true)=true):a.eval (.tmp t)=a0.eval (.tmp t):=by
 have:=h.other t fun i o v hi hv e=>by
  have h1:=List.all_eq_true.1 ht i (List.mem_range.2 (Array.getElem?_eq_some_iff.1 hi).1)
  rw [hi] at h1
  by_cases hik:i=k
  ·rw [hik,hk] at hv;cases hv
  ·simp [hik,e] at h1
 unfold Act.eval
 simp only [Array.getD_eq_getD_getElem?,this]
theorem wraps_walk {p:Option Addr} {m c n:Nat} {l:List Tk} (w:World) (hl:l.length=m) (hm:m≤200) (hmc:m≤c) (hK:KM (fun b=>b<w.heap.size) w p l) (hp:p=none→c=0) (hn:n≤255) (hg:Ly.Glob w) (hG:GP (fun b=>b<w.heap.size) w):Calls Tryz.prog 7 #[.slice p m c,.int .u8 n] w fun e w'=>e=.returned (.bool true)∧Below w.heap.size w w':=by
 have hm2:¬ (200:Int)<m:=by omega
 have HL:=zz hg
 have HG:=zz hG
 have HK:=zz hK
 clear hG hg hK
 go_enter Tryz.func7,Tryz.ntmps7
 go_wp2_with fail
 refine (awake_any w HL.out HG.out).mono ?_
 rintro r w1 ⟨rfl,hb1⟩
 have HB1:=zz hb1
 clear hb1
 go_wp2_with fail
 refine (pexpr_any (fun b hb=>hb) hl (HK.out.keep (KP.of_below HB1.out (fun b hb=>hb)) (fun b hb=>Nat.lt_of_lt_of_le hb HB1.out.size) (fun _ _ h=>h)) (by omega)).mono ?_
 rintro r w2 ⟨en,ecn,ek,eck,rfl,hE,hb2⟩
 have HB2:=zz (HB1.out.trans (hb2.mono HB1.out.size))
 have HE2:=zz hE
 clear hb2 hE HB1
 have HW:=zz (fun h=>wraps_out (l:=l) h (n % 100))
 have HO:=zz (fun h=>exprM_ok (l:=l) h)
 have HX:=zz (fun h=>exprM_no (l:=l) h)
 generalize hX:exprM l=X at *
 have HXE:=zz hX
 clear hX
 obtain ⟨e,⟨x0,x1⟩,xe⟩:=X
 simp only at HW HO HX HE2 ⊢
 unfold cs5
 go_upto_region 5 with fail
 obtain ⟨nB,n0⟩:=two_new2 w2 (cs5 e en ecn ek eck) #[.int .i64 x0,.int .i64 x1] 27 29
 have HE3:=zz (TrIn.keep (KP.of_below nB fun b hb=>hb) (fun b hb=>Nat.lt_of_lt_of_le hb nB.size) e _ HE2.out)
 have HB3:=zz (HB2.out.trans (nB.mono HB2.out.size))
 have H63:=zz n0
 show Code.wp _ _ _ _ ((w2.alloc (.cells (cs5 e en ecn ek eck) 27)).alloc (.cells #[.int .i64 x0,.int .i64 x1] 29))
 generalize (w2.alloc (.cells (cs5 e en ecn ek eck) 27)).alloc (.cells #[.int .i64 x0,.int .i64 x1] 29)=w3 at *
 generalize w2.heap.size=b6 at *
 clear nB n0 HB2 HE2
 by_cases hx:xe=0
 ·subst hx
  obtain ⟨q,e',hq1,hq2,rfl,hq4⟩:=HO.out rfl
  have hms:=expr_mass_of (by omega) hq1 hq2
  have hw:=HW.out rfl
  have HWW:=zz hw
  have HC:=zz hq4
  have HQ1:=zz hq1
  have HQ2:=zz hq2
  have HMS:=zz hms
  clear hq1 hq2 hq4 hms hw HW HO HX HXE
  go_upto_region 9 with fail
  obtain ⟨nB,n0⟩:=two_new2 w3 (tkC (sgn [40])).toArray (tkC (sgn [41])).toArray 51 51
  have n1:Hold (w3.heap.size+1) (tkC (sgn [41])).toArray 51 ((w3.alloc (.cells (tkC (sgn [40])).toArray 51)).alloc (.cells (tkC (sgn [41])).toArray 51)):=by
   have:=Hold.new (w3.alloc (.cells (tkC (sgn [40])).toArray 51)) (tkC (sgn [41])).toArray 51
   rwa [World.size_alloc] at this
  have HE4:=zz (TrIn.keep (KP.of_below nB fun b hb=>hb) (fun b hb=>Nat.lt_of_lt_of_le hb nB.size) e _ HE3.out)
  have HB4:=zz (HB3.out.trans (nB.mono HB3.out.size))
  have H64:=zz (H63.out.below nB H63.out.lt)
  have HL4:=zz n0
  have HR4:=zz n1
  show Code.wp _ _ _ _ ((w3.alloc (.cells (tkC (sgn [40])).toArray 51)).alloc (.cells (tkC (sgn [41])).toArray 51))
  generalize (w3.alloc (.cells (tkC (sgn [40])).toArray 51)).alloc (.cells (tkC (sgn [41])).toArray 51)=w4 at *
  generalize w3.heap.size=b9 at *
  clear nB n0 n1 HB3 HE3 H63
  obtain ⟨B,HBB⟩:∃ B,Hid (B=w4.heap.size):=⟨_,rfl⟩
  have hb:Below w4.heap.size w4 (w4.alloc (.cells #[] 51)):=(Below.refl _ _).alloc (Nat.le_refl _) _
  have hlit:TR w4.heap.size (w4.alloc (.cells #[] 51)) (.slice (some ⟨w4.heap.size,0,none⟩) 0 0) []:=TR.lit (l:=[]) (fun t ht=>by cases ht) (Nat.zero_le _) _ (Nat.le_refl _)
  have HT5:=zz hlit
  have HB5:=zz hb
  have HKM:=zz fun (W:World) (h:Below w.heap.size w W)=>HK.out.keep (Q:=fun b=>b<W.heap.size) (R':=fun t ds=>ds=tkC t∧t.tx.length≤281474976710656∧-9223372036854775808≤t.nu∧t.nu≤9223372036854775807) (KP.of_below h (fun b hb=>hb)) (fun b hb=>Nat.lt_of_lt_of_le hb h.size) (fun _ _ h=>h)
  have hk5:=HKM.out _ (HB4.out.trans (hb.mono HB4.out.size))
  have hsz5:=hb.size
  clear hb hlit
  go_upto_region 10 with (at_builtin;refine wpList_appT rfl _ _ rfl w4.heap.size (.slice (some ⟨w4.heap.size,0,none⟩) 0 0) [] rfl HT5.out p m c l rfl hl hk5 hp (by simp;omega) hsz5 ?_;intro va x6 hT6 hg6 ho6)
  have hB6:=bel_app HB5.out HT5.out.ge hg6
  have HTA:=zz hT6
  have HB6:=zz hB6
  clear hT6 hg6 ho6 hk5 hsz5 HT5 HB5 hB6 HK HKM
  rw [List.nil_append] at HTA
  have hkn:n % 100≤99:=by omega
  have hrem:(n:Int).tmod 100=((n % 100:Nat):Int):=by rw [Int.ofNat_tmod];rfl
  generalize n % 100=k at *
  go_wp2_with fail
  go_loopw [11,12] (fun va vi wr=>∃ j:Nat,j≤k+1∧vi=.int .i64 j∧TR w4.heap.size wr va (wrapT j l)∧Below w4.heap.size w4 wr) (fun _ i _=>k+1 - (intOf i).toNat)
  case atStart=>exact ⟨0,Nat.zero_le _,rfl,HTA.out,HB6.out⟩
  case round=>
   obtain ⟨j,hj,rfl,hTA,hBr⟩:=hrel
   by_cases hlt:j≤k
   ·obtain ⟨pa,ca,rfl,hpa,_⟩:=hTA.slice
    have hlen:=wrapT_len j l
    have HTA1:=zz hTA
    have HBR:=zz hBr
    have HL5:=zz (HL4.out.below hBr HL4.out.lt)
    have HR5:=zz (HR4.out.below hBr HR4.out.lt)
    have hjI:(j:Int)≤k:=by omega
    clear hTA hBr
    generalize hLL:wrapT j l=L at *
    have HLL:=zz hLL
    have HLEN:=zz hlen
    clear hLL hlen
    go_upto_region 13 with fail
    refine act_var fun a0 ha0=>?_
    have e11:a0.eval (.tmp 11)=.slice pa L.length ca:=by rw [ha0];rfl
    have e9:a0.eval (.tmp 9)=.pointer (some ⟨b9,0,none⟩):=by rw [ha0];rfl
    have e10:a0.eval (.tmp 10)=.pointer (some ⟨b9+1,0,none⟩):=by rw [ha0];rfl
    have es:a0.tmps.size=127:=by rw [ha0];rfl
    have HA0:=zz ha0
    clear ha0
    refine region_df 8 (F7 w4.heap.size w4 (.slice pa L.length ca) (sgn [40]) (sgn [41]) L) (by kernel_rfl) (by kernel_rfl) (by kernel_rfl) (by rw [es];kernel_rfl) ?_ ?_ ?_ ?_
    ·exact ⟨bel_drew HBR.out,HBR.out.size,fun _=>HTA1.out,fun h=>absurd rfl h,fun i v h=>by cases h⟩
    ·intro vs w' hvs hF
     match vs,hvs with
     | [v0,v1,v2,v3,v4,v5,v6,v7],_=>
     have HT7:=zz (hF.all 7 v7 rfl).2
     have HB7:=zz hF.bel
     clear hF e9 e10 e11 es
     have hA0:=HA0.out
     subst hA0
     clear HA0
     simp only [List.map_cons,List.map_nil,List.zip_cons_cons,List.zip_nil_left,putsA,Act.put,lSI,lSZ,lSS]
     go_wp2_with fail
     go_roundw
     case rel=>exact ⟨j+1,by omega,by simp,by rw [show wrapT (j+1) l=sgn [40] :: (L ++ [sgn [41]]) by rw [← HLL.out];rfl];exact HT7.out,HB7.out⟩
     case measure=>simp [intOf];omega
    ·intro i hi val w' a hF hno hdep hD
     match i,hi with
     | 0,_=>
      have e1:=ev_at ((hD.was 9).trans e9)
      have hH:=HL4.out.below hF.bel HL4.out.lt
      have c0:=hH.cell 0
      have c1:=hH.cell 1
      have c2:=hH.cell 2
      have c3:=hH.cell 3
      have c4:=hH.cell 4
      unfold tkC sgn at c0 c1 c2 c3 c4
      simp only [lGA,lGS,lGZ] at c0 c1 c2 c3 c4
      refine op_J rfl rfl fun K hK=>?_
      clear hdep hD
      go_simp
      exact hK _ _ ⟨_,rfl,hF.go (Below.refl _ _) 0 _ (by decide) (by decide) (by decide) rfl⟩
     | 4,_=>
      have e1:=ev_at ((hD.was 10).trans e10)
      have hH:=HR4.out.below hF.bel HR4.out.lt
      have c0:=hH.cell 0
      have c1:=hH.cell 1
      have c2:=hH.cell 2
      have c3:=hH.cell 3
      have c4:=hH.cell 4
      unfold tkC sgn at c0 c1 c2 c3 c4
      simp only [lGA,lGS,lGZ] at c0 c1 c2 c3 c4
      refine op_J rfl rfl fun K hK=>?_
      clear hdep hD
      go_simp
      exact hK _ _ ⟨_,rfl,hF.go (Below.refl _ _) 4 _ (by decide) (by decide) (by decide) rfl⟩
     | 2,_=>
      have h7:val 7=none:=Classical.byContradiction fun h=>hF.ord h hno
      have e1:=ev_at ((hD.wasBut 11 7 h7 (by kernel_rfl)).trans e11)
      refine op_J rfl rfl fun K hK=>?_
      clear hdep hD
      go_simp
      exact hK _ _ ⟨_,rfl,hF.go (Below.refl _ _) 2 _ (by decide) (by decide) (by decide) rfl⟩
     | 5,_=>
      obtain ⟨v4,h4⟩:=hdep 4 (by kernel_rfl)
      obtain rfl:=hF.all 4 v4 h4
      have e1:=ev_at (hD.at 4 h4 59)
      refine op_J rfl rfl fun K hK=>?_
      clear hdep hD
      unfold tkC sgn at e1
      go_simp
      exact hK _ _ ⟨_,rfl,hF.go ((Below.refl _ _).alloc (Nat.le_refl _) _) 5 _ (by decide) (by decide) (by decide) fun h6=>⟨w'.heap.size,rfl,hF.size,Hold.new _ _ _,fun h3 x hx=>(hF.all 1 x hx h3).1.fresh,fun x hx=>((hF.all 3 x hx).2 h6).fresh⟩⟩
     | 7,_=>
      obtain ⟨v6,h6⟩:=hdep 6 (by kernel_rfl)
      obtain ⟨v2,h2⟩:=hdep 2 (by kernel_rfl)
      have hv:=(hF.all 6 v6 h6).2
      have e1:=ev_at (hD.at 6 h6 61)
      refine op_J rfl rfl fun K hK=>?_
      clear hdep hD
      go_simp
      exact hK _ _ ⟨_,rfl,hF.go (Below.refl _ _) 7 _ (by decide) (by decide) (by decide) ⟨by rw [h6];simp,hv⟩ (fun _=>by rw [h2];simp)⟩
     | 1,_=>
      obtain ⟨v0,h0⟩:=hdep 0 (by kernel_rfl)
      obtain rfl:=hF.all 0 v0 h0
      have e1:=ev_at (hD.at 0 h0 55)
      have hno3:val 3=none:=by
       cases h:val 3 with
       | none=>rfl
       | some v=>exact absurd hno (hF.all 3 v h).1
      refine op_J rfl rfl fun K hK=>?_
      clear hdep hD
      unfold tkC sgn at e1
      go_simp
      refine hK _ _ ⟨_,rfl,?_⟩
      clear hK
      have hB:Below w'.heap.size w' (w'.alloc (.cells (tcs [sgn [40]]).toArray 51)):=(Below.refl _ _).alloc (Nat.le_refl _) _
      refine ⟨hF.bel.trans (hB.mono hF.size),Nat.le_trans hF.size hB.size,fun e=>(hF.row (by rwa [setV_ne _ _ (by decide)] at e)).below hB,fun e=>setV_some (hF.ord e),fun j' x hj'=>?_⟩
      rw [setV_at,setV_ne _ _ (show (3:Nat)≠1 by decide),setV_ne _ _ (show (6:Nat)≠1 by decide)]
      by_cases ee:j'=1
      ·subst ee
       rw [setV_at] at hj'
       cases hj'
       exact fun _=>⟨TR.lit (l:=[sgn [40]]) (fun t ht=>by obtain rfl:=List.mem_singleton.1 ht;exact tkb_sgn _ (by decide)) (by decide) _ hF.size,fun e=>(hF.row hno3).fresh (by rw [← e];rfl)⟩
      ·rw [setV_ne _ _ ee] at hj'
       have hh:=(hF.all j' x hj').grow hB
       match j',ee with
       | 0,_=>exact hh
       | 2,_=>exact hh
       | 3,_=>rw [hno3] at hj';cases hj'
       | 4,_=>exact hh
       | 5,_=>
        intro h6
        obtain ⟨g,k1,k2,k3,k4,k5⟩:=hh h6
        obtain ⟨g',k1',_,k3',_⟩:=hF.all 5 x hj' h6
        refine ⟨g,k1,k2,k3,fun _ y hy=>?_,fun y hy=>k5 y hy⟩
        cases hy
        rw [k1] at k1'
        cases k1'
        have:=k3'.lt
        intro e
        have:w'.heap.size=g:=Option.some.inj e
        omega
       | 6,_=>exact hh
       | 7,_=>exact hh
       | j+8,_=>exact hh
     | 3,_=>
      obtain ⟨v1,h1⟩:=hdep 1 (by kernel_rfl)
      obtain ⟨v2,h2⟩:=hdep 2 (by kernel_rfl)
      obtain rfl:=hF.all 2 v2 h2
      obtain ⟨hT,hne⟩:=hF.all 1 v1 h1 hno
      have hR:=hF.row hno
      have hB:=hF.bel
      have hlim:=HLEN.out
      refine op_J rfl rfl fun K hK=>?_
      refine wp_appT (.tmp 56) (.tmp 57) rfl w4.heap.size v1 [sgn [40]] (hD.at 1 h1 56) hT pa L.length ca L (hD.at 2 h2 57) rfl hR.km hpa (by show 1+L.length≤_;omega) hF.size ?_
      intro v' w'' hT2 hg hob
      refine hK _ _ ⟨v',rfl,?_⟩
      clear hK hdep hD
      refine ⟨bel_app hB hT.ge hg,Nat.le_trans hF.size hg.size,fun e=>(by rw [setV_at] at e;cases e),fun e=>setV_some (hF.ord (by rwa [setV_ne _ _ (by decide)] at e)),fun j' x hj'=>?_⟩
      rw [setV_at,setV_ne _ _ (show (1:Nat)≠3 by decide),setV_ne _ _ (show (6:Nat)≠3 by decide)]
      by_cases ee:j'=3
      ·subst ee
       rw [setV_at] at hj'
       cases hj'
       exact ⟨by rw [h1];simp,fun _=>hT2⟩
      ·rw [setV_ne _ _ ee] at hj'
       have hh:=hF.all j' x hj'
       match j',ee with
       | 0,_=>exact hh
       | 1,_=>exact fun e=>by cases e
       | 2,_=>exact hh
       | 4,_=>exact hh
       | 5,_=>
        intro h6
        obtain ⟨g,k1,k2,k3,k4,k5⟩:=hh h6
        have hn1:v1.ownBlock≠some g:=k4 hno v1 h1
        refine ⟨g,k1,k2,(hg.block _ k3.lt fun e=>hn1 e.symm).trans k3,fun h=>(by cases h),fun y hy=>?_⟩
        cases hy
        rcases hob with h | h
        ·rw [h];exact hn1
        ·rw [h]
         intro e
         have:=k3.lt
         have:=Option.some.inj e
         omega
       | 6,_=>exact absurd hno hh.1
       | 7,_=>
        obtain ⟨v6,h6⟩:=Option.ne_none_iff_exists'.1 hh.1
        exact absurd hno (hF.all 6 v6 h6).1
       | j+8,_=>exact trivial
     | 6,_=>
      obtain ⟨v3,h3⟩:=hdep 3 (by kernel_rfl)
      obtain ⟨v5,h5⟩:=hdep 5 (by kernel_rfl)
      have hT:=(hF.all 3 v3 h3).2 hno
      obtain ⟨g5,rfl,k2,k3,k4,k5⟩:=hF.all 5 v5 h5 hno
      have hB:=hF.bel
      have hlim:=HLEN.out
      refine op_J rfl rfl fun K hK=>?_
      refine wp_appT (.tmp 58) (.tmp 60) rfl w4.heap.size v3 (sgn [40] :: L) (hD.at 3 h3 58) hT (some ⟨g5,0,none⟩) 1 1 [sgn [41]] (hD.at 5 h5 60) rfl (KM.one (P:=fun b=>True) trivial k3 (tkb_sgn _ (by decide))) (fun h=>by cases h) (by rw [List.length_cons];omega) hF.size ?_
      intro v' w'' hT2 hg hob
      refine hK _ _ ⟨v',rfl,?_⟩
      clear hK hdep hD
      refine ⟨bel_app hB hT.ge hg,Nat.le_trans hF.size hg.size,fun e=>(by rw [setV_ne _ _ (by decide),h3] at e;cases e),fun e=>setV_some (hF.ord (by rwa [setV_ne _ _ (by decide)] at e)),fun j' x hj'=>?_⟩
      rw [setV_at,setV_ne _ _ (show (1:Nat)≠6 by decide),setV_ne _ _ (show (3:Nat)≠6 by decide)]
      by_cases ee:j'=6
      ·subst ee
       rw [setV_at] at hj'
       cases hj'
       exact ⟨by rw [h3];simp,hT2⟩
      ·rw [setV_ne _ _ ee] at hj'
       have hh:=hF.all j' x hj'
       match j',ee with
       | 0,_=>exact hh
       | 1,_=>exact fun e=>absurd (h3.symm.trans e) (by simp)
       | 2,_=>exact hh
       | 3,_=>exact ⟨hh.1,fun e=>by cases e⟩
       | 4,_=>exact hh
       | 5,_=>exact fun e=>by cases e
       | 7,_=>exact absurd hno hh.1
       | j+8,_=>exact trivial
     | i+8,h=>omega
    ·intro val w' h val' he
     refine ⟨h.bel,h.size,by rw [he 3 (by omega)];exact h.row,by rw [he 7 (by omega),he 2 (by omega)];exact h.ord,fun i v hv=>?_⟩
     rw [he 1 (by omega),he 3 (by omega),he 6 (by omega)]
     by_cases hi:i<8
     ·exact h.all i v (by rw [← he i hi];exact hv)
     ·match i,hi with
      | i+8,_=>exact trivial
      | 0,h=>exact absurd (by omega) h
      | 1,h=>exact absurd (by omega) h
      | 2,h=>exact absurd (by omega) h
      | 3,h=>exact absurd (by omega) h
      | 4,h=>exact absurd (by omega) h
      | 5,h=>exact absurd (by omega) h
      | 6,h=>exact absurd (by omega) h
      | 7,h=>exact absurd (by omega) h
   ·have hjk:j=k+1:=by omega
    subst hjk
    obtain ⟨pa,ca,rfl,hpa,_⟩:=hTA.slice
    have hlen:=wrapT_len (k+1) l
    have HLEN:Hid ((wrapT (k+1) l).length≤500):=by show (wrapT (k+1) l).length≤500;omega
    clear hlen
    have HTA1:=zz hTA
    have HBR:=zz hBr
    have HB7:=zz (HB4.out.trans (hBr.mono HB4.out.size))
    have HE7:=zz (TrIn.keep (KP.of_below hBr fun b hb=>hb) (fun b hb=>Nat.lt_of_lt_of_le hb hBr.size) e _ HE4.out)
    have H67:=zz (H64.out.below hBr H64.out.lt)
    have hjI:¬ (((k+1:Nat):Int)≤k):=by omega
    obtain ⟨hw1,hw2,hw3⟩:=HWW.out
    have HW2:=zz hw2
    have HW3:=zz hw3
    have HPM:=zz (hpa:pa=none→ca=0)
    clear hTA hBr HWW hw2 hw3 HTA HB6 hpa
    generalize hLL:wrapT (k+1) l=L at *
    clear hLL
    generalize hLn:L.length=nL at *
    have HLN:=zz hLn
    clear hLn
    go_wp2_with fail
    refine (pexpr_any (fun b hb=>hb.2) HLN.out HTA1.out.km (by have:=HLEN.out;omega)).mono ?_
    rintro r x7 ⟨an,acn,ak,ack,rfl,hE,hb⟩
    rw [hw1] at hE ⊢
    simp only at hE ⊢
    have HB8:=zz (HB7.out.trans (hb.mono HB7.out.size))
    have HBR8:=zz (HBR.out.trans (hb.mono HBR.out.size))
    have HE8:=zz (TrIn.keep (KP.of_below hb fun b hb=>hb) (fun b hb'=>Nat.lt_of_lt_of_le hb' hb.size) e _ HE7.out)
    have H68:=zz (H67.out.below hb H67.out.lt)
    have HTA8:=zz (HTA1.out.below hb)
    have HA8:=zz hE
    clear hb hE hw1 HB7 HBR HE7 H67 HTA1
    unfold cs5
    go_upto_region 15 with fail
    obtain ⟨nB,n0⟩:=two_new2 x7 (cs5 e an acn ak ack) #[.int .i64 0,.int .i64 0] 27 29
    have HB9:=zz (HB8.out.trans (nB.mono HB8.out.size))
    have HBR9:=zz (HBR8.out.trans (nB.mono HBR8.out.size))
    have HE9:=zz (TrIn.keep (KP.of_below nB fun b hb=>hb) (fun b hb'=>Nat.lt_of_lt_of_le hb' nB.size) e _ HE8.out)
    have HA9:=zz (TrIn.keep (KP.of_below nB fun b hb=>hb) (fun b hb'=>Nat.lt_of_lt_of_le hb' nB.size) e _ HA8.out)
    have H69:=zz (H68.out.below nB H68.out.lt)
    have HTA9:=zz (HTA8.out.below nB)
    have HAH9:=zz n0
    show Code.wp _ _ _ _ ((x7.alloc (.cells (cs5 e an acn ak ack) 27)).alloc (.cells #[.int .i64 0,.int .i64 0] 29))
    generalize (x7.alloc (.cells (cs5 e an acn ak ack) 27)).alloc (.cells #[.int .i64 0,.int .i64 0] 29)=x8 at *
    generalize x7.heap.size=b13 at *
    clear nB n0 HB8 HBR8 HE8 HA8 H68 HTA8
    have hb:Below x8.heap.size x8 (x8.alloc (.cells #[] 51)):=(Below.refl _ _).alloc (Nat.le_refl _) _
    have HT0:=zz (TR.lit (w:=x8) (l:=[]) (fun t ht=>by cases ht) (Nat.zero_le _) x8.heap.size (Nat.le_refl _))
    have HTA10:=zz (HTA9.out.below hb)
    have HS10:Hid (x8.heap.size≤(x8.alloc (.cells #[] 51)).heap.size):=hb.size
    have HBX:=zz hb
    have hLn2:nL≤500:=by have:=HLN.out;have:=HLEN.out;omega
    clear hb
    go_wp2_with (first
     | (at_builtin;refine wpList_appT rfl _ _ rfl x8.heap.size (.slice (some ⟨x8.heap.size,0,none⟩) 0 0) [] rfl HT0.out pa nL ca L rfl HLN.out HTA10.out.km HPM.out (by simp;omega) HS10.out ?_;intro v1 y1 hT1 hg1 ho1;have hb1:=bel_app HBX.out HT0.out.ge hg1;have hTA11:=HTA9.out.below hb1)
     | (at_builtin;refine wpList_appT rfl _ _ rfl x8.heap.size v1 ([] ++ L) rfl hT1 pa nL ca L rfl HLN.out hTA11.km HPM.out (by rw [List.nil_append];have:=HLN.out;omega) hb1.size ?_;intro v2 y2 hT2 hg2 ho2;obtain ⟨pv,cv,rfl,_,_⟩:=hT2.slice))
    have hb2:=bel_app hb1 hT1.ge hg2
    have HBa:=zz (HB9.out.trans (hb2.mono HB9.out.size))
    have HEa:=zz (TrIn.keep (KP.of_below hb2 fun b hb=>hb) (fun b hb'=>Nat.lt_of_lt_of_le hb' hb2.size) e _ HE9.out)
    have HAa:=zz (TrIn.keep (KP.of_below hb2 fun b hb=>hb) (fun b hb'=>Nat.lt_of_lt_of_le hb' hb2.size) e _ HA9.out)
    have H6a:=zz (H69.out.below hb2 H69.out.lt)
    have HAHa:=zz (HAH9.out.below hb2 HAH9.out.lt)
    have hkm2:=hT2.km
    rw [List.nil_append] at hkm2
    have hcall:=pexpr_any (fun b hb=>hb.2) rfl hkm2 (tc:=cv) (by rw [List.length_append];have:=HLN.out;omega)
    rw [List.length_append] at hcall
    have HCL:=zz hcall
    clear hb2 hb1 hT1 hg1 ho1 hTA11 hT2 hg2 ho2 hkm2 hcall HB9 HBR9 HE9 HA9 H69 HTA9 HAH9 HT0 HTA10 HS10 HBX
    refine HCL.out.mono ?_
    rintro r y3 ⟨bn,bcn,bk,bck,rfl,hE,hb⟩
    have HBb:=zz (HBa.out.trans (hb.mono HBa.out.size))
    have HEb:=zz (TrIn.keep (KP.of_below hb fun b hb=>hb) (fun b hb'=>Nat.lt_of_lt_of_le hb' hb.size) e _ HEa.out)
    have HAb:=zz (TrIn.keep (KP.of_below hb fun b hb=>hb) (fun b hb'=>Nat.lt_of_lt_of_le hb' hb.size) e _ HAa.out)
    have H6b:=zz (H6a.out.below hb H6a.out.lt)
    have HAHb:=zz (HAHa.out.below hb HAHa.out.lt)
    have HDb:=zz hE
    clear hb hE HCL HBa HEa HAa H6a HAHa
    generalize exprM (L ++ L)=Y at *
    obtain ⟨f,⟨f0,f1⟩,fe⟩:=Y
    simp only at HW2 HW3 HDb ⊢
    unfold cs5
    go_upto_region 16 with fail
    obtain ⟨nB,n0⟩:=two_new2 y3 (cs5 f bn bcn bk bck) #[.int .i64 f0,.int .i64 f1] 27 29
    have HBc:=zz (HBb.out.trans (nB.mono HBb.out.size))
    have HEc:=zz (TrIn.keep (KP.of_below nB fun b hb=>hb) (fun b hb'=>Nat.lt_of_lt_of_le hb' nB.size) e _ HEb.out)
    have HAc:=zz (TrIn.keep (KP.of_below nB fun b hb=>hb) (fun b hb'=>Nat.lt_of_lt_of_le hb' nB.size) e _ HAb.out)
    have HDc:=zz (TrIn.keep (KP.of_below nB fun b hb=>hb) (fun b hb'=>Nat.lt_of_lt_of_le hb' nB.size) f _ HDb.out)
    have H6c:=zz (H6b.out.below nB H6b.out.lt)
    have HAHc:=zz (HAHb.out.below nB HAHb.out.lt)
    have HDHc:=zz n0
    show Code.wp _ _ _ _ ((y3.alloc (.cells (cs5 f bn bcn bk bck) 27)).alloc (.cells #[.int .i64 f0,.int .i64 f1] 29))
    generalize (y3.alloc (.cells (cs5 f bn bcn bk bck) 27)).alloc (.cells #[.int .i64 f0,.int .i64 f1] 29)=y4 at *
    generalize y3.heap.size=b16 at *
    clear nB n0 HBb HEb HAb HDb H6b HAHb
    have c0:=H6c.out.cell 0
    have c1:=H6c.out.cell 1
    have c2:=H6c.out.cell 2
    have c3:=H6c.out.cell 3
    have c4:=H6c.out.cell 4
    unfold cs5 at c0 c1 c2 c3 c4
    simp only [lGA,lGS,lGZ] at c0 c1 c2 c3 c4
    go_upto_region 17 with fail
    clear c0 c1 c2 c3 c4
    obtain ⟨nB,n0⟩:=two_new2 y4 #[.int .i64 e.kd,.string (S e.nm),.int .i64 e.nu,.slice en e.ns.length ecn,.slice ek e.ks.length eck,.int .i64 e.kd,.string (S e.nm),.int .i64 e.nu,.slice en e.ns.length ecn,.slice ek e.ks.length eck] #[.int .i64 5,.string ⟨#[]⟩,.int .i64 0,.slice none 0 0,.slice (some ⟨y4.heap.size,0,none⟩) 2 2] 27 27
    have n1:=two_snd y4 #[.int .i64 e.kd,.string (S e.nm),.int .i64 e.nu,.slice en e.ns.length ecn,.slice ek e.ks.length eck,.int .i64 e.kd,.string (S e.nm),.int .i64 e.nu,.slice en e.ns.length ecn,.slice ek e.ks.length eck] #[.int .i64 5,.string ⟨#[]⟩,.int .i64 0,.slice none 0 0,.slice (some ⟨y4.heap.size,0,none⟩) 2 2] 27 27
    generalize (y4.alloc (.cells #[.int .i64 e.kd,.string (S e.nm),.int .i64 e.nu,.slice en e.ns.length ecn,.slice ek e.ks.length eck,.int .i64 e.kd,.string (S e.nm),.int .i64 e.nu,.slice en e.ns.length ecn,.slice ek e.ks.length eck] 27)).alloc (.cells #[.int .i64 5,.string ⟨#[]⟩,.int .i64 0,.slice none 0 0,.slice (some ⟨y4.heap.size,0,none⟩) 2 2] 27)=y5 at *
    have HBd:=zz (HBc.out.trans (nB.mono HBc.out.size))
    have hEd:=TrIn.keep (KP.of_below nB fun b hb=>hb) (fun b hb'=>Nat.lt_of_lt_of_le hb' nB.size) e _ HEc.out
    have HEd:=zz hEd
    have HAd:=zz (TrIn.keep (KP.of_below nB fun b hb=>hb) (fun b hb'=>Nat.lt_of_lt_of_le hb' nB.size) e _ HAc.out)
    have HDd:=zz (TrIn.keep (KP.of_below nB fun b hb=>hb) (fun b hb'=>Nat.lt_of_lt_of_le hb' nB.size) f _ HDc.out)
    have H6d:=zz (H6c.out.below nB H6c.out.lt)
    have HAHd:=zz (HAHc.out.below nB HAHc.out.lt)
    have HDHd:=zz (HDHc.out.below nB HDHc.out.lt)
    have hApp:=app_in (em_two (P:=fun b=>b<y5.heap.size) n0.lt n0 hEd)
    have hma:mass (appT e)≤900000:=by rw [mass_app];have:=HMS.out;omega
    have hcA:=expr_any (e:=appT e) (gp_below HG.out HBd.out) hApp (mass_D hma) (mass_N hma)
    have hnu:=trin_nu (appT e) 1 hApp
    have e0:=n1.cell 0
    have e1:=n1.cell 1
    have e2:=n1.cell 2
    have e3:=n1.cell 3
    have e4:=n1.cell 4
    simp only [lGA,lGS,lGZ] at e0 e1 e2 e3 e4
    clear nB n0 n1 hEd hApp HBc HEc HAc HDc H6c HAHc HDHc
    by_cases hca:checkM (appT e)=true
    ·rw [if_pos hca] at HW2 HW3
     obtain ⟨o,ho⟩:=expr_prints hca hma hnu
     have q2:=HW2.out
     have q3:=HW3.out
     subst q2 q3
     have hcD:=fun (W:World) (h:Below w.heap.size w W) (hT:TrIn (fun b=>b<W.heap.size) W (appT e) [.int .i64 (appT e).kd,.string (S (appT e).nm),.int .i64 (appT e).nu,.slice bn (appT e).ns.length bcn,.slice bk (appT e).ks.length bck])=>expr_any (e:=appT e) (gp_below HG.out h) hT (mass_D hma) (mass_N hma)
     rw [ho] at hcA
     simp only [ho] at hcD
     have HCA:=zz hcA
     have HCD:=zz hcD
     clear hcA hcD hnu ho HW2 HW3
     go_wp2_with fail
     refine HCA.out.mono ?_
     rintro r z1 ⟨rfl,hb⟩
     have HBf:=zz (HBd.out.trans (hb.mono HBd.out.size))
     have HEf:=zz (TrIn.keep (KP.of_below hb fun b hb=>hb) (fun b hb'=>Nat.lt_of_lt_of_le hb' hb.size) e _ HEd.out)
     have HAf:=zz (TrIn.keep (KP.of_below hb fun b hb=>hb) (fun b hb'=>Nat.lt_of_lt_of_le hb' hb.size) e _ HAd.out)
     have HDf:=zz (TrIn.keep (KP.of_below hb fun b hb=>hb) (fun b hb'=>Nat.lt_of_lt_of_le hb' hb.size) _ _ HDd.out)
     have H6f:=zz (H6d.out.below hb H6d.out.lt)
     have HAHf:=zz (HAHd.out.below hb HAHd.out.lt)
     have hDHf:=HDHd.out.below hb HDHd.out.lt
     have d0:=hDHf.cell 0
     have d1:=hDHf.cell 1
     have d2:=hDHf.cell 2
     have d3:=hDHf.cell 3
     have d4:=hDHf.cell 4
     unfold cs5 at d0 d1 d2 d3 d4
     simp only [lGA,lGS,lGZ] at d0 d1 d2 d3 d4
     clear hb hDHf HBd HEd HAd HDd H6d HAHd HDHd HCA e0 e1 e2 e3 e4
     go_wp2_with fail
     refine (HCD.out z1 HBf.out HDf.out).mono ?_
     rintro r z2 ⟨rfl,hb⟩
     have HBg:=zz (HBf.out.trans (hb.mono HBf.out.size))
     have hEg:=TrIn.keep (KP.of_below hb fun b hb=>hb) (fun b hb'=>Nat.lt_of_lt_of_le hb' hb.size) e _ HEf.out
     have hAg:=TrIn.keep (KP.of_below hb fun b hb=>hb) (fun b hb'=>Nat.lt_of_lt_of_le hb' hb.size) e _ HAf.out
     have h6g:=H6f.out.below hb H6f.out.lt
     have hAHg:=HAHf.out.below hb HAHf.out.lt
     have c0:=h6g.cell 0
     have c1:=h6g.cell 1
     have c2:=h6g.cell 2
     have c3:=h6g.cell 3
     have c4:=h6g.cell 4
     have a0:=hAHg.cell 0
     have a1:=hAHg.cell 1
     have a2:=hAHg.cell 2
     have a3:=hAHg.cell 3
     have a4:=hAHg.cell 4
     unfold cs5 at c0 c1 c2 c3 c4 a0 a1 a2 a3 a4
     simp only [lGA,lGS,lGZ] at c0 c1 c2 c3 c4 a0 a1 a2 a3 a4
     have HS:=zz (same_tree e e (fun b hb=>hb) hAg hEg)
     clear hb hEg hAg h6g hAHg HBf HEf HAf HDf H6f HAHf HCD d0 d1 d2 d3 d4
     go_wp2_with fail
     refine HS.out.mono ?_
     rintro r z3 ⟨ht,-,hb⟩
     obtain rfl:=ht trivial
     have HBh:=zz (HBg.out.trans (hb.mono HBg.out.size))
     clear hb ht
     go_wp2_with fail
     go_ret
     exact ⟨by simp,HBh.out⟩
    ·rw [if_neg hca] at HW2 HW3
     have ho:exprV (appT e)=.tuple #[.string ⟨#[]⟩,.int .i64 40]:=by unfold exprV;rw [if_neg hca];rfl
     obtain ⟨o2,n2,ho2⟩:=exprV_tup t0
     have q2:=HW2.out
     have q3:=HW3.out
     subst q2 q3
     have hm0:mass t0≤900000:=by rw [mass_eq];show 1+0+0≤900000;omega
     have hcD:=fun (W:World) (h:Below w.heap.size w W) (hT:TrIn (fun b=>b<W.heap.size) W t0 [.int .i64 t0.kd,.string (S t0.nm),.int .i64 t0.nu,.slice bn t0.ns.length bcn,.slice bk t0.ks.length bck])=>expr_any (e:=t0) (gp_below HG.out h) hT (mass_D hm0) (mass_N hm0)
     rw [ho] at hcA
     simp only [ho2] at hcD
     have HCA:=zz hcA
     have HCD:=zz hcD
     clear hcA hcD hnu ho HW2 HW3
     go_wp2_with fail
     refine HCA.out.mono ?_
     rintro r z1 ⟨rfl,hb⟩
     have HBf:=zz (HBd.out.trans (hb.mono HBd.out.size))
     have HEf:=zz (TrIn.keep (KP.of_below hb fun b hb=>hb) (fun b hb'=>Nat.lt_of_lt_of_le hb' hb.size) e _ HEd.out)
     have HAf:=zz (TrIn.keep (KP.of_below hb fun b hb=>hb) (fun b hb'=>Nat.lt_of_lt_of_le hb' hb.size) e _ HAd.out)
     have HDf:=zz (TrIn.keep (KP.of_below hb fun b hb=>hb) (fun b hb'=>Nat.lt_of_lt_of_le hb' hb.size) _ _ HDd.out)
     have H6f:=zz (H6d.out.below hb H6d.out.lt)
     have HAHf:=zz (HAHd.out.below hb HAHd.out.lt)
     have hDHf:=HDHd.out.below hb HDHd.out.lt
     have d0:=hDHf.cell 0
     have d1:=hDHf.cell 1
     have d2:=hDHf.cell 2
     have d3:=hDHf.cell 3
     have d4:=hDHf.cell 4
     unfold cs5 at d0 d1 d2 d3 d4
     simp only [lGA,lGS,lGZ] at d0 d1 d2 d3 d4
     clear hb hDHf HBd HEd HAd HDd H6d HAHd HDHd HCA e0 e1 e2 e3 e4
     go_wp2_with fail
     refine (HCD.out z1 HBf.out HDf.out).mono ?_
     rintro r z2 ⟨rfl,hb⟩
     have HBg:=zz (HBf.out.trans (hb.mono HBf.out.size))
     have hEg:=TrIn.keep (KP.of_below hb fun b hb=>hb) (fun b hb'=>Nat.lt_of_lt_of_le hb' hb.size) e _ HEf.out
     have hAg:=TrIn.keep (KP.of_below hb fun b hb=>hb) (fun b hb'=>Nat.lt_of_lt_of_le hb' hb.size) e _ HAf.out
     have h6g:=H6f.out.below hb H6f.out.lt
     have hAHg:=HAHf.out.below hb HAHf.out.lt
     have c0:=h6g.cell 0
     have c1:=h6g.cell 1
     have c2:=h6g.cell 2
     have c3:=h6g.cell 3
     have c4:=h6g.cell 4
     have a0:=hAHg.cell 0
     have a1:=hAHg.cell 1
     have a2:=hAHg.cell 2
     have a3:=hAHg.cell 3
     have a4:=hAHg.cell 4
     unfold cs5 at c0 c1 c2 c3 c4 a0 a1 a2 a3 a4
     simp only [lGA,lGS,lGZ] at c0 c1 c2 c3 c4 a0 a1 a2 a3 a4
     have HS:=zz (same_tree e e (fun b hb=>hb) hAg hEg)
     clear hb hEg hAg h6g hAHg HBf HEf HAf HDf H6f HAHf HCD d0 d1 d2 d3 d4
     go_wp2_with fail
     refine HS.out.mono ?_
     rintro r z3 ⟨ht,-,hb⟩
     obtain rfl:=ht trivial
     have HBh:=zz (HBg.out.trans (hb.mono HBg.out.size))
     clear hb ht
     go_wp2_with fail
     go_ret
     exact ⟨by simp,HBh.out⟩
 ·have hx2:=HX.out hx
  subst hx2
  have hxn:(xe != 0)=true:=by simpa using hx
  have c0:=H63.out.cell 0
  simp only [cs5,lGA,lGZ] at c0
  go_wp2_with fail
  go_ret
  exact ⟨rfl,HB3.out⟩
theorem wraps_long {p:Option Addr} {m c n:Nat} (w:World) (hg:Ly.Glob w) (hG:GP (fun b=>b<w.heap.size) w) (hm:200<m):Calls Tryz.prog 7 #[.slice p m c,.int .u8 n] w fun e w'=>e=.returned (.bool true)∧Below w.heap.size w w':=by
 have hm2:(200:Int)<m:=by omega
 go_enter Tryz.func7,Tryz.ntmps7
 go_wp2_with fail
 refine (awake_any w hg hG).mono ?_
 rintro r w1 ⟨rfl,hb1⟩
 have HB1:=zz hb1
 clear hb1
 go_wp2_with fail
 go_ret
 exact ⟨rfl,HB1.out⟩
end Go.Proofs.YtcnnlecjdkfdjaaGreatDoor
namespace Go.Proofs.YtcnnlecjdkfdjaaGreatDoor.parseWraps
open Go.ChangeShapes Go.WideShapes Go.ChangeAt Go.RowKit
theorem walk (p:Option Addr) (l:List Tk) (c n:Nat) (W:World) (hg:Ly.Glob W∧GP (fun b=>b<W.heap.size) W) (hs:SlOK p l.length c) (hK:KM (fun b=>b<W.heap.size) W p l) (hn:n≤255) :
 Calls Tryz.prog 7 #[.slice p l.length c,.int .u8 n] W fun e W'=>e=.returned (.bool true)∧Below W.heap.size W W':=by
 by_cases h:200<l.length
 ·exact wraps_long W hg.1 hg.2 h
 ·exact wraps_walk W rfl (by omega) hs.1 hK hs.2.2 hn hg.1 hg.2
theorem lifted (os:Os) (started:os.Started) (H:Type) (enc:TypeId × Value→H) :
 ReturnsInHanded {} Tryz.checked os 7 .any (fun w args=>(Rows.parseWrapsSpec.pre enc Tryz.prog Tryz.f7 Rows.parseWrapsRow.domain false w args∧laidMetH Tryz.prog Rows.parseWrapsRow.laid w)∧sizedMet enc Tryz.prog Tryz.f7 (OpenSpec.ofChange Rows.parseWrapsSpec) false w args)
  (Rows.parseWrapsSpec.post enc Tryz.prog Tryz.f7 false true false false):=by
 refine returnsInHanded_of_change_and (C:=Tryz.checked) (X:=fun w _=>laidMetH Tryz.prog Rows.parseWrapsRow.laid w) (fun _ _ _ hh h=>h.of_heap hh) own started (by kernel_rfl) Tryz.func7
  (ChangeSpec.witness_shaped (enc:=enc) (C:=Tryz.checked) (os:=os) (X:=fun w _=>laidMetH Tryz.prog Rows.parseWrapsRow.laid w) false (World.doorLaid Tryz.prog 400 os) #[.slice none 0 0,.int .u8 0] 8 rfl (World.shaped_of_RefB (by kernel_rfl) (by kernel_rfl)) (by kernel_rfl) (by kernel_rfl) (by kernel_rfl) (door_met os _)) ?_
 intro W base args ds gs before hval0 hW _ hz hL _
 have hval:∀ (j:Nat) t v,Tryz.f7.params[j]?=some t→args[j]?=some v→Value.okWide Tryz.prog W .any base t v:=hval0
 have hW':=hW
 obtain ⟨p,q,hA0,hV,rfl,_,_⟩:=hW
 have hA:DataW.TrodAll enc Tryz.prog W 0 (fun _=>true) true Tryz.f7.params.toList args.toList ds p:=hA0
 have hz':(DataW.weightsEach Tryz.prog (Tryz.f7.params.toList ++ Rows.parseWrapsSpec.plain.varTypes Tryz.prog) (ds ++ gs)).all (·≤reachBytes)=true:=hz
 rw [Tryz.params7] at hA hval hz'
 obtain ⟨v0,vs0,d0,ds0,p0,q0,hargs,rfl,rfl,h0,r0⟩:=trodAll_cons hA
 obtain ⟨v1,vs1,d1,ds1,p1,q1,rfl,rfl,rfl,h1,r1⟩:=trodAll_cons r0
 obtain ⟨rfl,rfl,rfl⟩:=trodAll_nil r1
 obtain rfl:args=#[v0,v1]:=by cases args;simp_all
 obtain ⟨rfl,rfl⟩:=trodVars_none hV
 have hw0:light 22 d0:=by
  unfold light
  simp only [List.cons_append,List.nil_append,DataW.weightsEach,List.all_append,Bool.and_eq_true] at hz'
  exact hz'.1
 obtain ⟨a0,l,c0,rfl,hs0,hK0⟩:=toks_of h0 (okWide_slice Tryz.underlying22 (hval 0 22 v0 rfl rfl)) hw0
 obtain ⟨a1,rfl,rfl,rfl,w1⟩:=open_int Tryz.underlying5 (hval 1 5 v1 rfl rfl) h1
 clear hA0 hval0 hz
 simp only [List.append_nil] at hW'
 have hlt:∀ y ∈ p0,y.block<W.heap.size:=fun y hy=>by simpa using hW'.lt y (by simpa using hy)
 have hw1:0≤a1∧a1≤255:=by
  simp only [Lit.wf,Bool.and_eq_true,decide_eq_true_eq] at w1
  have e1:IntKind.min .u8=0:=by decide
  have e2:IntKind.max .u8=255:=by decide
  rw [e1,e2] at w1
  exact w1
 have ea:a1=(a1.toNat:Int):=by omega
 have hwk:=walk a0 l c0 a1.toNat W (glob_of hL) hs0 hK0 (by omega)
 rw [← ea] at hwk
 refine hwk.mono fun e W' ⟨he,hnx⟩=>?_
 subst he
 have harg0:DataW.Trod enc Tryz.prog W' 0 (fun b=>decide (b<W.heap.size)) true 22 (.slice a0 l.length c0) d0 p0:=
  Below.trod laidOut (by kernel_rfl) (of_decide_eq_true (by kernel_rfl)) h0 hnx hlt
 refine ⟨_,rfl,_,_,_,[],_,[],hW',?_,(trodAll_cons_mk harg0 (trodAll_cons_mk (shut_int Tryz.underlying5 w1) trodAll_mk0)),rfl,hnx.frame _,fun h=>by cases h⟩
 exact trodAll_mk1 (shut_bool Tryz.underlying4 _)
theorem over:Rows.ParseWrapsSaid:=
 OpenClaim.holds_of_wide 7 Tryz.f7 rfl rfl rfl rfl rfl rfl rfl ⟨rfl,rfl,rfl,rfl,rfl⟩ rfl rfl rfl rfl rfl (by kernel_rfl) Tryz.func7 (by kernel_rfl)
  (of_decide_eq_true (by kernel_rfl)) (by unfold Func.isWrapper;first | (rw [if_pos (by decide +kernel)];kernel_rfl) | (rw [if_neg (by decide +kernel)];exact ⟨rfl,rfl⟩))
  (fun os started H enc _=>lifted os started H enc)
theorem proved:Rows.ParseWrapsCardSaid:=
 Claim7.holds_tied_plain_at .later [] [.data,.data,.data,.sentinel,.sentinel] true Rows.parseWrapsCard.stood.harness true
  over (fun _ h=>by cases h) (by kernel_rfl) (fun _ h=>by cases h) parseWraps_row_tie rfl ⟨rfl,rfl⟩ (by kernel_rfl) rfl
  (fun f fn hf hfn=>by
   obtain rfl:f=7:=Option.some.inj ((show Tryz.prog.funcNamed Rows.parseWrapsRow.func=some 7 by kernel_rfl).symm.trans hf) |>.symm
   obtain rfl:fn=Tryz.f7:=(Option.some.inj (Tryz.func7.symm.trans hfn)).symm
   exact ⟨by kernel_rfl,fun j t ht=>by
    rw [Tryz.params7] at ht
    have hm:t ∈ [22,5]:=by simpa using Array.mem_of_getElem? ht
    have hall:([22,5].all fun u=>!Tryz.prog.wantsStandIn u)=true:=by kernel_rfl
    exact (show Tryz.prog.wantsStandIn t=false by simpa using List.all_eq_true.1 hall t hm)⟩)
  (by kernel_rfl)
#print axioms proved
end Go.Proofs.YtcnnlecjdkfdjaaGreatDoor.parseWraps
