/-
  ParsePlaces, for every text: the law returns true, and its arguments read as they did. The condition: the listed variables of Go's library hold what its text lays (tied by the card).
-/
import Derived.Test.YtcnnlecjdkfdjaaGreatDoorShort
import Derived.Test.YtcnnlecjdkfdjaaGreatDoorTopT
import Derived.Test.YtcnnlecjdkfdjaaGreatDoorAwake
import Derived.Test.YtcnnlecjdkfdjaaGreatDoorAl
set_option linter.unusedVariables false
set_option linter.unusedSimpArgs false
set_option maxRecDepth 100000
set_option maxHeartbeats 8000000
namespace Go.Proofs.YtcnnlecjdkfdjaaGreatDoor
theorem lw_flat (l:List Sg):lw ((l.map fun k=>(k,sgW k)).flatMap sgAt)≤(l.map fun k=>lw (sgW k)+4).sum:=by
 induction l with
 | nil=>exact Nat.le_refl _
 | cons a r ih=>
  have h:lw (sgAt (a,sgW a))≤lw (sgW a)+4:=by
   unfold sgAt
   split
   ·exact Nat.le_add_right _ _
   ·rw [lw_br];exact Nat.le_refl _
  rw [List.map_cons,List.flatMap_cons,lw_app,List.map_cons,List.sum_cons]
  omega
theorem sum_le {α:Type} {f g:α→Nat} {l:List α} (h:∀ x ∈ l,f x≤40 * g x):(l.map f).sum≤40 * (l.map g).sum:=by
 induction l with
 | nil=>exact Nat.le_refl _
 | cons a r ih=>
  have h1:=ih fun k hk=>h k (List.mem_cons_of_mem _ hk)
  have h2:=h a List.mem_cons_self
  simp only [List.map_cons,List.sum_cons] at h1 ⊢
  omega
theorem heads_20 {s:Sg} (h:headsM s=true):s.nm.length≤20:=by
 unfold headsM at h
 split at h
 ·rename_i h1;exact cn_20 h1
 ·split at h
  ·rename_i h1;exact nm_20 h1
  ·simp only [Bool.and_eq_true,beq_iff_eq] at h
   rw [h.1]
   decide
theorem wr_all {l:List Sg} {n:Nat} (h:wrM l n=true):l.length≤40∧(l.length=0∨n≠0)∧∀ s ∈ l,sgM s (n - 1)=true:=by
 unfold wrM at h
 simp only [Bool.and_eq_true,Bool.or_eq_true,decide_eq_true_eq,List.all_eq_true] at h
 exact ⟨h.1.1,h.1.2,h.2⟩
theorem lw_sg (s:Sg):∀ n,sgM s n=true→lw (sgW s)+4≤40 * massS s:=by
 induction s using Sg.ind with
 | _ s ih=>
  intro n h
  rw [sgM_eq,Bool.and_eq_true] at h
  have h1:=heads_20 h.1
  obtain ⟨_,_,h2⟩:=wr_all h.2
  have h3:=Nat.le_trans (lw_flat s.ar) (sum_le (g:=massS) fun k hk=>ih k hk _ (h2 k hk))
  rw [sgW_eq,massS_eq]
  unfold sgF
  split
  ·have e:lw (((s.ar.map fun k=>(k,sgW k)).take 1).flatMap sgAt)+lw (((s.ar.map fun k=>(k,sgW k)).drop 1).flatMap sgAt)=lw ((s.ar.map fun k=>(k,sgW k)).flatMap sgAt):=by
    rw [← lw_app,← List.flatMap_append,List.take_append_drop]
   rw [lw_app,lw_cons,pw_snd]
   have:([45,62]:List UInt8).length=2:=rfl
   omega
  ·rw [lw_cons,pw_snd]
   omega
theorem sg_ok (s:Sg):∀ n m,sgM s n=true→n+m+1≤30→sgOK s m=true:=by
 induction s using Sg.ind with
 | _ s ih=>
  intro n m h hm
  rw [sgM_eq,Bool.and_eq_true] at h
  obtain ⟨h1,h2,h3⟩:=wr_all h.2
  rw [sgOK_eq]
  simp only [Bool.and_eq_true,decide_eq_true_eq,List.all_eq_true]
  refine ⟨⟨by omega,h1⟩,fun k hk=>ih k hk (n - 1) (m+1) (h3 k hk) ?_⟩
  have:n≠0:=h2.resolve_left fun e=>by rw [List.length_eq_zero_iff.1 e] at hk;cases hk
  omega
theorem lw_fm {f:Fm} (h:formM f=true):lw (fmW f)+2≤40 * massF f:=by
 unfold formM at h
 rw [Bool.and_eq_true] at h
 have h1:=cn_20 h.1
 obtain ⟨_,_,h2⟩:=wr_all h.2
 have h3:=Nat.le_trans (lw_flat f.ar) (sum_le (g:=massS) fun k hk=>lw_sg k _ (h2 k hk))
 unfold massF
 show lw (pw f.nm :: (f.ar.map fun k=>(k,sgW k)).flatMap sgAt)+2≤_
 rw [lw_cons,pw_snd]
 omega
theorem form_ok {f:Fm} (h:formM f=true):(f.ar.all fun s=>sgOK s 0)=true:=by
 unfold formM at h
 rw [Bool.and_eq_true] at h
 obtain ⟨_,_,h2⟩:=wr_all h.2
 exact List.all_eq_true.2 fun s hs=>sg_ok s 29 0 (h2 s hs) (by omega)
theorem data_of {d:Dt} (h:dataM d=true):d.nm.length≤20∧(∀ s ∈ d.ps,s.length≤20)∧∀ f ∈ d.fs,formM f=true:=by
 unfold dataM at h
 simp only [Bool.and_eq_true,List.all_eq_true] at h
 exact ⟨cn_20 h.1.1.1.1,names_20 h.1.1.1.2,h.2⟩
theorem lw_dt {d:Dt} (h:dataM d=true):lw (dtW d)≤40 * massT d+21 * d.ps.length:=by
 obtain ⟨h1,h2,h3⟩:=data_of h
 have h4:=lw_names h2
 have h5:=Nat.le_trans (lw_sep [124] (d.fs.map fmW)) (by
  rw [List.map_map]
  exact sum_le (g:=massF) fun f hf=>lw_fm (h3 f hf))
 unfold massT
 show lw (pw [100,97,116,97] :: pw d.nm :: (d.ps.map pw ++ (pw [61] :: sepW [124] (d.fs.map fmW))))≤_
 rw [lw_cons,lw_cons,lw_app,lw_cons,pw_snd,pw_snd,pw_snd]
 have:([100,97,116,97]:List UInt8).length=4:=rfl
 have:([61]:List UInt8).length=1:=rfl
 omega
theorem lw_df {d:Df} (h:defM d=true) (hn:∀ x ∈ po d.bd 1,NuOK x.2.nu):lw (dfW d)≤23+40 * mass d.bd:=by
 unfold defM at h
 rw [Bool.and_eq_true] at h
 have h1:=nm_20 h.1
 have h2:=lw_ws d.bd 1 fun x hx=>⟨(check_mem h.2 x hx).2.2,hn x hx⟩
 show lw (pw d.nm :: pw [61] :: ws d.bd)≤_
 rw [lw_cons,lw_cons,pw_snd,pw_snd]
 have:([61]:List UInt8).length=1:=rfl
 omega
theorem sum_two {α:Type} {f a b:α→Nat} {l:List α} (h:∀ x ∈ l,f x≤40 * a x+21 * b x):(l.map f).sum≤40 * (l.map a).sum+21 * (l.map b).sum:=by
 induction l with
 | nil=>exact Nat.le_refl _
 | cons x r ih=>
  have h1:=ih fun k hk=>h k (List.mem_cons_of_mem _ hk)
  have h2:=h x List.mem_cons_self
  simp only [List.map_cons,List.sum_cons] at h1 ⊢
  omega
theorem sum_add2 {α:Type} (f:α→Nat) (c:Nat) (l:List α):(l.map fun x=>f x+c).sum=(l.map f).sum+c * l.length:=by
 induction l with
 | nil=>rfl
 | cons x r ih=>simp only [List.map_cons,List.sum_cons,ih,List.length_cons,Nat.mul_succ];omega
theorem lw_pg {p:Pg} (h:progM p=true) (hn:∀ d ∈ p.fs,∀ x ∈ po d.bd 1,NuOK x.2.nu):lw (pgW p)≤4+40 * (p.ds.map massT).sum+21 * (p.ds.map fun d=>d.ps.length).sum+40 * (p.fs.map fun d=>mass d.bd).sum+2000:=by
 unfold progM at h
 simp only [Bool.and_eq_true,decide_eq_true_eq,List.all_eq_true] at h
 obtain ⟨⟨⟨h1,h2⟩,h3⟩,h4⟩:=h
 have a1:=lw_sep [59] (p.ds.map dtW ++ p.fs.map dfW)
 rw [List.map_append,List.sum_append,List.map_map,List.map_map] at a1
 have a2:(p.ds.map ((fun x=>lw x+(([59]:List UInt8).length+1)) ∘ dtW)).sum=(p.ds.map fun d=>lw (dtW d)).sum+2 * p.ds.length:=sum_add2 (fun d=>lw (dtW d)) 2 p.ds
 have a3:(p.fs.map ((fun x=>lw x+(([59]:List UInt8).length+1)) ∘ dfW)).sum=(p.fs.map fun d=>lw (dfW d)).sum+2 * p.fs.length:=sum_add2 (fun d=>lw (dfW d)) 2 p.fs
 have a4:(p.ds.map fun d=>lw (dtW d)).sum≤_:=sum_two (a:=massT) (b:=fun d=>d.ps.length) fun d hd=>lw_dt (h3 d hd)
 have a5:(p.fs.map fun d=>lw (dfW d)).sum≤(p.fs.map fun d=>40 * mass d.bd+23).sum:=by
  have:∀ l:List Df,(∀ d ∈ l,lw (dfW d)≤40 * mass d.bd+23)→(l.map fun d=>lw (dfW d)).sum≤(l.map fun d=>40 * mass d.bd+23).sum:=fun l=>by
   induction l with
   | nil=>intro _;exact Nat.le_refl _
   | cons x r ih=>
    intro hx
    have h1:=ih fun k hk=>hx k (List.mem_cons_of_mem _ hk)
    have h2:=hx x List.mem_cons_self
    simp only [List.map_cons,List.sum_cons] at h1 ⊢
    omega
  exact this p.fs fun d hd=>by have:=lw_df (h4 d hd) (hn d hd);omega
 rw [sum_add2 (fun d:Df=>40 * mass d.bd) 23] at a5
 have a6:(p.fs.map fun d=>40 * mass d.bd).sum≤40 * (p.fs.map fun d=>mass d.bd).sum:=sum_le (g:=fun d:Df=>mass d.bd) fun d _=>Nat.le_refl _
 show lw (pw [123] :: (sepW [59] (p.ds.map dtW ++ p.fs.map dfW) ++ [pw [125]]))≤_
 rw [lw_cons,lw_app,lw_cons,pw_snd,pw_snd,lw_nil]
 have:([123]:List UInt8).length=1:=rfl
 have:([125]:List UInt8).length=1:=rfl
 omega
theorem prog_prints {l:List Tk} {q:Ps} (hl:l.length≤10000) (hx:progRun l=.inr q) (hc:progM ⟨q.ds,q.fs⟩=true) (hn:∀ d ∈ q.fs,∀ x ∈ po d.bd 1,NuOK x.2.nu):∃ o,progV ⟨q.ds,q.fs⟩=.tuple #[.string (S o),.int .i64 0]:=by
 have h1:=run_mass (l:=l) (nd:=0) (ps0 [r0 1,r0 0]) good_prog (Nat.zero_le _) q hx
 have h2:=run_massQ (l:=l) (nd:=0) (ps0 [r0 1,r0 0]) good_prog (Nat.zero_le _) q hx
 have htk:q.tk≤l.length:=by
  have h2:=run_pos (l:=l) (nd:=0) (ps0 [r0 1,r0 0]) good_prog (Nat.zero_le _)
  have h3:run l (ps0 [r0 1,r0 0])=.inr q:=hx
  rw [h3] at h2
  exact h2.2
 have h3:=lw_pg hc hn
 unfold massP at h1
 unfold massQ at h2
 simp only at h3
 have h4:lw (pgW ⟨q.ds,q.fs⟩)≤2147483647:=by omega
 obtain ⟨o,t,ho⟩:=runA_short (pgW ⟨q.ds,q.fs⟩) [] true (by simpa using h4)
 refine ⟨o,?_⟩
 unfold progV
 rw [hc]
 unfold ptA
 have hok:ptOK 0 (pProg ⟨q.ds,q.fs⟩)=true:=by
  show (q.ds.all fun d=>dtOK d 0)=true
  unfold progM at hc
  simp only [Bool.and_eq_true,decide_eq_true_eq,List.all_eq_true] at hc
  refine List.all_eq_true.2 fun d hd=>?_
  unfold dtOK
  exact List.all_eq_true.2 fun f hf=>form_ok ((data_of (hc.1.2 d hd)).2.2 f hf)
 rw [hok,show ptW (pProg ⟨q.ds,q.fs⟩)=pgW ⟨q.ds,q.fs⟩ from rfl]
 simp only [if_true]
 rw [ho]
 rfl
theorem trin_nu (e:Tr):∀ {P:Nat→Prop} {w:World} {cs:List Value} (n:Nat),TrIn P w e cs→∀ x ∈ po e n,NuOK x.2.nu:=by
 induction e using Tr.ind with
 | _ e ih=>
  intro P w cs n h x hx
  obtain ⟨pn,cn,pk,ck,_,_,hu,_,_,_,hE⟩:=(TrIn_iff _ _ _ _).1 h
  rw [po_eq] at hx
  rcases List.mem_cons.1 hx with rfl | hx
  ·exact hu
  ·obtain ⟨k,hk,hx⟩:=List.mem_flatMap.1 hx
   obtain ⟨i,hi⟩:=List.getElem?_of_mem hk
   rcases hE with h0 | ⟨b,o,_,_,hm⟩
   ·rw [h0] at hk;cases hk
   ·obtain ⟨ds,_,_,hT⟩:=hm i k hi
    exact ih k hk (n+1) hT x hx
end Go.Proofs.YtcnnlecjdkfdjaaGreatDoor
namespace Go.Proofs.YtcnnlecjdkfdjaaGreatDoor.Ly
theorem app_ne {o:List Tok} (t:Tok):o ++ [t]≠[]:=by simp
theorem end_ne (may:Int→Bool) (t:Tok) (st:List Blk):∀ o,o≠[]→(endM may t st o).2≠[]:=by
 induction st with
 | nil=>intro o h;exact h
 | cons b r ih=>
  intro o h
  unfold endM
  split
  ·exact ih _ (app_ne _)
  ·exact h
theorem beh_ne (t:Tok) (rest:List Tok) (st:List Blk) (o:List Tok) (f:Bool) (h:o≠[]):(behM t rest st o f).2.1≠[]:=by
 unfold behM
 split
 ·exact h
 ·split
  ·unfold indM
   split
   ·exact app_ne _
   ·split
    ·exact h
    ·split
     ·exact app_ne _
     ·exact app_ne _
  ·exact h
theorem go_ne:∀ (l:List Tok) (prev:Option Tok) (s s':Sm),(l≠[]∨s.2.1≠[])→goM prev l s=.ok s'→s'.2.1≠[]:=by
 intro l
 induction l with
 | nil=>intro prev s s' h hg;cases hg;exact h.resolve_left fun h=>h rfl
 | cons t r ih=>
  intro prev s s' h hg
  unfold goM at hg
  cases hs:stepM (over prev t) t r s with
  | none=>rw [hs] at hg;cases hg
  | some s1=>
   rw [hs] at hg
   refine ih (some t) s1 s' (.inr ?_) hg
   unfold stepM at hs
   cases hm:mid (over prev t) t s with
   | none=>rw [hm] at hs;cases hs
   | some q=>
    rw [hm] at hs
    cases hs
    exact beh_ne t r q.1 (q.2 ++ [t]) false (app_ne _)
theorem lay_ne {l:List Tok} (hl:l≠[]) (h:(layM l).2.2=0):(layM l).1≠[]:=by
 cases l with
 | nil=>exact absurd rfl hl
 | cons t r=>
  rw [lay_cons] at h ⊢
  generalize (t :: r).getLast (by simp)=u at *
  cases hg:goM none (t :: r) (start t) with
  | error e=>rw [hg] at h;exact absurd h (by show ¬ (30:Int)=0;decide)
  | ok s=>
   rw [hg] at h
   have h1:=go_ne (t :: r) none (start t) s (.inl (by simp)) hg
   have h2:(finM u s).2.2=0:=h
   show (finM u s).1≠[]
   unfold finM at h2 ⊢
   split
   ·exact end_ne _ _ _ _ h1
   ·rename_i e
    rw [e] at h2
    exact absurd (show (30:Int)=0 from h2) (by decide)
end Go.Proofs.YtcnnlecjdkfdjaaGreatDoor.Ly
namespace Go.Proofs.YtcnnlecjdkfdjaaGreatDoor
def atTok (l:List Ly.Tok) (x:Int × Int):Prop:=∃ t ∈ l,t.ln=x.1∧t.co=x.2
theorem pl_tok {l:List Ly.Tok} (h0:(Ly.layM l).2.2=0) (n:Nat):(l=[]∧plM ((Ly.layM l).1.map tkOf) n=(0,0))∨atTok l (plM ((Ly.layM l).1.map tkOf) n):=by
 by_cases hl:l=[]
 ·subst hl
  exact .inl ⟨rfl,rfl⟩
 ·refine .inr ?_
  have h1:=Ly.lay_ne hl h0
  have h2:∀ x ∈ (Ly.layM l).1,atTok l (x.ln,x.co):=Ly.lay_ok (K:=fun x=>atTok l (x.ln,x.co)) l fun t ht=>⟨⟨t,ht,rfl,rfl⟩,fun c=>⟨t,ht,rfl,rfl⟩⟩
  generalize (Ly.layM l).1=z at *
  have h3:0<z.length:=List.length_pos_iff.2 h1
  have h4:min n (z.length - 1)<z.length:=by omega
  unfold plM
  rw [List.length_map,if_neg (by omega)]
  have e:tkAt (z.map tkOf) (min n (z.length - 1))=tkOf z[min n (z.length - 1)]:=by
   unfold tkAt
   rw [List.getD_eq_getElem?_getD,List.getElem?_map,List.getElem?_eq_getElem h4]
   rfl
  rw [e]
  exact h2 _ (List.getElem_mem h4)
theorem text_says (src:List UInt8) (h0:Ly.ern src=0) (h1:(Ly.layM (Ly.lexM src).1).2.2=0) :
  ((textOut src).2=((0,0),0)∧∀ {Q P:Nat→Prop} {w:World} {cs:List Value},PgIn2 Q P w (textOut src).1 cs→∃ o,progV (textOut src).1=.tuple #[.string (S o),.int .i64 0]) ∨
  (((textOut src).2.2=60∨(textOut src).2.2=61)∧(((Ly.lexM src).1=[]∧(textOut src).2.1=(0,0))∨atTok (Ly.lexM src).1 (textOut src).2.1)):=by
 have e:textOut src=progOut (toksOf src):=by unfold textOut;rw [if_pos h0,if_pos h1]
 rw [e]
 have hp:=pl_tok h1
 have hl:=toks_len src
 unfold toksOf at hl ⊢
 generalize Ly.layM (Ly.lexM src).1=z at *
 unfold progOut
 cases hx:progRun (z.1.map tkOf) with
 | inl n=>exact .inr ⟨.inl rfl,hp n⟩
 | inr q=>
  simp only
  cases hc:progM ⟨q.ds,q.fs⟩
  ·exact .inr ⟨.inr rfl,hp 0⟩
  ·refine .inl ⟨rfl,fun {Q P w cs} h=>prog_prints (by omega) hx hc fun d hd=>?_⟩
   obtain ⟨pd,cd,pf,cf,_,_,_,_,hR⟩:=h
   obtain ⟨i,hi⟩:=List.getElem?_of_mem hd
   rcases hR with h0 | ⟨b,o,_,_,hm⟩
   ·rw [show q.fs=[] from h0] at hd;cases hd
   ·obtain ⟨ds,_,_,hT⟩:=hm i d hi
    obtain ⟨ds2,_,_,hT2⟩:=hT
    exact trin_nu d.bd 1 hT2
open Go.RowKit
theorem one_new (w:World) (A:Array Value) (t:TypeId):Below w.heap.size w (w.alloc (.cells A t))∧Hold w.heap.size A t (w.alloc (.cells A t))∧(w.alloc (.cells A t)).heap.size=w.heap.size+1:=⟨(Below.refl _ w).alloc (Nat.le_refl _) _,Hold.new w A t,by simp⟩
theorem places_long {p:Option Addr} {m c:Nat} (w:World) (hg:Ly.Glob w) (hG:GP (fun b=>b<w.heap.size) w) (hm:2000<m):Calls Tryz.prog 6 #[.slice p m c] w fun e w'=>e=.returned (.bool true)∧Below w.heap.size w w':=by
 have hm2:(2000:Int)<m:=by omega
 go_enter Tryz.func6,Tryz.ntmps6
 go_wp2_with fail
 refine (awake_any w hg hG).mono ?_
 rintro r w1 ⟨rfl,hb1⟩
 have HB1:=hide hb1
 clear hb1
 go_wp2_with fail
 go_ret
 exact ⟨rfl,HB1.out⟩
theorem places_walk {p:Option Addr} {m c:Nat} {src:List UInt8} (w:World) (hl:src.length=m) (hm:m≤2000) (hmc:m≤c) (hM:Ly.Mem w p src) (hp:p=none→c=0) (hg:Ly.Glob w) (hG:GP (fun b=>b<w.heap.size) w):Calls Tryz.prog 6 #[.slice p m c] w fun e w'=>e=.returned (.bool true)∧Below w.heap.size w w':=by
 have hm2:¬ (2000:Int)<m:=by omega
 have HL:=hide hg
 have HG:=hide hG
 have HM:=hide hM
 clear hG hg hM
 go_enter Tryz.func6,Tryz.ntmps6
 go_wp2_with fail
 refine (awake_any w HL.out HG.out).mono ?_
 rintro r w1 ⟨rfl,hb1⟩
 have HB1:=hide hb1
 clear hb1
 go_wp2_with fail
 refine (ptext_any hl (by omega) hmc (HM.out.below (Nat.le_refl _) HB1.out) hp (HL.out.below (Nat.le_refl _) HB1.out)).mono ?_
 rintro r w2 ⟨pd,cd,pf,cf,rfl,hE2,hb2⟩
 have HE2:=hide (PgIn2.mono2 (Q':=QU w2) (P':=fun b=>b<w2.heap.size) (KP.refl _ _) (KP.refl _ _) (fun b hb=>hb) (fun b hb=>hb.1) _ _ hE2)
 have HB2:=hide (HB1.out.trans (hb2.mono HB1.out.size))
 clear hE2 hb2 HB1
 have hS:=text_says src
 have hE1:Ly.ern src≠0→(textOut src).2=(Ly.plc src,Ly.ern src):=fun h=>by unfold textOut;rw [if_neg h]
 have hE2:Ly.ern src=0→(Ly.layM (Ly.lexM src).1).2.2≠0→(textOut src).2=(Ly.layM (Ly.lexM src).1).2:=fun h h'=>by unfold textOut;rw [if_pos h,if_neg h']
 have hMs:=out_mass (toksOf src) (by have:=toks_len src;omega)
 have hD:(∀ d ∈ (textOut src).1.fs,mass d.bd≤900000)∧∀ d ∈ (textOut src).1.ds,d.ps.length≤900000:=by
  unfold textOut
  split
  ·split
   ·exact hMs
   ·exact ⟨fun d hd=>(by cases hd),fun d hd=>(by cases hd)⟩
  ·exact ⟨fun d hd=>(by cases hd),fun d hd=>(by cases hd)⟩
 have hlex:=fun (W:World) (hb:Below w.heap.size w W)=>Ly.lex_told p m c src W hl (by omega) hmc (HM.out.below (Nat.le_refl _) hb) hp (HL.out.below (Nat.le_refl _) hb)
 have hln:=Ly.lex_len src
 have HS:=hide hS
 have HE1:=hide hE1
 have HF2:=hide hE2
 have HD:=hide hD
 have HLX:=hide hlex
 clear hS hE1 hE2 hMs hD hlex HM HL
 generalize textOut src=E at *
 generalize Ly.lexM src=X at *
 generalize Ly.plc src=pl at *
 generalize Ly.ern src=er at *
 obtain ⟨L,X2⟩:=X
 simp only at HS HF2 hln HLX
 obtain ⟨EP,⟨a0,a1⟩,ee⟩:=E
 simp only at HS HE1 HF2 HD HE2 ⊢
 go_upto_region 5 with fail
 obtain ⟨nB,n0,n1,nS⟩:=two_new w2 #[.slice pd EP.ds.length cd,.slice pf EP.fs.length cf] #[.int .i64 a0,.int .i64 a1] 38 29
 generalize hW2:(w2.alloc (.cells #[.slice pd EP.ds.length cd,.slice pf EP.fs.length cf] 38)).alloc (.cells #[.int .i64 a0,.int .i64 a1] 29)=W2 at *
 have HB3:=hide (HB2.out.trans (nB.mono HB2.out.size))
 have HE3:=hide (pgin_to HE2.out nB)
 have HR3:=hide n0
 have HQ3:=hide n1
 have HZ:=hide nS
 clear hW2 nB n0 n1 nS HB2 HE2
 go_wp2_with fail
 refine (HLX.out W2 HB3.out).mono ?_
 rintro r w4 ⟨pa,cp,rfl,hT4,hcp,hb4⟩
 have HB4:=hide (HB3.out.trans (hb4.mono HB3.out.size))
 have HE4:=hide (pgin_to HE3.out hb4)
 have HR4:=hide (HR3.out.below hb4 HR3.out.lt)
 have HQ4:=hide (HQ3.out.below hb4 HQ3.out.lt)
 have HT4:=hide hT4
 clear hb4 hT4 HLX HB3 HE3 HR3 HQ3
 go_upto_region 6 with fail
 obtain ⟨nB,n0,nS⟩:=one_new w4 #[.int .i64 pl.1,.int .i64 pl.2] 29
 generalize hW4:w4.alloc (.cells #[.int .i64 pl.1,.int .i64 pl.2] 29)=W4 at *
 have HB5:=hide (HB4.out.trans (nB.mono HB4.out.size))
 have HE5:=hide (pgin_to HE4.out nB)
 have HR5:=hide (HR4.out.below nB HR4.out.lt)
 have HQ5:=hide (HQ4.out.below nB HQ4.out.lt)
 have HT5:=hide (HT4.out.below (Nat.le_refl _) nB)
 have HP5:=hide n0
 have HZ2:=hide nS
 clear hW4 nB n0 nS HB4 HE4 HR4 HQ4 HT4
 have d0:=HQ5.out.cell 0
 have d1:=HQ5.out.cell 1
 have e0:=HP5.out.cell 0
 have e1:=HP5.out.cell 1
 simp only [lGA,lGS,lGZ] at d0 d1 e0 e1
 by_cases h0:er=0
 ·subst h0
  have HS':=hide (HS.out rfl)
  have HF2':=hide (HF2.out rfl)
  clear HS HF2 HE1 e0 e1
  go_wp2_with fail
  refine (Ly.lay_any pa _ cp L W4 rfl (by omega) hcp HT5.out).mono ?_
  rintro r w6 ⟨pb,cb,rfl,_,hb6⟩
  have HB6:=hide (HB5.out.trans (hb6.mono HB5.out.size))
  have HE6:=hide (pgin_to HE5.out hb6)
  have HR6:=hide (HR5.out.below hb6 HR5.out.lt)
  have HQ6:=hide (HQ5.out.below hb6 HQ5.out.lt)
  have HT6:=hide (HT5.out.below (Nat.le_refl _) hb6)
  clear hb6 HB5 HE5 HR5 HQ5 HT5 HP5 d0 d1
  generalize Ly.layM L=z at *
  obtain ⟨zl,⟨z1,z2⟩,ze⟩:=z
  simp only at HS' HF2' ⊢
  go_upto_region 9 with fail
  obtain ⟨nB,n0,nS⟩:=one_new w6 #[.int .i64 z1,.int .i64 z2] 29
  generalize hW6:w6.alloc (.cells #[.int .i64 z1,.int .i64 z2] 29)=W6 at *
  have HB7:=hide (HB6.out.trans (nB.mono HB6.out.size))
  have HE7:=hide (pgin_to HE6.out nB)
  have HR7:=hide (HR6.out.below nB HR6.out.lt)
  have HQ7:=hide (HQ6.out.below nB HQ6.out.lt)
  have HT7:=hide (HT6.out.below (Nat.le_refl _) nB)
  have HP7:=hide n0
  have HZ3:=hide nS
  clear hW6 nB n0 nS HB6 HE6 HR6 HQ6 HT6
  have d0:=HQ7.out.cell 0
  have d1:=HQ7.out.cell 1
  have e0:=HP7.out.cell 0
  have e1:=HP7.out.cell 1
  simp only [lGA,lGS,lGZ] at d0 d1 e0 e1
  by_cases h1:ze=0
  ·subst h1
   rcases HS'.out rfl with ⟨hEE,hpr⟩ | ⟨hee,hat⟩
   ·cases hEE
    obtain ⟨o,ho⟩:=hpr HE7.out
    have hpc:=prog_any2 (gp_below HG.out HB7.out) (qu_pl W6) (fun b hb=>hb) HE7.out (fun d hd=>mass_D (HD.out.1 d hd)) (fun d hd=>mass_N (HD.out.1 d hd)) (fun d hd=>by have:=HD.out.2 d hd;omega)
    rw [ho] at hpc
    have HPC:=hide hpc
    clear hpc HS' HF2' e0 e1
    have a0:=HR7.out.cell 0
    have a1:=HR7.out.cell 1
    simp only [lGA,lGS,lGZ] at a0 a1
    go_wp2_with fail
    refine HPC.out.mono ?_
    rintro r w8 ⟨rfl,hb8⟩
    have HB8:=hide (HB7.out.trans (hb8.mono HB7.out.size))
    have hQ8:=HQ7.out.below hb8 HQ7.out.lt
    clear a0 a1 d0 d1
    have d0:=hQ8.cell 0
    have d1:=hQ8.cell 1
    simp only [lGA,lGS,lGZ] at d0 d1
    clear hb8 hQ8
    go_wp2_with fail
    go_ret
    exact ⟨rfl,HB8.out⟩
   ·clear HS' HF2' e0 e1
    have he0:ee≠0:=by rcases hee with rfl | rfl <;> decide
    have hn:(ee == 0)=false:=by simpa using he0
    have HEE:=hide hee
    have HAT:=hide hat
    clear hee hat he0
    by_cases hL:L=[]
    ·subst hL
     have h00:(a0,a1)=(0,0):=by
      rcases HAT.out with ⟨_,h⟩ | ⟨t,ht,_⟩
      ·exact h
      ·cases ht
     cases h00
     clear HAT HT7 hcp
     simp only [List.length_nil] at *
     rcases HEE.out with rfl | rfl
     all_goals
      clear HEE hn
      go_wp2_with fail
      go_loopw [15,16] (fun f i wr=>f=.bool true∧i=.int .i64 0∧wr=W6) (fun _ i _=>0)
      case atStart=>exact ⟨rfl,rfl,rfl⟩
      case round=>
       obtain ⟨rfl,rfl,rfl⟩:=hrel
       go_wp2_with fail
       go_ret
       exact ⟨rfl,HB7.out⟩
    ·have hat:atTok L (a0,a1):=HAT.out.resolve_left fun h=>hL h.1
     obtain ⟨pb',po',rfl⟩:∃ b o,pa=some ⟨b,o,none⟩:=by
      rcases HT7.out with h | ⟨b,o,h,_⟩
      ·exact absurd h hL
      ·exact ⟨b,o,h⟩
     have hL0:((L.length:Int) == 0)=false:=by
      have:=List.length_pos_iff.2 hL
      rw [beq_eq_false_iff_ne]
      omega
     have HA2:=hide hat
     clear hat HAT
     go_wp2_with fail
     go_loopw [15,16] (fun f i wr=>∃ j:Nat,j≤L.length∧f=.bool ((L.take j).any fun t=>t.ln == a0 && t.co == a1)∧i=.int .i64 j∧Below W6.heap.size W6 wr) (fun _ i _=>L.length - (intOf i).toNat)
     case atStart=>exact ⟨0,Nat.zero_le _,rfl,rfl,Below.refl _ _⟩
     case round=>
      obtain ⟨j,hj,rfl,rfl,hBr⟩:=hrel
      have HBR:=hide hBr
      clear d0 d1
      have hQr:=HQ7.out.below hBr HQ7.out.lt
      have d0:=hQr.cell 0
      have d1:=hQr.cell 1
      simp only [lGA,lGS,lGZ] at d0 d1
      by_cases hlt:j<L.length
      ·have hsn:(L.take (j+1)).any (fun t=>t.ln == a0 && t.co == a1)=((L.take j).any (fun t=>t.ln == a0 && t.co == a1) || (L[j].ln == a0 && L[j].co == a1)):=by
        rw [List.take_add_one,List.getElem?_eq_getElem hlt,List.any_append]
        simp only [Option.toList,List.any_cons,List.any_nil,Bool.or_false]
       have hTr:=HT7.out.below (Nat.le_refl _) hBr
       rcases hTr with he | ⟨g,og,hge,hgl,hgm⟩
       ·exact absurd he hL
       cases hge
       obtain ⟨q0,q1,q2,q3,q4⟩:=hgm j L[j] (by simp [hlt])
       have HSN:=hide hsn
       clear hgm hsn hBr hQr q0 q1 q2
       generalize L[j]=t at *
       generalize (L.take j).any (fun t=>t.ln == a0 && t.co == a1)=fj at *
       have fin:∀ wr':World,Below W6.heap.size W6 wr'→∀ b:Bool,b=(fj || (t.ln == a0 && t.co == a1))→∃ k:Nat,k≤L.length∧Value.bool b=.bool ((L.take k).any fun t=>t.ln == a0 && t.co == a1)∧Value.int .i64 ((j:Int)+1)=.int .i64 k∧Below W6.heap.size W6 wr':=fun wr' h b e=>⟨j+1,hlt,by rw [HSN.out,e],by simp,h⟩
       have FIN:=hide fin
       clear fin HSN
       cases fj
       ·by_cases hx:t.ln=a0
        ·have hx':(t.ln == a0)=true:=by rw [beq_iff_eq];exact hx
         go_wp2_with fail
         go_quiet (fail)
         go_wp2_with fail
         go_roundw
         case rel=>exact FIN.out (wr.drewN _) (HBR.out.trans ⟨rfl,rfl,rfl,Nat.le_refl _,fun _ _=>rfl⟩) (t.co == a1) (by simp [hx])
         case measure=>simp [intOf];omega
        ·have hx':(t.ln == a0)=false:=by rw [beq_eq_false_iff_ne];exact hx
         go_wp2_with fail
         go_quiet (fail)
         go_wp2_with fail
         go_roundw
         case rel=>exact FIN.out (wr.drewN _) (HBR.out.trans ⟨rfl,rfl,rfl,Nat.le_refl _,fun _ _=>rfl⟩) false (by simp [hx'])
         case measure=>simp [intOf];omega
       ·go_wp2_with fail
        go_quiet (fail)
        go_wp2_with fail
        go_roundw
        case rel=>exact FIN.out (wr.drewN _) (HBR.out.trans ⟨rfl,rfl,rfl,Nat.le_refl _,fun _ _=>rfl⟩) true (by simp)
        case measure=>simp [intOf];omega
      ·obtain rfl:j=L.length:=by omega
       have ht:(L.take L.length).any (fun t=>t.ln == a0 && t.co == a1)=true:=by
        rw [List.take_length,List.any_eq_true]
        obtain ⟨t,h1,h2,h3⟩:=HA2.out
        exact ⟨t,h1,by rw [show t.ln=a0 from h2,show t.co=a1 from h3];simp⟩
       rw [ht]
       clear ht hBr hQr d0 d1
       rcases HEE.out with rfl | rfl
       all_goals
        go_wp2_with fail
        go_ret
        exact ⟨rfl,HB7.out.trans (HBR.out.mono HB7.out.size)⟩
  ·have hEE:=HF2'.out h1
   cases hEE
   have hn:(ee != 0)=true:=by simpa using h1
   clear HF2' HS'
   go_wp2_with fail
   go_ret
   exact ⟨by simp,HB7.out⟩
 ·have hEE:=HE1.out h0
  cases hEE
  have hn:(er != 0)=true:=by simpa using h0
  clear HE1 HS HF2
  go_wp2_with fail
  go_ret
  exact ⟨by simp,HB5.out⟩
end Go.Proofs.YtcnnlecjdkfdjaaGreatDoor
namespace Go.Proofs.YtcnnlecjdkfdjaaGreatDoor.parsePlaces
open Go.ChangeShapes Go.WideShapes Go.ChangeAt Go.RowKit
theorem walk (p:Option Addr) (m c:Nat) (l:List UInt8) (W:World) (hg:Ly.Glob W∧GP (fun b=>b<W.heap.size) W) (hl:l.length=m) (hmc:m≤c) (hM:Ly.Mem W p l) (hp:p=none→c=0) :
  Calls Tryz.prog 6 #[.slice p m c] W fun e W'=>e=.returned (.bool true)∧Below W.heap.size W W':=by
 by_cases h:m≤2000
 ·exact places_walk W hl h hmc hM hp hg.1 hg.2
 ·exact places_long W hg.1 hg.2 (by omega)
theorem lifted (os:Os) (started:os.Started) (H:Type) (enc:TypeId × Value→H) :
  ReturnsInHanded {} Tryz.checked os 6 .any (fun w args=>(Rows.parsePlacesSpec.pre enc Tryz.prog Tryz.f6 Rows.parsePlacesRow.domain false w args∧laidMetH Tryz.prog Rows.parsePlacesRow.laid w)∧sizedMet enc Tryz.prog Tryz.f6 (OpenSpec.ofChange Rows.parsePlacesSpec) false w args)
   (Rows.parsePlacesSpec.post enc Tryz.prog Tryz.f6 false true false false):=by
 refine returnsInHanded_of_change_and (C:=Tryz.checked) (X:=fun w _=>laidMetH Tryz.prog Rows.parsePlacesRow.laid w) (fun _ _ _ hh h=>h.of_heap hh) own started (by kernel_rfl) Tryz.func6
  (ChangeSpec.witness_shaped (enc:=enc) (C:=Tryz.checked) (os:=os) (X:=fun w _=>laidMetH Tryz.prog Rows.parsePlacesRow.laid w) false (World.doorLaid Tryz.prog 400 os) #[.slice none 0 0] 8 rfl (World.shaped_of_RefB (by kernel_rfl) (by kernel_rfl)) (by kernel_rfl) (by kernel_rfl) (by kernel_rfl) (door_met os _)) ?_
 intro W base args ds gs before hval0 hW _ _ hL _
 have hval:∀ (j:Nat) t v,Tryz.f6.params[j]?=some t→args[j]?=some v→Value.okWide Tryz.prog W .any base t v:=hval0
 have hW':=hW
 obtain ⟨p,q,hA0,hV,rfl,_,_⟩:=hW
 have hA:DataW.TrodAll enc Tryz.prog W 0 (fun _=>true) true Tryz.f6.params.toList args.toList ds p:=hA0
 rw [Tryz.params6] at hA hval
 obtain ⟨v0,d0,rfl,rfl,h0⟩:=trodAll_one hA
 obtain ⟨rfl,rfl⟩:=trodVars_none hV
 obtain ⟨a0,len0,cap0,rfl⟩:=okWide_slice Tryz.underlying42 (hval 0 42 v0 rfl rfl)
 clear hA0 hval0
 simp only [List.append_nil] at hW'
 have hlt:∀ y ∈ p,y.block<W.heap.size:=fun y hy=>by simpa using hW'.lt y hy
 obtain ⟨l,hl,hmc,hM,hp⟩:=bytes_of h0
 refine (walk a0 len0 cap0 l W (glob_of hL) hl hmc hM hp).mono fun e W' ⟨he,hnx⟩=>?_
 subst he
 have harg0:DataW.Trod enc Tryz.prog W' 0 (fun b=>decide (b<W.heap.size)) true 42 (.slice a0 len0 cap0) d0 p:=
  Below.trod laidOut (by kernel_rfl) (of_decide_eq_true (by kernel_rfl)) h0 hnx hlt
 refine ⟨_,rfl,_,_,_,[],_,[],hW',?_,trodAll_mk1 harg0,rfl,hnx.frame _,fun h=>by cases h⟩
 exact trodAll_mk1 (shut_bool Tryz.underlying4 _)
theorem over:Rows.ParsePlacesSaid:=
 OpenClaim.holds_of_wide 6 Tryz.f6 rfl rfl rfl rfl rfl rfl rfl ⟨rfl,rfl,rfl,rfl,rfl⟩ rfl rfl rfl rfl rfl (by kernel_rfl) Tryz.func6 (by kernel_rfl)
  (of_decide_eq_true (by kernel_rfl)) (by unfold Func.isWrapper;first | (rw [if_pos (by decide +kernel)];kernel_rfl) | (rw [if_neg (by decide +kernel)];exact ⟨rfl,rfl⟩))
  (fun os started H enc _=>lifted os started H enc)
theorem proved:Rows.ParsePlacesCardSaid:=
 Claim7.holds_tied_plain_at .later [] [.data,.data,.data,.sentinel,.sentinel] true Rows.parsePlacesCard.stood.harness true
  over (fun _ h=>by cases h) (by kernel_rfl) (fun _ h=>by cases h) parsePlaces_row_tie rfl ⟨rfl,rfl⟩ (by kernel_rfl) rfl
  (fun f fn hf hfn=>by
   obtain rfl:f=6:=Option.some.inj ((show Tryz.prog.funcNamed Rows.parsePlacesRow.func=some 6 by kernel_rfl).symm.trans hf) |>.symm
   obtain rfl:fn=Tryz.f6:=(Option.some.inj (Tryz.func6.symm.trans hfn)).symm
   exact ⟨by kernel_rfl,fun j t ht=>by
    rw [Tryz.params6] at ht
    have hm:t ∈ [42]:=by simpa using Array.mem_of_getElem? ht
    have hall:([42].all fun u=>!Tryz.prog.wantsStandIn u)=true:=by kernel_rfl
    exact (show Tryz.prog.wantsStandIn t=false by simpa using List.all_eq_true.1 hall t hm)⟩)
  (by kernel_rfl)
#print axioms proved
end Go.Proofs.YtcnnlecjdkfdjaaGreatDoor.parsePlaces
