/- LyBd TopT: the texts of these names, of which the claim is made. -/
import Derived.Test.YtcnnlecjdkfdjaaGreatDoorLyLexT
set_option linter.unusedVariables false
set_option linter.unusedSimpArgs false
set_option maxRecDepth 100000
set_option maxHeartbeats 8000000
namespace Go.Proofs.YtcnnlecjdkfdjaaGreatDoor.Ly
theorem tk_nu {l:List UInt8} {x:Int × Int} (h:tk l=some x):0≤x.2∧x.2≤9223372036854775807:=by
 unfold tk at h
 split at h
 ·split at h
  ·rename_i hb
   cases h
   unfold big at hb
   exact ⟨by omega,by show ((nv l:Nat):Int)≤_;omega⟩
  ·cases h
 split at h
 ·cases h;exact ⟨by decide,by decide⟩
 split at h
 ·cases h;exact ⟨by decide,by decide⟩
 split at h
 ·cases h;exact ⟨by decide,by decide⟩
 ·cases h
def OkT (n:Nat) (t:Tok):Prop:=t.tx.length≤n∧0≤t.nu∧t.nu≤9223372036854775807
theorem rawL_ok (n:Int):∀ (f at_:Nat) (l:List UInt8),∀ t ∈ (rawL n f at_ l).1,OkT l.length t:=by
 intro f
 induction f with
 | zero=>intro at_ l t ht;cases ht
 | succ f ih=>
  intro at_ l t ht
  unfold rawL at ht
  have hs:=sk_le l
  cases hk:sk l with
  | nil=>rw [hk] at ht;cases ht
  | cons c r=>
   rw [hk] at ht hs
   simp only at ht
   cases hx:tk ((c :: r).take (tl (c :: r))) with
   | none=>rw [hx] at ht;cases ht
   | some x=>
    rw [hx] at ht
    simp only at ht
    rcases List.mem_cons.1 ht with rfl | ht
    ·refine ⟨?_,tk_nu hx⟩
     show ((c :: r).take (tl (c :: r))).length≤l.length
     rw [List.length_take]
     omega
    ·have:=ih _ _ t ht
     refine ⟨?_,this.2⟩
     have h2:=this.1
     rw [List.length_drop] at h2
     omega
theorem spl_le:∀ (l:List UInt8),∀ x ∈ spl l,x.length≤l.length:=by
 intro l
 induction l with
 | nil=>intro x hx;simp [spl] at hx;subst hx;simp
 | cons c r ih=>
  intro x hx
  unfold spl at hx
  split at hx
  ·rcases List.mem_cons.1 hx with rfl | hx
   ·simp
   ·have:=ih x hx;simp only [List.length_cons];omega
  ·cases hs:spl r with
   | nil=>
    rw [hs] at hx
    simp at hx
    subst hx
    simp
   | cons h t=>
    rw [hs] at hx
    rcases List.mem_cons.1 hx with rfl | hx
    ·have:=ih h (by rw [hs];simp)
     simp only [List.length_cons];omega
    ·have:=ih x (by rw [hs];simp [hx])
     simp only [List.length_cons];omega
theorem num_mem:∀ (ls:List (List UInt8)) (n:Int),∀ x ∈ num n ls,x.2 ∈ ls:=by
 intro ls
 induction ls with
 | nil=>intro n x hx;cases hx
 | cons a r ih=>
  intro n x hx
  unfold num at hx
  rcases List.mem_cons.1 hx with rfl | hx
  ·simp
  ·exact List.mem_cons_of_mem _ (ih _ x hx)
theorem rawLs_ok (m:Nat):∀ (ls:List (Int × List UInt8)),(∀ x ∈ ls,x.2.length≤m)→∀ t ∈ (rawLs ls).1,OkT m t:=by
 intro ls
 induction ls with
 | nil=>intro _ t ht;cases ht
 | cons a r ih=>
  intro hl t ht
  have hr:∀ t ∈ (raw a.1 0 a.2).1,OkT m t:=fun t ht=>by
   have:=rawL_ok a.1 _ 0 a.2 t ht
   exact ⟨Nat.le_trans this.1 (hl a (by simp)),this.2⟩
  unfold rawLs at ht
  cases he:(raw a.1 0 a.2).2 with
  | some e=>rw [he] at ht;exact hr t ht
  | none=>
   rw [he] at ht
   simp only at ht
   rcases List.mem_append.1 ht with ht | ht
   ·exact hr t ht
   ·exact ih (fun x hx=>hl x (by simp [hx])) t ht
theorem lex_ok (l:List UInt8):∀ t ∈ (lexM l).1,OkT l.length t:=by
 intro t ht
 have h:=rawLs_ok l.length (num 1 (spl l)) (fun x hx=>spl_le l _ (num_mem _ _ x hx))
 unfold lexM cap at ht
 split at ht
 ·cases ht
 ·split at ht
  ·cases ht
  ·exact h t ht
theorem lex_len (l:List UInt8):(lexM l).1.length≤2000:=by
 unfold lexM cap
 split
 ·simp
 ·rename_i h
  split
  ·simp
  ·simp only
   rcases Nat.lt_or_ge 2000 (rawLs (num 1 (spl l))).1.length with h2 | h2
   ·rw [List.getElem?_eq_getElem h2] at h;cases h
   ·exact h2
section
variable {K:Tok→Prop} {t:Tok}
theorem endM_ok (may:Int→Bool) (ht:∀ c,K (pt1 c t)):∀ (st:List Blk) (o:List Tok),(∀ x ∈ o,K x)→∀ x ∈ (endM may t st o).2,K x:=by
 intro st
 induction st with
 | nil=>intro o ho;exact ho
 | cons b r ih=>
  intro o ho
  unfold endM
  split
  ·refine ih _ fun x hx=>?_
   rcases List.mem_append.1 hx with hx | hx
   ·exact ho x hx
   ·simp at hx;rw [hx];exact ht 125
  ·exact ho
theorem add_ok {o:List Tok} {y:Tok} (ho:∀ x ∈ o,K x) (hy:K y):∀ x ∈ o ++ [y],K x:=fun x hx=>by
 rcases List.mem_append.1 hx with hx | hx
 ·exact ho x hx
 ·simp at hx;rw [hx];exact hy
theorem lineM_ok (ht:∀ c,K (pt1 c t)) (st:List Blk) (o:List Tok) (ho:∀ x ∈ o,K x):∀ x ∈ (lineM t st o).2,K x:=by
 unfold lineM
 simp only
 have:=endM_ok (fun c=>decide (t.co<c)) ht st o ho
 split
 ·exact add_ok this (ht 59)
 ·exact this
theorem fitM_ok (ht:∀ c,K (pt1 c t)) (st:List Blk) (o:List Tok) (ho:∀ x ∈ o,K x) {r:List Blk × List Tok} (h:fitM t st o=some r):∀ x ∈ r.2,K x:=by
 unfold fitM popM at h
 split at h
 ·split at h
  ·cases h;exact endM_ok every ht st o ho
  ·cases h
 ·split at h
  ·cases h;exact ho
  ·cases h
theorem mid_ok (ht:∀ c,K (pt1 c t)) (nl:Bool) (s:Sm) (ho:∀ x ∈ s.2.1,K x) {r:List Blk × List Tok} (h:mid nl t s=some r):∀ x ∈ r.2,K x:=by
 unfold mid at h
 simp only at h
 have h1:∀ x ∈ (if nl && !s.2.2 then lineM t s.1 s.2.1 else (s.1,s.2.1)).2,K x:=by
  split
  ·exact lineM_ok ht _ _ ho
  ·exact ho
 split at h
 ·exact fitM_ok ht _ _ h1 h
 ·cases h;exact h1
theorem behM_ok (ht:∀ c,K (pt1 c t)) (rest:List Tok) (hr:∀ y ∈ rest,∀ c,K (pt1 c y)) (st:List Blk) (o:List Tok) (f:Bool) (ho:∀ x ∈ o,K x):∀ x ∈ (behM t rest st o f).2.1,K x:=by
 unfold behM
 split
 ·exact ho
 ·split
  ·unfold indM
   split
   ·exact add_ok (add_ok ho (ht 123)) (ht 125)
   ·rename_i n r
    split
    ·exact ho
    ·split
     ·exact add_ok ho (hr n (by simp) 123)
     ·exact add_ok (add_ok ho (ht 123)) (ht 125)
  ·exact ho
end
theorem goM_ok {K:Tok→Prop}:∀ (l:List Tok) (prev:Option Tok) (s s':Sm),(∀ t ∈ l,K t∧∀ c,K (pt1 c t))→(∀ x ∈ s.2.1,K x)→goM prev l s=.ok s'→∀ x ∈ s'.2.1,K x:=by
 intro l
 induction l with
 | nil=>intro prev s s' _ ho h;cases h;exact ho
 | cons t r ih=>
  intro prev s s' hl ho h
  have ht:=hl t (by simp)
  unfold goM at h
  cases hs:stepM (over prev t) t r s with
  | none=>rw [hs] at h;cases h
  | some s1=>
   rw [hs] at h
   refine ih (some t) s1 s' (fun y hy=>hl y (by simp [hy])) ?_ h
   unfold stepM at hs
   cases hm:mid (over prev t) t s with
   | none=>rw [hm] at hs;cases hs
   | some q=>
    rw [hm] at hs
    cases hs
    exact behM_ok ht.2 r (fun y hy=>(hl y (by simp [hy])).2) _ _ _ (add_ok (mid_ok ht.2 _ s ho hm) ht.1)
theorem lay_cons (t:Tok) (r:List Tok):layM (t :: r)=resM ((t :: r).getLast (by simp)) (goM none (t :: r) (start t)):=rfl
theorem lay_ok {K:Tok→Prop} (l:List Tok) (hl:∀ t ∈ l,K t∧∀ c,K (pt1 c t)):∀ x ∈ (layM l).1,K x:=by
 cases l with
 | nil=>intro x hx;cases hx
 | cons t r=>
  rw [lay_cons]
  have hst:∀ x ∈ (start t).2.1,K x:=by
   unfold start
   split
   ·intro x hx;cases hx
   ·intro x hx
    simp at hx
    rw [hx]
    exact (hl t (by simp)).2 123
  have hlast:=hl _ (List.getLast_mem (l:=t :: r) (by simp))
  generalize (t :: r).getLast (by simp)=u at *
  cases hg:goM none (t :: r) (start t) with
  | error e=>intro x hx;cases hx
  | ok s=>
   have h1:=goM_ok (t :: r) none (start t) s hl hst hg
   show ∀ x ∈ (finM u s).1,K x
   unfold finM
   split
   ·exact endM_ok every hlast.2 _ _ h1
   ·intro x hx;cases hx
theorem goM_len:∀ (l:List Tok) (prev:Option Tok) (s s':Sm),goM prev l s=.ok s'→s'.2.1.length+s'.1.length≤s.2.1.length+s.1.length+4 * l.length:=by
 intro l
 induction l with
 | nil=>intro prev s s' h;cases h;exact Nat.le_refl _
 | cons t r ih=>
  intro prev s s' h
  unfold goM at h
  cases hs:stepM (over prev t) t r s with
  | none=>rw [hs] at h;cases h
  | some s1=>
   rw [hs] at h
   have h1:=ih (some t) s1 s' h
   unfold stepM at hs
   cases hm:mid (over prev t) t s with
   | none=>rw [hm] at hs;cases hs
   | some q=>
    rw [hm] at hs
    cases hs
    have h2:=mid_sum hm
    have h3:=behM_sum t r q.1 (q.2 ++ [t]) false
    simp only [List.length_append,List.length_cons,List.length_nil] at h1 h3 ⊢
    omega
theorem lay_len (l:List Tok):(layM l).1.length≤4 * l.length+4:=by
 cases l with
 | nil=>simp [layM]
 | cons t r=>
  rw [lay_cons]
  generalize (t :: r).getLast (by simp)=u
  cases hg:goM none (t :: r) (start t) with
  | error e=>simp [resM]
  | ok s=>
   have h1:=goM_len (t :: r) none (start t) s hg
   have h2:(start t).2.1.length+(start t).1.length≤2:=by unfold start;split <;> simp
   show (finM u s).1.length≤_
   unfold finM
   split
   ·have h3:=endM_sum every u s.1 s.2.1
    simp only at h3 ⊢
    omega
   ·simp
end Go.Proofs.YtcnnlecjdkfdjaaGreatDoor.Ly
namespace Go.Proofs.YtcnnlecjdkfdjaaGreatDoor
open Go.RowKit
def tkOf (t:Ly.Tok):Tk:=⟨t.kd,t.tx,t.nu,t.ln,t.co⟩
theorem km_of {w:World} {p:Option Addr} {ts:List Ly.Tok} {n:Nat} (h:Ly.TMem w p ts) (hk:∀ t ∈ ts,Ly.OkT n t) (hn:n≤281474976710656):KM (fun b=>b<w.heap.size) w p (ts.map tkOf):=by
 rcases h with rfl | ⟨b,o,rfl,hb,hm⟩
 ·exact .inl rfl
 ·refine .inr ⟨b,o,rfl,hb,fun i x hx=>?_⟩
  rw [List.getElem?_map] at hx
  cases ht:ts[i]? with
  | none=>rw [ht] at hx;cases hx
  | some t=>
   rw [ht] at hx
   cases hx
   obtain ⟨c0,c1,c2,c3,c4⟩:=hm i t ht
   obtain ⟨k1,k2,k3⟩:=hk t (List.mem_of_getElem? ht)
   refine ⟨tkC (tkOf t),rfl,fun j d hj=>?_,rfl,Nat.le_trans k1 hn,Int.le_trans (by decide) k2,k3⟩
   match j,hj with
   | 0,hj=>cases hj;exact c0
   | 1,hj=>cases hj;exact c1
   | 2,hj=>cases hj;exact c2
   | 3,hj=>cases hj;exact c3
   | 4,hj=>cases hj;exact c4
def toksOf (src:List UInt8):List Tk:=(Ly.layM (Ly.lexM src).1).1.map tkOf
theorem toks_ok (src:List UInt8):∀ t ∈ (Ly.layM (Ly.lexM src).1).1,Ly.OkT (src.length+1) t:=by
 refine Ly.lay_ok (K:=Ly.OkT (src.length+1)) (Ly.lexM src).1 fun t ht=>⟨?_,fun c=>⟨by show 1≤_;omega,Int.le_refl _,by show (0:Int)≤_;decide⟩⟩
 have:=Ly.lex_ok src t ht
 exact ⟨Nat.le_succ_of_le this.1,this.2⟩
theorem toks_len (src:List UInt8):(toksOf src).length≤8004:=by
 unfold toksOf
 rw [List.length_map]
 have h1:=Ly.lay_len (Ly.lexM src).1
 have h2:=Ly.lex_len src
 omega
def textOut (src:List UInt8):Pg × (Int × Int) × Int:=if Ly.ern src=0 then (if (Ly.layM (Ly.lexM src).1).2.2=0 then progOut (toksOf src) else (⟨[],[]⟩,(Ly.layM (Ly.lexM src).1).2)) else (⟨[],[]⟩,Ly.plc src,Ly.ern src)
theorem tmem_place {w:World} {p:Option Addr} {l:List Ly.Tok} {b:Nat} {x y:Int} {t:TypeId} (h:Ly.TMem w p l) (hb:Hold b #[.int .i64 x,.int .i64 y] t w) (i:Nat) (v:Value):Ly.TMem (w.setCell ⟨b,i,none⟩ v) p l:=by
 cases l with
 | nil=>exact .inl rfl
 | cons t0 r=>
  rcases h with h | ⟨g,o,rfl,hg,hc⟩
  ·cases h
  ·have hne:g≠b:=by
    rintro rfl
    have h1:=(hc 0 t0 rfl).2.1
    rw [hb.cell] at h1
    match o with
    | 0=>simp at h1
    | 1=>simp at h1
    | o+2=>simp at h1
   have e:∀ j,(w.setCell ⟨b,i,none⟩ v).cell? ⟨g,j,none⟩=w.cell? ⟨g,j,none⟩:=fun j=>World.cell?_of_block (Below.heap_setCell _ _ _ g hne)
   exact .inr ⟨g,o,rfl,by simpa using hg,fun k t ht=>by rw [e,e,e,e,e];exact hc k t ht⟩
theorem ptext_any {w:World} {p:Option Addr} {m c:Nat} {src:List UInt8} (hl:src.length=m) (hm:m≤2147480000) (hmc:m≤c) (hM:Ly.Mem w p src) (hp:p=none→c=0) (hg:Ly.Glob w) :
 Calls Tryz.prog 17 #[.slice p m c] w fun r w'=>∃ pd cd pf cf,r=.returned (.tuple #[.agg #[.slice pd (textOut src).1.ds.length cd,.slice pf (textOut src).1.fs.length cf],.agg #[.int .i64 (textOut src).2.1.1,.int .i64 (textOut src).2.1.2],.int .i64 (textOut src).2.2])∧PgIn2 (QU w') (fun b=>b<w'.heap.size∧w.heap.size≤b) w' (textOut src).1 [.slice pd (textOut src).1.ds.length cd,.slice pf (textOut src).1.fs.length cf]∧Below w.heap.size w w':=by
 obtain ⟨W1,hW1⟩:∃ W1,W1=(w.alloc (.cells #[.slice none 0 0,.slice none 0 0] 38)).alloc (.cells #[.int .i64 0,.int .i64 0] 29):=⟨_,rfl⟩
 have hB1:Below w.heap.size w W1:=by rw [hW1];exact ((Below.refl _ w).alloc (Nat.le_refl _) _).alloc (by simp) _
 have hs1:W1.heap.size=w.heap.size+2:=by rw [hW1];simp
 have hR:Hold w.heap.size #[.slice none 0 0,.slice none 0 0] 38 W1:=by rw [hW1];exact (Hold.new w _ 38).alloc _
 have hQ:Hold (w.heap.size+1) #[.int .i64 0,.int .i64 0] 29 W1:=by rw [hW1];have:=Hold.new (w.alloc (.cells #[.slice none 0 0,.slice none 0 0] 38)) #[.int .i64 0,.int .i64 0] 29;simpa using this
 have hM1:=hM.below (Nat.le_refl _) hB1
 have hg1:=hg.below (Nat.le_refl _) hB1
 have hlex:=Ly.lex_told p m c src W1 hl (by omega) hmc hM1 hp hg1
 have hEX:textOut src=if Ly.ern src=0 then (if (Ly.layM (Ly.lexM src).1).2.2=0 then progOut (toksOf src) else (⟨[],[]⟩,(Ly.layM (Ly.lexM src).1).2)) else (⟨[],[]⟩,Ly.plc src,Ly.ern src):=rfl
 have HEX:=hide hEX
 have HLEX:=hide hlex
 have HB1:=hide hB1
 have HR:=hide hR
 have HQ:=hide hQ
 have hlen:=Ly.lex_len src
 clear hEX hlex hB1 hR hQ hM1 hg1 hM hg
 subst hW1
 generalize textOut src=E at *
 go_enter Tryz.func17,Tryz.ntmps17
 go_wp2_with fail
 refine HLEX.out.mono ?_
 rintro r w2 ⟨pa,cp,rfl,hT,hcp,hb2⟩
 have hs2:=hb2.size
 have HR2:=hide (HR.out.below hb2 HR.out.lt)
 have HQ2:=hide (HQ.out.below hb2 HQ.out.lt)
 have HB2:=hide (HB1.out.trans (hb2.mono HB1.out.size))
 clear hb2 HR HQ HB1 HLEX
 by_cases h0:Ly.ern src=0
 ·have HEE:=hide (HEX.out.trans (if_pos h0))
  rw [h0]
  clear HEX
  go_wp2_with fail
  obtain ⟨W3,hW3⟩:∃ W3,W3=w2.alloc (.cells #[.int .i64 (Ly.plc src).1,.int .i64 (Ly.plc src).2] 29):=⟨_,rfl⟩
  have HR3:=hide (show Hold w.heap.size #[.slice none 0 0,.slice none 0 0] 38 W3 from by rw [hW3];exact HR2.out.alloc _)
  have HQ3:=hide (show Hold (w.heap.size+1) #[.int .i64 0,.int .i64 0] 29 W3 from by rw [hW3];exact HQ2.out.alloc _)
  have HP3:=hide (show Hold w2.heap.size #[.int .i64 (Ly.plc src).1,.int .i64 (Ly.plc src).2] 29 W3 from by rw [hW3];exact Hold.new w2 _ 29)
  have HB3:=hide (show Below w.heap.size w W3 from by rw [hW3];exact HB2.out.alloc HB2.out.size _)
  have hs3:W3.heap.size=w2.heap.size+1:=by rw [hW3];simp
  rw [← hW3]
  have hT3:Ly.TMem W3 pa (Ly.lexM src).1:=by rw [hW3];exact hT.below (Nat.le_refl _) ((Below.refl _ w2).alloc (Nat.le_refl _) _)
  refine (Ly.lay_any pa _ cp _ W3 rfl (by omega) hcp hT3).mono ?_
  rintro r w4 ⟨pb,cb,rfl,hTb,hb4⟩
  have hs4:=hb4.size
  have HR4:=hide (HR3.out.below hb4 HR3.out.lt)
  have HQ4:=hide (HQ3.out.below hb4 HQ3.out.lt)
  have HP4:=hide (HP3.out.below hb4 HP3.out.lt)
  have HB4:=hide (HB3.out.trans (hb4.mono HB3.out.size))
  have hln:=toks_len src
  have hTK:=toks_ok src
  have hE2:toksOf src=(Ly.layM (Ly.lexM src).1).1.map tkOf:=rfl
  clear hb4 HR3 HQ3 HP3 HB3 hT3 hW3 HR2 HQ2 HB2 hT
  generalize Ly.layM (Ly.lexM src).1=z at *
  obtain ⟨zl,⟨z1,z2⟩,ze⟩:=z
  simp only at hTb hTK hE2 HEE ⊢
  have n1:w2.heap.size≠w.heap.size:=by omega
  have n2:w2.heap.size≠w.heap.size+1:=by omega
  obtain ⟨W5,hW5⟩:∃ W5,W5=(w4.setCell ⟨w2.heap.size,0,none⟩ (.int .i64 z1)).setCell ⟨w2.heap.size,1,none⟩ (.int .i64 z2):=⟨_,rfl⟩
  have HP5:=hide (show Hold w2.heap.size #[.int .i64 z1,.int .i64 z2] 29 W5 from by rw [hW5];exact (HP4.out.set 0 (.int .i64 z1)).set 1 (.int .i64 z2))
  have HR5:=hide (show Hold w.heap.size #[.slice none 0 0,.slice none 0 0] 38 W5 from by rw [hW5];exact (HR4.out.other n1.symm 0 _).other n1.symm 1 _)
  have HQ5:=hide (show Hold (w.heap.size+1) #[.int .i64 0,.int .i64 0] 29 W5 from by rw [hW5];exact (HQ4.out.other n2.symm 0 _).other n2.symm 1 _)
  have HB5:=hide (show Below w.heap.size w W5 from by rw [hW5];exact (HB4.out.setCell (by show w.heap.size≤w2.heap.size;omega) _).setCell (by show w.heap.size≤w2.heap.size;omega) _)
  have HT5:=hide (show Ly.TMem W5 pb zl from by rw [hW5];exact tmem_place (tmem_place hTb HP4.out 0 _) (HP4.out.set 0 (.int .i64 z1)) 1 _)
  have p0:=HP4.out.cell 0
  have p1:=HP4.out.cell 1
  have q0:=HP4.out.frozen 0
  have q1:=HP4.out.frozen 1
  simp only [lGA,lGS,lGZ] at p0 p1
  by_cases h1:ze=0
  ·have HE1:=hide (HEE.out.trans (if_pos h1))
   obtain rfl:=h1
   clear HEE
   go_wp2_with fail
   rw [← hW5]
   clear hW5 p0 p1 q0 q1 hTb HP4 HR4 HQ4 HB4
   refine (pprog_any (P:=fun b=>b<W5.heap.size) (l:=toksOf src) (n:=zl.length) (fun b hb=>hb) (by rw [hE2,List.length_map]) (hE2 ▸ km_of HT5.out hTK (by omega)) (by rw [hE2,List.length_map] at hln;omega)).mono ?_
   rw [← HE1.out]
   rintro r w6 ⟨pd,cd,pf,cf,rfl,hE6,hb6⟩
   have HR6:=hide (HR5.out.below hb6 HR5.out.lt)
   have HQ6:=hide (HQ5.out.below hb6 HQ5.out.lt)
   have HB6:=hide (HB5.out.trans (hb6.mono HB5.out.size))
   have hs6:=hb6.size
   have hs5:=HQ5.out.lt
   have HE6:=hide hE6
   clear hb6 hE6 HP5 HR5 HQ5 HB5 HT5
   have a0:=HR6.out.cell 0
   have a1:=HR6.out.cell 1
   have d0:=HQ6.out.cell 0
   have d1:=HQ6.out.cell 1
   have f0:=HR6.out.frozen 0
   have f1:=HR6.out.frozen 1
   have g0:=HQ6.out.frozen 0
   have g1:=HQ6.out.frozen 1
   simp only [lGA,lGS,lGZ] at a0 a1 d0 d1
   go_wp2_with fail
   obtain ⟨x0,x1,x2,x3,qB,qK⟩:=put4_hold (.slice pd E.1.ds.length cd) (.slice pf E.1.fs.length cf) (.int .i64 E.2.1.1) (.int .i64 E.2.1.2) rfl rfl HR6.out HQ6.out HB6.out
   have hun:∀ b,QU w6 b→b≠w.heap.size∧b≠w.heap.size+1:=fun b hb=>by
    obtain ⟨h1,cs,t,h2,h3,h4⟩:=hb
    refine ⟨fun e=>?_,fun e=>?_⟩
    ·have h5:=HR6.out
     unfold Hold at h5
     rw [← e,h2] at h5
     cases h5
     exact h4 rfl
    ·have h5:=HQ6.out
     unfold Hold at h5
     rw [← e,h2] at h5
     cases h5
     exact h3 rfl
   have hin:=PgIn2.mono2 (Q:=QU w6) (Q':=QU (put4 w6 w.heap.size (.slice pd E.1.ds.length cd) (.slice pf E.1.fs.length cf) (.int .i64 E.2.1.1) (.int .i64 E.2.1.2))) (P':=fun b=>b<(put4 w6 w.heap.size (.slice pd E.1.ds.length cd) (.slice pf E.1.fs.length cf) (.int .i64 E.2.1.1) (.int .i64 E.2.1.2)).heap.size∧w.heap.size≤b) (qK.mono fun b hb=>hun b hb) (qK.mono fun b hb=>⟨by have:=hb.2;omega,by have:=hb.2;omega⟩) (fun b hb=>hb.keep qK.size (qK.block b (hun b hb))) (fun b hb=>⟨Nat.lt_of_lt_of_le hb.1 qK.size,by have:=hb.2;omega⟩) _ _ HE6.out
   unfold put4 at x0 x1 x2 x3 qB qK hin
   exact bodyPost_ret (v:=.tuple #[.agg #[.slice pd E.1.ds.length cd,.slice pf E.1.fs.length cf],.agg #[.int .i64 E.2.1.1,.int .i64 E.2.1.2],.int .i64 E.2.2]) (by simp only [results,Tryz.results17];go_simp) rfl ⟨pd,cd,pf,cf,rfl,hin,qB⟩
  ·obtain rfl:E=(⟨[],[]⟩,(z1,z2),ze):=HEE.out.trans (if_neg h1)
   have hn:(ze != 0)=true:=by simpa using h1
   clear HEE
   go_wp2_with fail
   rw [← hW5]
   clear hW5 p0 p1 q0 q1 hTb HP4 HR4 HQ4 HB4
   have a0:=HR5.out.cell 0
   have a1:=HR5.out.cell 1
   have d0:=HQ5.out.cell 0
   have d1:=HQ5.out.cell 1
   have e0:=HP5.out.cell 0
   have e1:=HP5.out.cell 1
   have f0:=HR5.out.frozen 0
   have f1:=HR5.out.frozen 1
   have g0:=HQ5.out.frozen 0
   have g1:=HQ5.out.frozen 1
   simp only [lGA,lGS,lGZ] at a0 a1 d0 d1 e0 e1
   go_region
   all_goals go_wp2_with fail
   all_goals
    obtain ⟨x0,x1,x2,x3,qB,qK⟩:=put4_hold (.slice none 0 0) (.slice none 0 0) (.int .i64 z1) (.int .i64 z2) rfl rfl HR5.out HQ5.out HB5.out
    unfold put4 at x0 x1 x2 x3 qB qK
    exact bodyPost_ret (v:=.tuple #[.agg #[.slice none 0 0,.slice none 0 0],.agg #[.int .i64 z1,.int .i64 z2],.int .i64 ze]) (by simp only [results,Tryz.results17];go_simp) rfl ⟨none,0,none,0,rfl,pg0_in _ _ _,qB.drew⟩
 ·obtain rfl:E=(⟨[],[]⟩,Ly.plc src,Ly.ern src):=HEX.out.trans (if_neg h0)
  have hn:(Ly.ern src != 0)=true:=by simpa using h0
  clear HEX
  go_wp2_with fail
  obtain ⟨W3,hW3⟩:∃ W3,W3=w2.alloc (.cells #[.int .i64 (Ly.plc src).1,.int .i64 (Ly.plc src).2] 29):=⟨_,rfl⟩
  have HR3:=hide (show Hold w.heap.size #[.slice none 0 0,.slice none 0 0] 38 W3 from by rw [hW3];exact HR2.out.alloc _)
  have HQ3:=hide (show Hold (w.heap.size+1) #[.int .i64 0,.int .i64 0] 29 W3 from by rw [hW3];exact HQ2.out.alloc _)
  have HP3:=hide (show Hold w2.heap.size #[.int .i64 (Ly.plc src).1,.int .i64 (Ly.plc src).2] 29 W3 from by rw [hW3];exact Hold.new w2 _ 29)
  have HB3:=hide (show Below w.heap.size w W3 from by rw [hW3];exact HB2.out.alloc HB2.out.size _)
  have hs3:W3.heap.size=w2.heap.size+1:=by rw [hW3];simp
  rw [← hW3]
  have a0:=HR3.out.cell 0
  have a1:=HR3.out.cell 1
  have d0:=HQ3.out.cell 0
  have d1:=HQ3.out.cell 1
  have e0:=HP3.out.cell 0
  have e1:=HP3.out.cell 1
  have f0:=HR3.out.frozen 0
  have f1:=HR3.out.frozen 1
  have g0:=HQ3.out.frozen 0
  have g1:=HQ3.out.frozen 1
  simp only [lGA,lGS,lGZ] at a0 a1 d0 d1 e0 e1
  clear hW3
  go_region
  all_goals go_wp2_with fail
  all_goals
   obtain ⟨x0,x1,x2,x3,qB,qK⟩:=put4_hold (.slice none 0 0) (.slice none 0 0) (.int .i64 (Ly.plc src).1) (.int .i64 (Ly.plc src).2) rfl rfl HR3.out HQ3.out HB3.out
   unfold put4 at x0 x1 x2 x3 qB qK
   exact bodyPost_ret (v:=.tuple #[.agg #[.slice none 0 0,.slice none 0 0],.agg #[.int .i64 (Ly.plc src).1,.int .i64 (Ly.plc src).2],.int .i64 (Ly.ern src)]) (by simp only [results,Tryz.results17];go_simp) rfl ⟨none,0,none,0,rfl,pg0_in _ _ _,qB.drew⟩
end Go.Proofs.YtcnnlecjdkfdjaaGreatDoor
