/- Parts of the proof. -/
import Derived.Test.YtcnnlecjdkfdjaaGreatDoorThenP
set_option linter.unusedVariables false
set_option linter.unusedSimpArgs false
set_option maxRecDepth 100000
set_option maxHeartbeats 8000000
namespace Go.Proofs.YtcnnlecjdkfdjaaGreatDoor
open Go.RowKit
structure PW (c:Nat→Nat) (B:Nat) (l:List Tk) (w:World) (p:Ps) (W:World):Prop where
 ltB:B<w.heap.size
 colB:c B=1
 pm:∀ c':Nat→Nat,(∀ b,b<w.heap.size→c' b=c b)→PM c' B l p W
 kept:KP (fun b=>b<w.heap.size∧b≠B) w W
section
variable {c:Nat→Nat} {B:Nat} {l:List Tk} {w:World} {p:Ps} {W W':World}
theorem PM.below (h:PM c B l p w) {c':Nat→Nat} (hb:Below w.heap.size w W) (hc:∀ b,b<w.heap.size→c' b=c b):PM c' B l p W:=by
 obtain ⟨tp,tc,vr,ve,vs,vf,vd,vp,hS⟩:=h
 exact ⟨tp,tc,vr,ve,vs,vf,vd,vp,hS.below hb hc⟩
theorem PW.start (h:PM c B l p w):PW c B l w p w:=by
 have h':=h
 obtain ⟨tp,tc,vr,ve,vs,vf,vd,vp,hS⟩:=h'
 exact ⟨hS.hold.lt,hS.colB,fun c' hc=>h.below (Below.refl _ _) hc,KP.refl _ _⟩
theorem PW.size (h:PW c B l w p W):w.heap.size≤W.heap.size:=h.kept.size
theorem PW.below (h:PW c B l w p W) (hb:Below W.heap.size W W'):PW c B l w p W':=
 ⟨h.ltB,h.colB,fun c' hc=>(h.pm c' hc).below hb fun _ _=>rfl,h.kept.trans (KP.of_below hb fun b hb=>Nat.lt_of_lt_of_le hb.1 h.kept.size)⟩
theorem PW.alloc (h:PW c B l w p W) (o:Obj):PW c B l w p (W.alloc o):=h.below ((Below.refl _ W).alloc (Nat.le_refl _) o)
theorem PW.drew (h:PW c B l w p W):PW c B l w p W.drew:=h.below ⟨rfl,rfl,rfl,Nat.le_refl _,fun _ _=>rfl⟩
def col9 (c:Nat→Nat) (w:World) (b:Nat):Nat:=if b<w.heap.size then c b else 9
theorem col9_old (c:Nat→Nat) (w:World):∀ b,b<w.heap.size→col9 c w b=c b:=fun b hb=>by simp [col9,hb]
theorem PW.look (h:PW c B l w p W):∃ tp tc vr ve vs vf vd vp,PLook (Imm c w) B l tp l.length tc p.tk vr ve vs vf vd vp W:=by
 obtain ⟨tp,tc,vr,ve,vs,vf,vd,vp,hS⟩:=h.pm (col9 c w) (col9_old c w)
 refine ⟨tp,tc,vr,ve,vs,vf,vd,vp,hS.hold,fun b hb=>Nat.lt_of_lt_of_le hb.1 h.size,rfl,?_,hS.len,hS.at'⟩
 refine hS.toks.keep (KP.refl _ _) (fun b hb=>?_) (fun _ _ h=>h)
 have h2:=hb.2
 unfold col9 at h2
 split at h2
 ·exact ⟨by assumption,h2⟩
 ·cases h2
theorem PW.taken (h:PW c B l w p W) {n:Nat} (hk:Kept B W W') {tp:Option Addr} {tn tc:Nat} {vr ve vs vf vd vp:Value} (h0:Hold B (psC tp tn tc p.tk vr ve vs vf vd vp) 63 W) (hh:Hold B (psC tp tn tc n vr ve vs vf vd vp) 63 W') (hn:n≤1000000):PW c B l w { p with tk:=n } W':=by
 refine ⟨h.ltB,h.colB,fun c' hc=>?_,h.kept.trans (hk.mono fun b hb=>⟨Nat.lt_of_lt_of_le hb.1 h.size,hb.2⟩)⟩
 obtain ⟨tp',tc',vr',ve',vs',vf',vd',vp',hS⟩:=h.pm c' hc
 have e:=hS.hold
 unfold Hold at e h0
 rw [h0] at e
 cases e
 exact ⟨_,_,_,_,_,_,_,_,hS.kept hk (fun _ _=>rfl) hh hn⟩
theorem PW.imm (h:PW c B l w p W):KP (Imm c w) w W:=h.kept.mono fun b hb=>⟨hb.1,fun e=>by have:=h.colB;rw [← e,hb.2] at this;cases this⟩
theorem PW.stuck (h:PW c B l w p W) {n:Nat} (hn:n=p.tk):RQ c B l w (.inl n) (.panicked stuckV) W:=by
 obtain ⟨tp,tc,vr,ve,vs,vf,vd,vp,hL⟩:=h.look
 subst hn
 exact ⟨rfl,⟨tp,tc,vr,ve,vs,vf,vd,vp,hL.hold,hL.toks.keep (KP.refl _ _) hL.lt (fun _ _ h=>h)⟩,h.imm⟩
theorem PW.done (h:PW c B l w p W):RQ c B l w (.inr p) (.returned (.tuple #[])) W:=
 ⟨rfl,col9 c w,h.pm _ (col9_old c w),fun b hb=>⟨Nat.lt_of_lt_of_le hb.1 h.size,(col9_old c w b hb.1).trans hb.2⟩,h.imm⟩
theorem RQ.trans {c1:Nat→Nat} {w1:World} {x:Rs} {e:Ending} (hi:∀ b,Imm c w b→Imm c1 w1 b) (hk:KP (Imm c w) w w1) (h:RQ c1 B l w1 x e W):RQ c B l w x e W:=by
 cases x with
 | inl n=>
  obtain ⟨h1,⟨tp,tc,vr,ve,vs,vf,vd,vp,h2,h3⟩,h4⟩:=h
  exact ⟨h1,⟨tp,tc,vr,ve,vs,vf,vd,vp,h2,h3⟩,hk.trans (h4.mono hi)⟩
 | inr q=>
  obtain ⟨h1,c2,h2,h3,h4⟩:=h
  exact ⟨h1,c2,h2,fun b hb=>h3 b (hi b hb),hk.trans (h4.mono hi)⟩
theorem isKeyW (h:PW c B l w p W) {b n cap:Nat} {L:List (List UInt8)} (hn:L.length=n) (hm:n≤1000) (hM:RowStr W b L) (hb:b<W.heap.size) :
 Calls Tryz.prog 57 #[.pointer (some ⟨B,0,none⟩),.slice (some ⟨b,0,none⟩) n cap] W fun r W'=>r=.returned (.bool (L.any fun s=>isK l p.tk s))∧PW c B l w p W'∧Below W.heap.size W W':=by
 obtain ⟨tp,tc,vr,ve,vs,vf,vd,vp,hL⟩:=h.look
 refine (isKey_any (c:=cap) hL hn hm hM hb).mono ?_
 rintro r W' ⟨rfl,hb⟩
 exact ⟨rfl,h.below hb,hb⟩
theorem isW (h:PW c B l w p W) {b n cap:Nat} {L:List Int} (hn:L.length=n) (hm:n≤1000) (hM:RowInt W b L) (hb:b<W.heap.size) :
 Calls Tryz.prog 112 #[.pointer (some ⟨B,0,none⟩),.slice (some ⟨b,0,none⟩) n cap] W fun r W'=>r=.returned (.bool (decide ((tkAt l p.tk).kd ∈ L)))∧PW c B l w p W'∧Below W.heap.size W W':=by
 obtain ⟨tp,tc,vr,ve,vs,vf,vd,vp,hL⟩:=h.look
 refine (is_any (c:=cap) hL hn hm hM hb).mono ?_
 rintro r W' ⟨rfl,hb⟩
 exact ⟨rfl,h.below hb,hb⟩
theorem keyW_no (h:PW c B l w p W) {s:List UInt8} (hk:isK l p.tk s=false) :
 Calls Tryz.prog 74 #[.pointer (some ⟨B,0,none⟩),.string (S s)] W fun r W'=>r=.panicked stuckV∧PW c B l w p W':=by
 obtain ⟨tp,tc,vr,ve,vs,vf,vd,vp,hL⟩:=h.look
 refine (key_no hL hk).mono ?_
 rintro r W' ⟨rfl,hb⟩
 exact ⟨rfl,h.below hb⟩
theorem keyW_yes (h:PW c B l w p W) {s:List UInt8} (hk:isK l p.tk s=true) :
 Calls Tryz.prog 74 #[.pointer (some ⟨B,0,none⟩),.string (S s)] W fun r W'=>r=.returned (.tuple #[])∧PW c B l w { p with tk:=p.tk+1 } W'∧Kept B W W':=by
 obtain ⟨tp,tc,vr,ve,vs,vf,vd,vp,hL⟩:=h.look
 refine (key_yes hL hk).mono ?_
 rintro r W' ⟨rfl,h1,h2⟩
 exact ⟨rfl,h.taken h2 hL.hold h1 (by have:=isK_lt hk;have:=hL.max;omega),h2⟩
theorem takeW_yes (h:PW c B l w p W) {k:Int} (h0:k≠0) (hk:isD l p.tk k=true) :
 Calls Tryz.prog 138 #[.pointer (some ⟨B,0,none⟩),.int .i64 k] W fun r W'=>r=.returned (.agg (tkC (tkAt l p.tk)).toArray)∧PW c B l w { p with tk:=p.tk+1 } W'∧Kept B W W':=by
 obtain ⟨tp,tc,vr,ve,vs,vf,vd,vp,hL⟩:=h.look
 refine (take_yes hL hk).mono ?_
 rintro r W' ⟨rfl,h1,h2⟩
 exact ⟨rfl,h.taken h2 hL.hold h1 (by have:=isD_lt h0 hk;have:=hL.max;omega),h2⟩
theorem nameW_no (h:PW c B l w p W) (hk:isD l p.tk 2=false) :
 Calls Tryz.prog 117 #[.pointer (some ⟨B,0,none⟩)] W fun r W'=>r=.panicked stuckV∧PW c B l w p W':=by
 obtain ⟨tp,tc,vr,ve,vs,vf,vd,vp,hL⟩:=h.look
 refine (name_no hL hk).mono ?_
 rintro r W' ⟨rfl,hb⟩
 exact ⟨rfl,h.below hb⟩
theorem nameW_yes (h:PW c B l w p W) (hk:isD l p.tk 2=true) :
 Calls Tryz.prog 117 #[.pointer (some ⟨B,0,none⟩)] W fun r W'=>r=.returned (.string (S (tkAt l p.tk).tx))∧PW c B l w { p with tk:=p.tk+1 } W'∧Kept B W W':=by
 obtain ⟨tp,tc,vr,ve,vs,vf,vd,vp,hL⟩:=h.look
 refine (name_yes hL hk).mono ?_
 rintro r W' ⟨rfl,h1,h2⟩
 exact ⟨rfl,h.taken h2 hL.hold h1 (by have:=isD_lt (by decide) hk;have:=hL.max;omega),h2⟩
theorem conW_no (h:PW c B l w p W) (hk:isD l p.tk 3=false) :
 Calls Tryz.prog 174 #[.pointer (some ⟨B,0,none⟩)] W fun r W'=>r=.panicked stuckV∧PW c B l w p W':=by
 obtain ⟨tp,tc,vr,ve,vs,vf,vd,vp,hL⟩:=h.look
 refine (con_no hL hk).mono ?_
 rintro r W' ⟨rfl,hb⟩
 exact ⟨rfl,h.below hb⟩
theorem conW_yes (h:PW c B l w p W) (hk:isD l p.tk 3=true) :
 Calls Tryz.prog 174 #[.pointer (some ⟨B,0,none⟩)] W fun r W'=>r=.returned (.string (S (tkAt l p.tk).tx))∧PW c B l w { p with tk:=p.tk+1 } W'∧Kept B W W':=by
 obtain ⟨tp,tc,vr,ve,vs,vf,vd,vp,hL⟩:=h.look
 refine (con_yes hL hk).mono ?_
 rintro r W' ⟨rfl,h1,h2⟩
 exact ⟨rfl,h.taken h2 hL.hold h1 (by have:=isD_lt (by decide) hk;have:=hL.max;omega),h2⟩
theorem PW.token (h:PW c B l w p W) (i:Nat):(tkAt l i).tx.length≤281474976710656∧-9223372036854775808≤(tkAt l i).nu∧(tkAt l i).nu≤9223372036854775807:=by
 obtain ⟨tp,tc,vr,ve,vs,vf,vd,vp,hL⟩:=h.look
 unfold tkAt
 by_cases hi:i<l.length
 ·have hg:l.getD i tk0=l[i]:=by simp [List.getD,List.getElem?_eq_getElem hi]
  rw [hg]
  rcases hL.toks with he | ⟨b,o,rfl,hPb,hma⟩
  ·rw [he] at hi;simp at hi
  ·obtain ⟨ds,_,_,_,hz⟩:=hma i l[i] (by simp)
   exact hz
 ·have hg:l.getD i tk0=tk0:=by simp [List.getD,List.getElem?_eq_none (show l.length≤i by omega)]
  rw [hg]
  exact ⟨by simp [tk0],by simp [tk0],by simp [tk0]⟩
theorem thenW (h:PW c B l w p W) {b0 m cap:Nat} {rs:List Ru} (hn:p.ru.length≤1000000000) (hl:rs.length=m) (hm:m≤1000) {L:List Value} (hL:Hold b0 L.toArray 1 W) {c1:Nat→Nat} (hc1:∀ b,b<w.heap.size→c1 b=c b) (hc0:c1 b0=0) (hLl:L.length=m) (hR:∀ i r,rs[i]?=some r→∃ v,L[i]?=some v∧RuV B c1 W (p.ru.length+(m - 1 - i)) v r) :
 Calls Tryz.prog 55 #[.pointer (some ⟨B,0,none⟩),.slice (some ⟨b0,0,none⟩) m cap] W (RQ c B l w (.inr { p with ru:=rs ++ p.ru })):=by
 refine (then_any (h.pm c1 hc1) hn hl hm hL hc0 hLl hR).mono ?_
 rintro e W' ⟨rfl,c2,h1,h2,h3⟩
 have hi:∀ b,Imm c w b→Imm c1 W b:=fun b hb=>⟨Nat.lt_of_lt_of_le hb.1 h.size,(hc1 b hb.1).trans hb.2⟩
 exact ⟨rfl,c2,h2,fun b hb=>⟨Nat.lt_of_lt_of_le (hi b hb).1 h3.size,(h1 b (hi b hb).1).trans (hi b hb).2⟩,h.imm.trans (h3.mono hi)⟩
def Rus (B:Nat) (c:Nat→Nat) (W:World) (n:Nat):List Ru→List Value→Prop
 | [],[]=>True
 | r :: rs,v :: vs=>RuV B c W (n+rs.length) v r∧Rus B c W n rs vs
 | _,_=>False
theorem Rus.len {n:Nat}:∀ {rs:List Ru} {L:List Value},Rus B c W n rs L→L.length=rs.length
 | [],[],_=>rfl
 | r :: rs,v :: vs,h=>by rw [List.length_cons,List.length_cons,h.2.len]
 | [],_ :: _,h=>h.elim
 | _ :: _,[],h=>h.elim
theorem Rus.at {n:Nat}:∀ {rs:List Ru} {L:List Value},Rus B c W n rs L→∀ i r,rs[i]?=some r→∃ v,L[i]?=some v∧RuV B c W (n+(rs.length - 1 - i)) v r
 | [],[],_,i,r,hi=>by simp at hi
 | r :: rs,v :: vs,h,0,r',hi=>by
  simp at hi
  subst hi
  exact ⟨v,rfl,by have:=h.1;simpa using this⟩
 | r :: rs,v :: vs,h,i+1,r',hi=>by
  rw [lGS] at hi
  obtain ⟨u,h1,h2⟩:=h.2.at i r' hi
  refine ⟨u,by rw [lGS];exact h1,?_⟩
  rw [show (r :: rs).length - 1 - (i+1)=rs.length - 1 - i by rw [List.length_cons];omega]
  exact h2
 | [],_ :: _,h,_,_,_=>h.elim
 | _ :: _,[],h,_,_,_=>h.elim
theorem thenU (h:PW c B l w p W) {b0 m cap:Nat} (rs:List Ru) {L:List Value} (c1:Nat→Nat) (hn:p.ru.length≤1000000000) (hm:rs.length=m) (hm':m≤1000) (hL:Hold b0 L.toArray 1 W) (hc1:∀ b,b<w.heap.size→c1 b=c b) (hc0:c1 b0=0) (hR:Rus B c1 W p.ru.length rs L) :
 Calls Tryz.prog 55 #[.pointer (some ⟨B,0,none⟩),.slice (some ⟨b0,0,none⟩) m cap] W (RQ c B l w (.inr { p with ru:=rs ++ p.ru })):=
 thenW h hn hm hm' hL hc1 hc0 (hR.len.trans hm) (by subst hm;exact hR.at)
def colN (c:Nat→Nat) (w:World) (e k b:Nat):Nat:=if b<w.heap.size then c b else if b=e then k else 0
theorem colN_old (c:Nat→Nat) (w:World) (e k:Nat):∀ b,b<w.heap.size→colN c w e k b=c b:=fun b hb=>by simp [colN,hb]
theorem colN_new {c:Nat→Nat} {w:World} {e k b:Nat} (hb:w.heap.size≤b) (he:b≠e):colN c w e k b=0:=by simp [colN,Nat.not_lt.2 hb,he]
theorem colN_own {c:Nat→Nat} {w:World} {e k:Nat} (hb:w.heap.size≤e):colN c w e k e=k:=by simp [colN,Nat.not_lt.2 hb]
theorem keyW (h:PW c B l w p W) (s:List UInt8) :
 Calls Tryz.prog 74 #[.pointer (some ⟨B,0,none⟩),.string (S s)] W fun r W'=>(r=.panicked stuckV∧isK l p.tk s=false∧PW c B l w p W')∨(r=.returned (.tuple #[])∧isK l p.tk s=true∧PW c B l w { p with tk:=p.tk+1 } W'∧Kept B W W'):=by
 cases hk:isK l p.tk s
 ·exact (keyW_no h hk).mono fun r W' ⟨h1,h2⟩=>.inl ⟨h1,rfl,h2⟩
 ·exact (keyW_yes h hk).mono fun r W' ⟨h1,h2,h3⟩=>.inr ⟨h1,rfl,h2,h3⟩
theorem nameW (h:PW c B l w p W) :
 Calls Tryz.prog 117 #[.pointer (some ⟨B,0,none⟩)] W fun r W'=>(r=.panicked stuckV∧isD l p.tk 2=false∧PW c B l w p W')∨(r=.returned (.string (S (tkAt l p.tk).tx))∧isD l p.tk 2=true∧PW c B l w { p with tk:=p.tk+1 } W'∧Kept B W W'):=by
 cases hk:isD l p.tk 2
 ·exact (nameW_no h hk).mono fun r W' ⟨h1,h2⟩=>.inl ⟨h1,rfl,h2⟩
 ·exact (nameW_yes h hk).mono fun r W' ⟨h1,h2,h3⟩=>.inr ⟨h1,rfl,h2,h3⟩
theorem conW (h:PW c B l w p W) :
 Calls Tryz.prog 174 #[.pointer (some ⟨B,0,none⟩)] W fun r W'=>(r=.panicked stuckV∧isD l p.tk 3=false∧PW c B l w p W')∨(r=.returned (.string (S (tkAt l p.tk).tx))∧isD l p.tk 3=true∧PW c B l w { p with tk:=p.tk+1 } W'∧Kept B W W'):=by
 cases hk:isD l p.tk 3
 ·exact (conW_no h hk).mono fun r W' ⟨h1,h2⟩=>.inl ⟨h1,rfl,h2⟩
 ·exact (conW_yes h hk).mono fun r W' ⟨h1,h2,h3⟩=>.inr ⟨h1,rfl,h2,h3⟩
end
theorem more_any (B:Nat) (s:ByteArray) (f:Fn) (x y:Array Value) (w:World) :
 Calls Tryz.prog 119 #[.pointer (some ⟨B,0,none⟩),.string s,.func f x y] w fun r w'=>r=.returned (.func (.func 176) #[] #[bx w.heap.size,bx (w.heap.size+1),bx (w.heap.size+2)])∧w'=((w.alloc (.cells #[.pointer (some ⟨B,0,none⟩)] 58)).alloc (.cells #[.string s] 9)).alloc (.cells #[.func f x y] 1):=by
 have hmf:=mkf
 go_enter Tryz.func119,Tryz.ntmps119
 go_wp2_with fail
 go_ret
 exact ⟨rfl,rfl⟩
theorem making_any {B:Nat} {w:World} {tp:Option Addr} {tn tc tk n k:Nat} {vr vs vf vd vp:Value} {q:Option Addr} {cq:Nat} (kd nu:Int) (s:ByteArray) (pn pk:Option Addr) (nn cn nk ck:Nat) (hB:Hold B (psC tp tn tc tk vr (.slice q n cq) vs vf vd vp) 63 w) (hk:k≤n) (hn:n≤1000000000) :
 Calls Tryz.prog 115 #[.pointer (some ⟨B,0,none⟩),.agg #[.int .i64 kd,.string s,.int .i64 nu,.slice pn nn cn,.slice pk nk ck],.int .i64 k] w fun r w'=>r=.returned (.func (.func 173) #[] #[bx (w.heap.size+1),bx w.heap.size,bx (w.heap.size+2)])∧w'=((w.alloc (.cells #[.pointer (some ⟨B,0,none⟩)] 58)).alloc (.cells #[.int .i64 kd,.string s,.int .i64 nu,.slice pn nn cn,.slice pk nk ck] 27)).alloc (.cells #[.int .i64 ((n - k:Nat):Int)] 3):=by
 have hmf:=mkf
 have c3:=((hB.alloc (.cells #[.pointer (some ⟨B,0,none⟩)] 58)).alloc (.cells #[.int .i64 kd,.string s,.int .i64 nu,.slice pn nn cn,.slice pk nk ck] 27)).cell 3
 have hsub:((n - k:Nat):Int)=(n:Int) - k:=by omega
 have hwr:IntKind.i64.wrap ((n:Int) - k)=(n:Int) - k:=wrap_i (by omega) (by omega)
 simp only [lGA,lGS,lGZ] at c3
 rw [hsub]
 go_enter Tryz.func115,Tryz.ntmps115
 go_wp2_with fail
 go_ret
 exact ⟨rfl,rfl⟩
theorem makingSig_any {B:Nat} {w:World} {tp:Option Addr} {tn tc tk n k:Nat} {vr ve vf vd vp:Value} {q:Option Addr} {cq:Nat} (s:ByteArray) (hB:Hold B (psC tp tn tc tk vr ve (.slice q n cq) vf vd vp) 63 w) (hk:k≤n) (hn:n≤1000000000) :
 Calls Tryz.prog 257 #[.pointer (some ⟨B,0,none⟩),.string s,.int .i64 k] w fun r w'=>r=.returned (.func (.func 260) #[] #[bx (w.heap.size+1),bx w.heap.size,bx (w.heap.size+2)])∧w'=((w.alloc (.cells #[.pointer (some ⟨B,0,none⟩)] 58)).alloc (.cells #[.string s] 9)).alloc (.cells #[.int .i64 ((n - k:Nat):Int)] 3):=by
 have hmf:=mkf
 have c3:=((hB.alloc (.cells #[.pointer (some ⟨B,0,none⟩)] 58)).alloc (.cells #[.string s] 9)).cell 4
 have hsub:((n - k:Nat):Int)=(n:Int) - k:=by omega
 have hwr:IntKind.i64.wrap ((n:Int) - k)=(n:Int) - k:=wrap_i (by omega) (by omega)
 simp only [lGA,lGS,lGZ] at c3
 rw [hsub]
 go_enter Tryz.func257,Tryz.ntmps257
 go_wp2_with fail
 go_ret
 exact ⟨rfl,rfl⟩
theorem binds_any (kd:Int) (s:ByteArray) (w:World) :
 Calls Tryz.prog 116 #[.int .i64 kd,.string s] w fun r w'=>r=.returned (.agg #[.int .i64 kd,.string ⟨#[]⟩,.int .i64 0,.slice (some ⟨w.heap.size+1,0,none⟩) 1 1,.slice none 0 0])∧w'=(w.alloc (.cells #[.int .i64 kd,.string ⟨#[]⟩,.int .i64 0,.slice (some ⟨w.heap.size+1,0,none⟩) 1 1,.slice none 0 0] 27)).alloc (.cells #[.string s] 9):=by
 go_enter Tryz.func116,Tryz.ntmps116
 go_wp2_with fail
 exact bodyPost_ret (v:=.agg #[.int .i64 kd,.string ⟨#[]⟩,.int .i64 0,.slice (some ⟨w.heap.size+1,0,none⟩) 1 1,.slice none 0 0]) (by simp only [results,Tryz.results116];go_simp;try rfl) rfl ⟨rfl,rfl⟩
theorem comp_any {c:Nat→Nat} {B:Nat} {l:List Tk} {p:Ps} {w:World} (hP:PM c B l p w) (hn:p.ru.length≤1000000000) :
 Calls Tryz.prog 63 #[.pointer (some ⟨B,0,none⟩)] w (RQ c B l w (pushR [r0 15,r0 14] p)):=by
 have hmf:=mkf
 have H0:=zz (PW.start hP)
 have HT:=zz (thenU (b0:=w.heap.size) (m:=2) (cap:=2) (H0.out.alloc (.cells #[.func (.func 121) #[pB B] #[],.func (.func 122) #[pB B] #[]] 1)) [r0 15,r0 14] (L:=[.func (.func 121) #[pB B] #[],.func (.func 122) #[pB B] #[]]) (colN c w 0 0) hn rfl (by decide) (Hold.new w _ 1) (colN_old _ _ _ _) (by simp [colN]) ⟨⟨by decide,by decide,rfl⟩,⟨by decide,by decide,rfl⟩,trivial⟩)
 clear H0
 go_enter Tryz.func63,Tryz.ntmps63
 go_wp2_with fail
 refine HT.out.mono ?_
 rintro r w1 ⟨rfl,hq⟩
 have HQ:=zz hq
 clear hq
 go_wp2_with fail
 go_end0
 exact ⟨rfl,HQ.out⟩
theorem sum_any {c:Nat→Nat} {B:Nat} {l:List Tk} {p:Ps} {w:World} (hP:PM c B l p w) (hn:p.ru.length≤1000000000) :
 Calls Tryz.prog 121 #[.pointer (some ⟨B,0,none⟩)] w (RQ c B l w (pushR [r0 17,r0 16] p)):=by
 have hmf:=mkf
 have H0:=zz (PW.start hP)
 have HT:=zz (thenU (b0:=w.heap.size) (m:=2) (cap:=2) (H0.out.alloc (.cells #[.func (.func 178) #[pB B] #[],.func (.func 179) #[pB B] #[]] 1)) [r0 17,r0 16] (L:=[.func (.func 178) #[pB B] #[],.func (.func 179) #[pB B] #[]]) (colN c w 0 0) hn rfl (by decide) (Hold.new w _ 1) (colN_old _ _ _ _) (by simp [colN]) ⟨⟨by decide,by decide,rfl⟩,⟨by decide,by decide,rfl⟩,trivial⟩)
 clear H0
 go_enter Tryz.func121,Tryz.ntmps121
 go_wp2_with fail
 refine HT.out.mono ?_
 rintro r w1 ⟨rfl,hq⟩
 have HQ:=zz hq
 clear hq
 go_wp2_with fail
 go_end0
 exact ⟨rfl,HQ.out⟩
theorem product_any {c:Nat→Nat} {B:Nat} {l:List Tk} {p:Ps} {w:World} (hP:PM c B l p w) (hn:p.ru.length≤1000000000) :
 Calls Tryz.prog 178 #[.pointer (some ⟨B,0,none⟩)] w (RQ c B l w (pushR [r0 19,r0 18] p)):=by
 have hmf:=mkf
 have H0:=zz (PW.start hP)
 have HT:=zz (thenU (b0:=w.heap.size) (m:=2) (cap:=2) (H0.out.alloc (.cells #[.func (.func 214) #[pB B] #[],.func (.func 215) #[pB B] #[]] 1)) [r0 19,r0 18] (L:=[.func (.func 214) #[pB B] #[],.func (.func 215) #[pB B] #[]]) (colN c w 0 0) hn rfl (by decide) (Hold.new w _ 1) (colN_old _ _ _ _) (by simp [colN]) ⟨⟨by decide,by decide,rfl⟩,⟨by decide,by decide,rfl⟩,trivial⟩)
 clear H0
 go_enter Tryz.func178,Tryz.ntmps178
 go_wp2_with fail
 refine HT.out.mono ?_
 rintro r w1 ⟨rfl,hq⟩
 have HQ:=zz hq
 clear hq
 go_wp2_with fail
 go_end0
 exact ⟨rfl,HQ.out⟩
theorem app_any {c:Nat→Nat} {B:Nat} {l:List Tk} {p:Ps} {w:World} (hP:PM c B l p w) (hn:p.ru.length≤1000000000) :
 Calls Tryz.prog 214 #[.pointer (some ⟨B,0,none⟩)] w (RQ c B l w (pushR [r0 21,r0 20] p)):=by
 have hmf:=mkf
 have H0:=zz (PW.start hP)
 have HT:=zz (thenU (b0:=w.heap.size) (m:=2) (cap:=2) (H0.out.alloc (.cells #[.func (.func 232) #[pB B] #[],.func (.func 233) #[pB B] #[]] 1)) [r0 21,r0 20] (L:=[.func (.func 232) #[pB B] #[],.func (.func 233) #[pB B] #[]]) (colN c w 0 0) hn rfl (by decide) (Hold.new w _ 1) (colN_old _ _ _ _) (by simp [colN]) ⟨⟨by decide,by decide,rfl⟩,⟨by decide,by decide,rfl⟩,trivial⟩)
 clear H0
 go_enter Tryz.func214,Tryz.ntmps214
 go_wp2_with fail
 refine HT.out.mono ?_
 rintro r w1 ⟨rfl,hq⟩
 have HQ:=zz hq
 clear hq
 go_wp2_with fail
 go_end0
 exact ⟨rfl,HQ.out⟩
theorem sig_any {c:Nat→Nat} {B:Nat} {l:List Tk} {p:Ps} {w:World} (hP:PM c B l p w) (hn:p.ru.length≤1000000000) :
 Calls Tryz.prog 245 #[.pointer (some ⟨B,0,none⟩)] w (RQ c B l w (pushR [r0 7,r0 6] p)):=by
 have hmf:=mkf
 have H0:=zz (PW.start hP)
 have HT:=zz (thenU (b0:=w.heap.size) (m:=2) (cap:=2) (H0.out.alloc (.cells #[.func (.func 250) #[pB B] #[],.func (.func 251) #[pB B] #[]] 1)) [r0 7,r0 6] (L:=[.func (.func 250) #[pB B] #[],.func (.func 251) #[pB B] #[]]) (colN c w 0 0) hn rfl (by decide) (Hold.new w _ 1) (colN_old _ _ _ _) (by simp [colN]) ⟨⟨by decide,by decide,rfl⟩,⟨by decide,by decide,rfl⟩,trivial⟩)
 clear H0
 go_enter Tryz.func245,Tryz.ntmps245
 go_wp2_with fail
 refine HT.out.mono ?_
 rintro r w1 ⟨rfl,hq⟩
 have HQ:=zz hq
 clear hq
 go_wp2_with fail
 go_end0
 exact ⟨rfl,HQ.out⟩
def FK (w W W':World):Prop:=KP (fun b=>w.heap.size≤b∧b<W.heap.size) W W'
theorem FK.refl (w W:World):FK w W W:=KP.refl _ _
theorem FK.trans {w W W' W'':World} (h:FK w W W') (k:FK w W' W''):FK w W W'':=KP.trans h (KP.mono k fun b hb=>⟨hb.1,Nat.lt_of_lt_of_le hb.2 h.size⟩)
theorem FK.below {w W W':World} (h:Below W.heap.size W W'):FK w W W':=KP.of_below h fun b hb=>hb.2
theorem FK.kept {w W W':World} {B:Nat} (h:Kept B W W') (hB:B<w.heap.size):FK w W W':=KP.mono h fun b hb=>⟨hb.2,by omega⟩
theorem FK.alloc (w W:World) (o:Obj):FK w W (W.alloc o):=FK.below ((Below.refl _ W).alloc (Nat.le_refl _) o)
theorem FK.hold {w W W':World} (h:FK w W W') {b:Nat} {C:Array Value} {t:TypeId} (hb:w.heap.size≤b) (hh:Hold b C t W):Hold b C t W':=(h.block b ⟨hb,hh.lt⟩).trans hh
def LatB (B:Nat) (w W:World) (e:Nat) (v:Value) (s:List UInt8):Prop:=∃ b1 b2,v=.func (.func 140) #[] #[bx b1,bx b2]∧w.heap.size≤b1∧w.heap.size≤b2∧b1≠e∧b2≠e∧Hold b1 #[pB B] 58 W∧Hold b2 #[.string (S s)] 9 W
def MorB (B:Nat) (w W:World) (e:Nat) (v:Value) (s:List UInt8) (j:Nat):Prop:=∃ b1 b2 b3,v=.func (.func 176) #[] #[bx b1,bx b2,bx b3]∧w.heap.size≤b1∧w.heap.size≤b2∧w.heap.size≤b3∧b1≠e∧b2≠e∧b3≠e∧Hold b1 #[pB B] 58 W∧Hold b2 #[.string (S s)] 9 W∧Hold b3 #[mth B j] 1 W
def MakB (B:Nat) (w W:World) (e:Nat) (v:Value) (t:Tr) (n:Nat):Prop:=∃ bp bf pn cn,v=.func (.func 173) #[] #[bx e,bx bp,bx bf]∧w.heap.size≤e∧w.heap.size≤bp∧w.heap.size≤bf∧bp≠e∧bf≠e∧Hold e #[.int .i64 t.kd,.string (S t.nm),.int .i64 t.nu,.slice pn t.ns.length cn,.slice none 0 0] 27 W∧Hold bp #[pB B] 58 W∧Hold bf #[.int .i64 n] 3 W∧t.nm.length≤281474976710656∧(-9223372036854775808≤t.nu∧t.nu≤9223372036854775807)∧SlOK pn t.ns.length cn∧SM (fun b=>w.heap.size≤b∧b<W.heap.size∧b≠e∧B<b) W pn t.ns
def SigB (B:Nat) (w W:World) (e:Nat) (v:Value) (s:List UInt8) (n:Nat):Prop:=∃ b1 b2 b3,v=.func (.func 260) #[] #[bx b1,bx b2,bx b3]∧w.heap.size≤b1∧w.heap.size≤b2∧w.heap.size≤b3∧b1≠e∧b2≠e∧b3≠e∧Hold b1 #[.string (S s)] 9 W∧Hold b2 #[pB B] 58 W∧Hold b3 #[.int .i64 n] 3 W∧s.length≤281474976710656
theorem LatB.keep {B:Nat} {w W W':World} {e:Nat} {v:Value} {s:List UInt8} (k:FK w W W') (h:LatB B w W e v s):LatB B w W' e v s:=by
 obtain ⟨b1,b2,rfl,h1,h2,h3,h4,h5,h6⟩:=h
 exact ⟨b1,b2,rfl,h1,h2,h3,h4,k.hold h1 h5,k.hold h2 h6⟩
theorem MorB.keep {B:Nat} {w W W':World} {e:Nat} {v:Value} {s:List UInt8} {j:Nat} (k:FK w W W') (h:MorB B w W e v s j):MorB B w W' e v s j:=by
 obtain ⟨b1,b2,b3,rfl,h1,h2,h3,h4,h5,h6,h7,h8,h9⟩:=h
 exact ⟨b1,b2,b3,rfl,h1,h2,h3,h4,h5,h6,k.hold h1 h7,k.hold h2 h8,k.hold h3 h9⟩
theorem MakB.keep {B:Nat} {w W W':World} {e:Nat} {v:Value} {t:Tr} {n:Nat} (k:FK w W W') (h:MakB B w W e v t n):MakB B w W' e v t n:=by
 obtain ⟨bp,bf,pn,cn,rfl,h1,h2,h3,h4,h5,h6,h7,h8,h9,h10,h11,h12⟩:=h
 exact ⟨bp,bf,pn,cn,rfl,h1,h2,h3,h4,h5,k.hold h1 h6,k.hold h2 h7,k.hold h3 h8,h9,h10,h11,(h12.keep (KP.mono k fun b hb=>⟨hb.1,hb.2.1⟩)).mono fun b hb=>⟨hb.1,Nat.lt_of_lt_of_le hb.2.1 k.size,hb.2.2⟩⟩
section
variable {c:Nat→Nat} {B:Nat} {l:List Tk} {w:World} {p:Ps} {W W':World} {e k i:Nat}
theorem LatB.ruv {v:Value} {s:List UInt8} (h:LatB B w W e v s):RuV B (colN c w e k) W i v (rLater s):=by
 obtain ⟨b1,b2,rfl,h1,h2,h3,h4,h5,h6⟩:=h
 exact ⟨b1,b2,rfl,colN_new h1 h3,colN_new h2 h4,h5,h6⟩
theorem MorB.ruv {v:Value} {s:List UInt8} {j:Nat} (h:MorB B w W e v s j):RuV B (colN c w e k) W i v (rMore s j):=by
 obtain ⟨b1,b2,b3,rfl,h1,h2,h3,h4,h5,h6,h7,h8,h9⟩:=h
 exact ⟨b1,b2,b3,rfl,colN_new h1 h4,colN_new h2 h5,colN_new h3 h6,h7,h8,h9⟩
theorem SigB.ruv {v:Value} {s:List UInt8} {n:Nat} (h:SigB B w W e v s n):RuV B (colN c w e k) W i v (rSig s n):=by
 obtain ⟨b1,b2,b3,rfl,h1,h2,h3,h4,h5,h6,h7,h8,h9,h10⟩:=h
 exact ⟨b1,b2,b3,rfl,colN_new h1 h4,colN_new h2 h5,colN_new h3 h6,h7,h8,h9,h10⟩
theorem MakB.ruv {v:Value} {t:Tr} {n:Nat} (h:MakB B w W e v t n) (hk:k=10+i):RuV B (colN c w e k) W i v (rMake t n):=by
 obtain ⟨bp,bf,pn,cn,rfl,h1,h2,h3,h4,h5,h6,h7,h8,h9,h10,h11,h12⟩:=h
 exact ⟨e,bp,bf,pn,cn,rfl,(colN_own h1).trans hk,colN_new h2 h4,colN_new h3 h5,h6,h7,h8,h9,h10,h11,h12.mono fun b hb=>⟨⟨hb.2.1,colN_new hb.1 hb.2.2.1⟩,hb.2.2.2⟩⟩
theorem RuV.below {c:Nat→Nat} {v:Value} {r:Ru} (h:RuV B c W i v r) (hb:Below W.heap.size W W'):RuV B c W' i v r:=h.step (D:=fun _=>True) (Step.below hb fun _ _=>rfl) trivial trivial
theorem Rus.below {c:Nat→Nat} {n:Nat} (hb:Below W.heap.size W W'):∀ {rs:List Ru} {L:List Value},Rus B c W n rs L→Rus B c W' n rs L
 | [],[],_=>trivial
 | r :: rs,v :: vs,h=>⟨h.1.below hb,h.2.below hb⟩
 | [],_ :: _,h=>h.elim
 | _ :: _,[],h=>h.elim
theorem thenX (h:PW c B l w p W) (rs:List Ru) {L:List Value} (e k:Nat) (hn:p.ru.length≤1000000000) {m cap:Nat} (hm:rs.length=m) (hm':m≤1000) (he:e<W.heap.size) (hR:Rus B (colN c w e k) W p.ru.length rs L) :
 Calls Tryz.prog 55 #[.pointer (some ⟨B,0,none⟩),.slice (some ⟨W.heap.size,0,none⟩) m cap] (W.alloc (.cells L.toArray 1)) (RQ c B l w (.inr { p with ru:=rs ++ p.ru })):=
 thenU (h.alloc _) rs (colN c w e k) hn hm hm' (Hold.new W _ 1) (colN_old _ _ _ _) (colN_new h.size (by omega)) (hR.below ((Below.refl _ W).alloc (Nat.le_refl _) _))
theorem keyX (h:PW c B l w p W) (s:List UInt8) :
 Calls Tryz.prog 74 #[.pointer (some ⟨B,0,none⟩),.string (S s)] W fun r W'=>(r=.panicked stuckV∧isK l p.tk s=false∧PW c B l w p W')∨(r=.returned (.tuple #[])∧isK l p.tk s=true∧PW c B l w { p with tk:=p.tk+1 } W'∧FK w W W'):=
 (keyW h s).mono fun r W' h'=>h'.imp id fun ⟨h1,h2,h3,h4⟩=>⟨h1,h2,h3,FK.kept h4 h.ltB⟩
theorem nameX (h:PW c B l w p W) :
 Calls Tryz.prog 117 #[.pointer (some ⟨B,0,none⟩)] W fun r W'=>(r=.panicked stuckV∧isD l p.tk 2=false∧PW c B l w p W')∨(r=.returned (.string (S (tkAt l p.tk).tx))∧isD l p.tk 2=true∧PW c B l w { p with tk:=p.tk+1 } W'∧FK w W W'):=
 (nameW h).mono fun r W' h'=>h'.imp id fun ⟨h1,h2,h3,h4⟩=>⟨h1,h2,h3,FK.kept h4 h.ltB⟩
theorem conX (h:PW c B l w p W) :
 Calls Tryz.prog 174 #[.pointer (some ⟨B,0,none⟩)] W fun r W'=>(r=.panicked stuckV∧isD l p.tk 3=false∧PW c B l w p W')∨(r=.returned (.string (S (tkAt l p.tk).tx))∧isD l p.tk 3=true∧PW c B l w { p with tk:=p.tk+1 } W'∧FK w W W'):=
 (conW h).mono fun r W' h'=>h'.imp id fun ⟨h1,h2,h3,h4⟩=>⟨h1,h2,h3,FK.kept h4 h.ltB⟩
theorem takeX (h:PW c B l w p W) (k:Int) (h0:k≠0) (hk:isD l p.tk k=true) :
 Calls Tryz.prog 138 #[.pointer (some ⟨B,0,none⟩),.int .i64 k] W fun r W'=>r=.returned (.agg (tkC (tkAt l p.tk)).toArray)∧PW c B l w { p with tk:=p.tk+1 } W'∧FK w W W':=
 (takeW_yes h h0 hk).mono fun r W' ⟨h1,h3,h4⟩=>⟨h1,h3,FK.kept h4 h.ltB⟩
theorem isKeyX (h:PW c B l w p W) (L:List (List UInt8)) {n cap:Nat} (hn:L.length=n) (hm:n≤1000) :
 Calls Tryz.prog 57 #[.pointer (some ⟨B,0,none⟩),.slice (some ⟨W.heap.size,0,none⟩) n cap] (W.alloc (.cells (L.map fun s=>Value.string (S s)).toArray 9)) fun r W'=>r=.returned (.bool (L.any fun s=>isK l p.tk s))∧PW c B l w p W'∧FK w W W':=by
 refine (isKeyW (cap:=cap) (L:=L) (h.alloc _) hn hm (fun i x hx=>?_) (by simp)).mono ?_
 ·rw [(Hold.new W (L.map fun s=>Value.string (S s)).toArray 9).cell i]
  simp [hx]
 ·rintro r W' ⟨rfl,h1,h2⟩
  exact ⟨rfl,h1,(FK.alloc w W _).trans (FK.below h2)⟩
theorem isX (h:PW c B l w p W) (L:List Int) {n cap:Nat} (hn:L.length=n) (hm:n≤1000) :
 Calls Tryz.prog 112 #[.pointer (some ⟨B,0,none⟩),.slice (some ⟨W.heap.size,0,none⟩) n cap] (W.alloc (.cells (L.map fun s=>Value.int .i64 s).toArray 3)) fun r W'=>r=.returned (.bool (decide ((tkAt l p.tk).kd ∈ L)))∧PW c B l w p W'∧FK w W W':=by
 refine (isW (cap:=cap) (L:=L) (h.alloc _) hn hm (fun i x hx=>?_) (by simp)).mono ?_
 ·rw [(Hold.new W (L.map fun s=>Value.int .i64 s).toArray 3).cell i]
  simp [hx]
 ·rintro r W' ⟨rfl,h1,h2⟩
  exact ⟨rfl,h1,(FK.alloc w W _).trans (FK.below h2)⟩
theorem laterX (h:PW c B l w p W) (s:List UInt8) (e:Nat) (he:e<W.heap.size) :
 Calls Tryz.prog 76 #[.pointer (some ⟨B,0,none⟩),.string (S s)] W fun r W'=>∃ b1 b2,r=.returned (.func (.func 140) #[] #[bx b1,bx b2])∧LatB B w W' e (.func (.func 140) #[] #[bx b1,bx b2]) s∧PW c B l w p W'∧FK w W W':=by
 refine (later_any B _ W).mono ?_
 rintro r W' ⟨rfl,rfl⟩
 have hs:=h.size
 have h1:=(Hold.new W #[pB B] 58).alloc (.cells #[.string (S s)] 9)
 have h2:=Hold.new (W.alloc (.cells #[pB B] 58)) #[.string (S s)] 9
 rw [World.size_alloc] at h2
 exact ⟨W.heap.size,W.heap.size+1,rfl,⟨_,_,rfl,hs,by omega,by omega,by omega,h1,h2⟩,(h.alloc _).alloc _,(FK.alloc w W _).trans (FK.alloc _ _ _)⟩
theorem moreX (h:PW c B l w p W) (s:List UInt8) (j e:Nat) (he:e<W.heap.size) :
 Calls Tryz.prog 119 #[.pointer (some ⟨B,0,none⟩),.string (S s),mth B j] W fun r W'=>∃ b1 b2 b3,r=.returned (.func (.func 176) #[] #[bx b1,bx b2,bx b3])∧MorB B w W' e (.func (.func 176) #[] #[bx b1,bx b2,bx b3]) s j∧PW c B l w p W'∧FK w W W':=by
 refine (more_any B _ _ _ _ W).mono ?_
 rintro r W' ⟨rfl,rfl⟩
 have hs:=h.size
 have h1:=((Hold.new W #[pB B] 58).alloc (.cells #[.string (S s)] 9)).alloc (.cells #[mth B j] 1)
 have h2:=(Hold.new (W.alloc (.cells #[pB B] 58)) #[.string (S s)] 9).alloc (.cells #[mth B j] 1)
 have h3:=Hold.new ((W.alloc (.cells #[pB B] 58)).alloc (.cells #[.string (S s)] 9)) #[mth B j] 1
 simp only [World.size_alloc] at h2 h3
 exact ⟨W.heap.size,W.heap.size+1,W.heap.size+2,rfl,⟨_,_,_,rfl,hs,by omega,by omega,by omega,by omega,by omega,h1,h2,h3⟩,((h.alloc _).alloc _).alloc _,((FK.alloc w W _).trans (FK.alloc _ _ _)).trans (FK.alloc _ _ _)⟩
theorem PW.exs (h:PW c B l w p W):∃ tp tc vr q cq vs vf vd vp,Hold B (psC tp l.length tc p.tk vr (.slice q p.ex.length cq) vs vf vd vp) 63 W:=by
 obtain ⟨tp,tc,vr,ve,vs,vf,vd,vp,hS⟩:=h.pm c fun _ _=>rfl
 obtain ⟨q,cq,rfl,_⟩:=hS.exs.slice
 exact ⟨tp,tc,vr,q,cq,vs,vf,vd,vp,hS.hold⟩
theorem PW.sgs (h:PW c B l w p W):∃ tp tc vr ve q cq vf vd vp,Hold B (psC tp l.length tc p.tk vr ve (.slice q p.sg.length cq) vf vd vp) 63 W:=by
 obtain ⟨tp,tc,vr,ve,vs,vf,vd,vp,hS⟩:=h.pm c fun _ _=>rfl
 obtain ⟨q,cq,rfl,_⟩:=hS.sgs.slice
 exact ⟨tp,tc,vr,ve,q,cq,vf,vd,vp,hS.hold⟩
theorem makingX (h:PW c B l w p W) (t:Tr) (k:Nat) {pn:Option Addr} {cn:Nat} (hk:k≤p.ex.length) (hn:p.ex.length≤1000000000) (h1:t.nm.length≤281474976710656) (h2:-9223372036854775808≤t.nu∧t.nu≤9223372036854775807) (h3:SlOK pn t.ns.length cn) (h4:SM (fun b=>w.heap.size≤b∧b<W.heap.size) W pn t.ns) :
 Calls Tryz.prog 115 #[.pointer (some ⟨B,0,none⟩),.agg #[.int .i64 t.kd,.string (S t.nm),.int .i64 t.nu,.slice pn t.ns.length cn,.slice none 0 0],.int .i64 k] W fun r W'=>∃ e bp bf,r=.returned (.func (.func 173) #[] #[bx e,bx bp,bx bf])∧MakB B w W' e (.func (.func 173) #[] #[bx e,bx bp,bx bf]) t (p.ex.length - k)∧e<W'.heap.size∧W.heap.size≤e∧PW c B l w p W'∧FK w W W':=by
 obtain ⟨tp,tc,vr,q,cq,vs,vf,vd,vp,hB⟩:=h.exs
 refine (making_any t.kd t.nu (S t.nm) pn none t.ns.length cn 0 0 hB hk hn).mono ?_
 rintro r W' ⟨rfl,rfl⟩
 have hs:=h.size
 have g1:=((Hold.new W #[pB B] 58).alloc (.cells #[.int .i64 t.kd,.string (S t.nm),.int .i64 t.nu,.slice pn t.ns.length cn,.slice none 0 0] 27)).alloc (.cells #[.int .i64 ((p.ex.length - k:Nat):Int)] 3)
 have g2:=(Hold.new (W.alloc (.cells #[pB B] 58)) #[.int .i64 t.kd,.string (S t.nm),.int .i64 t.nu,.slice pn t.ns.length cn,.slice none 0 0] 27).alloc (.cells #[.int .i64 ((p.ex.length - k:Nat):Int)] 3)
 have g3:=Hold.new ((W.alloc (.cells #[pB B] 58)).alloc (.cells #[.int .i64 t.kd,.string (S t.nm),.int .i64 t.nu,.slice pn t.ns.length cn,.slice none 0 0] 27)) #[.int .i64 ((p.ex.length - k:Nat):Int)] 3
 simp only [World.size_alloc] at g2 g3
 have fk:FK w W (((W.alloc (.cells #[pB B] 58)).alloc (.cells #[.int .i64 t.kd,.string (S t.nm),.int .i64 t.nu,.slice pn t.ns.length cn,.slice none 0 0] 27)).alloc (.cells #[.int .i64 ((p.ex.length - k:Nat):Int)] 3)):=((FK.alloc w W _).trans (FK.alloc _ _ _)).trans (FK.alloc _ _ _)
 exact ⟨W.heap.size+1,W.heap.size,W.heap.size+2,rfl,⟨_,_,pn,cn,rfl,by omega,by omega,by omega,by omega,by omega,g2,g1,g3,h1,h2,h3,(h4.keep fk).mono fun b hb=>⟨hb.1,Nat.lt_of_lt_of_le hb.2 fk.size,by omega,Nat.lt_of_lt_of_le h.ltB hb.1⟩⟩,g2.lt,by omega,((h.alloc _).alloc _).alloc _,fk⟩
theorem makingSigX (h:PW c B l w p W) (s:List UInt8) (k e:Nat) (he:e<W.heap.size) (hk:k≤p.sg.length) (hn:p.sg.length≤1000000000) (h1:s.length≤281474976710656) :
 Calls Tryz.prog 257 #[.pointer (some ⟨B,0,none⟩),.string (S s),.int .i64 k] W fun r W'=>∃ b1 b2 b3,r=.returned (.func (.func 260) #[] #[bx b1,bx b2,bx b3])∧SigB B w W' e (.func (.func 260) #[] #[bx b1,bx b2,bx b3]) s (p.sg.length - k)∧PW c B l w p W'∧FK w W W':=by
 obtain ⟨tp,tc,vr,ve,q,cq,vf,vd,vp,hB⟩:=h.sgs
 refine (makingSig_any (S s) hB hk hn).mono ?_
 rintro r W' ⟨rfl,rfl⟩
 have hs:=h.size
 have g1:=((Hold.new W #[pB B] 58).alloc (.cells #[.string (S s)] 9)).alloc (.cells #[.int .i64 ((p.sg.length - k:Nat):Int)] 3)
 have g2:=(Hold.new (W.alloc (.cells #[pB B] 58)) #[.string (S s)] 9).alloc (.cells #[.int .i64 ((p.sg.length - k:Nat):Int)] 3)
 have g3:=Hold.new ((W.alloc (.cells #[pB B] 58)).alloc (.cells #[.string (S s)] 9)) #[.int .i64 ((p.sg.length - k:Nat):Int)] 3
 simp only [World.size_alloc] at g2 g3
 exact ⟨W.heap.size+1,W.heap.size,W.heap.size+2,rfl,⟨_,_,_,rfl,by omega,by omega,by omega,by omega,by omega,by omega,g2,g1,g3,h1⟩,((h.alloc _).alloc _).alloc _,((FK.alloc w W _).trans (FK.alloc _ _ _)).trans (FK.alloc _ _ _)⟩
theorem bindsX (h:PW c B l w p W) (kd:Int) (s:List UInt8) (hs:s.length≤281474976710656) :
 Calls Tryz.prog 116 #[.int .i64 kd,.string (S s)] W fun r W'=>∃ pn,r=.returned (.agg #[.int .i64 kd,.string ⟨#[]⟩,.int .i64 0,.slice pn 1 1,.slice none 0 0])∧SlOK pn 1 1∧SM (fun b=>w.heap.size≤b∧b<W'.heap.size) W' pn [s]∧PW c B l w p W'∧FK w W W':=by
 refine (binds_any kd (S s) W).mono ?_
 rintro r W' ⟨rfl,rfl⟩
 have hz:=h.size
 have g2:=Hold.new (W.alloc (.cells #[.int .i64 kd,.string ⟨#[]⟩,.int .i64 0,.slice (some ⟨W.heap.size+1,0,none⟩) 1 1,.slice none 0 0] 27)) #[.string (S s)] 9
 rw [World.size_alloc] at g2
 refine ⟨_,rfl,⟨Nat.le_refl _,by omega,fun e=>by cases e⟩,.inr ⟨_,0,rfl,⟨by omega,by simp⟩,fun i x hx=>?_⟩,(h.alloc _).alloc _,(FK.alloc w W _).trans (FK.alloc _ _ _)⟩
 cases i with
 | zero=>simp at hx;subst hx;exact ⟨hs,g2.cell 0⟩
 | succ i=>simp at hx
end
theorem key_go {l:List Tk} {s:List UInt8} {p:Ps} {f:Ps→Rs} (h:isK l p.tk s=true):thenR (keyR l s p) f=f { p with tk:=p.tk+1 }:=by unfold keyR;rw [if_pos h];rfl
theorem key_st {l:List Tk} {s:List UInt8} {p:Ps} {f:Ps→Rs} (h:isK l p.tk s=false):thenR (keyR l s p) f=.inl p.tk:=by unfold keyR;rw [if_neg (by simp [h])];rfl
theorem take_go {l:List Tk} {k:Int} {p:Ps} {f:Tk→Ps→Rs} (h:isD l p.tk k=true):takeR l k p f=f (tkAt l p.tk) { p with tk:=p.tk+1 }:=by unfold takeR;rw [if_pos h]
theorem take_st {l:List Tk} {k:Int} {p:Ps} {f:Tk→Ps→Rs} (h:isD l p.tk k=false):takeR l k p f=.inl p.tk:=by unfold takeR;rw [if_neg (by simp [h])]
theorem any1 (l:List Tk) (i:Nat) (s:List UInt8):([s].any fun s=>isK l i s)=isK l i s:=by simp
theorem any2 (l:List Tk) (i:Nat) (s t:List UInt8):([s,t].any fun s=>isK l i s)=(isK l i s || isK l i t):=by simp
theorem mem1 (l:List Tk) (i:Nat) (k:Int):decide ((tkAt l i).kd ∈ [k])=isD l i k:=by simp [isD]
theorem callW {c:Nat→Nat} {B:Nat} {l:List Tk} {w:World} {p:Ps} {W:World} {K:Nat} {x:Rs} {args:Array Value} (h:PW c B l w p W) (hc:∀ c',PM c' B l p W→Calls Tryz.prog K args W (RQ c' B l W x)):Calls Tryz.prog K args W (RQ c B l w x):=
 (hc (col9 c w) (h.pm _ (col9_old c w))).mono fun e W' hq=>hq.trans (fun b hb=>⟨Nat.lt_of_lt_of_le hb.1 h.size,(col9_old c w b hb.1).trans hb.2⟩) h.imm
theorem prog_rule {c:Nat→Nat} {B:Nat} {l:List Tk} {p:Ps} {w:World} (hP:PM c B l p w) (hn:p.ru.length≤1000000000) :
 Calls Tryz.prog 34 #[.pointer (some ⟨B,0,none⟩)] w (RQ c B l w (progR l p)):=by
 have hmf:=mkf
 have HP0:=zz (PW.start hP)
 have h0:0<w.heap.size:=Nat.lt_of_le_of_lt (Nat.zero_le _) HP0.out.ltB
 have hz0:w.heap.size≤w.heap.size:=Nat.le_refl _
 obtain ⟨X,HX0⟩:∃ X,Hid (X=progR l p):=⟨_,rfl⟩
 rw [← HX0.out]
 clear hP
 go_enter Tryz.func34,Tryz.ntmps34
 go_wp2_with fail
 refine (keyX HP0.out sCurl).mono ?_
 rintro r w1 (⟨rfl,hk,hp⟩ | ⟨rfl,hk,hp,hf⟩)
 ·have HR:Hid (RQ c B l w X (.panicked stuckV) w1):=by
   show RQ c B l w X (.panicked stuckV) w1
   rw [HX0.out.trans (key_st hk)]
   exact hp.stuck rfl
  clear hk hp
  unfold stuckV at *
  go_wp2_with fail
  exact ⟨rfl,HR.out⟩
 have HX1:=zz (HX0.out.trans (key_go hk))
 have HP1:=zz hp
 have hz1:w.heap.size≤w1.heap.size:=HP1.out.size
 have hy1:=hf.size
 clear hk hp hf
 go_wp2_with fail
 refine (laterX HP1.out sUncurl 0 (by omega)).mono ?_
 rintro r w2 ⟨b12,b22,rfl,hc,hp,hf⟩
 have HP2:=zz hp
 have hz2:w.heap.size≤w2.heap.size:=HP2.out.size
 have hy2:=hf.size
 have HL_2:=zz hc
 clear hp hf hc
 go_wp2_with fail
 refine (thenX (m:=2) HP2.out [r0 2,rLater sUncurl] 0 (0) hn rfl (by decide) (by omega) ?rus).mono ?_
 case rus=>exact ⟨⟨by decide,by decide,rfl⟩,HL_2.out.ruv,trivial⟩
 rintro r w3 ⟨rfl,hq⟩
 have HQ:=zz hq
 clear hq
 go_wp2_with fail
 go_end0
 rw [HX1.out]
 exact ⟨rfl,HQ.out⟩
theorem decls_rule {c:Nat→Nat} {B:Nat} {l:List Tk} {p:Ps} {w:World} (hP:PM c B l p w) (hn:p.ru.length≤1000000000) :
 Calls Tryz.prog 75 #[.pointer (some ⟨B,0,none⟩)] w (RQ c B l w (declsR l p)):=by
 have hmf:=mkf
 have HP0:=zz (PW.start hP)
 have h0:0<w.heap.size:=Nat.lt_of_le_of_lt (Nat.zero_le _) HP0.out.ltB
 have hz0:w.heap.size≤w.heap.size:=Nat.le_refl _
 obtain ⟨X,HX0⟩:∃ X,Hid (X=declsR l p):=⟨_,rfl⟩
 rw [← HX0.out]
 clear hP
 go_enter Tryz.func75,Tryz.ntmps75
 go_wp2_with fail
 refine (isKeyX HP0.out [sUncurl] rfl (by decide)).mono ?_
 rintro r w1 ⟨hr,hp,hf⟩
 have HP1:=zz hp
 have hz1:w.heap.size≤w1.heap.size:=HP1.out.size
 have hy1:=hf.size
 clear hp hf
 rw [any1] at hr
 cases hb:isK l p.tk sUncurl
 ·rw [hb] at hr
  subst hr
  have HX2:=zz (HX0.out.trans (if_neg (by simp [hb])))
  clear hb
  go_wp2_with fail
  refine (moreX HP1.out sSemi 3 0 (by omega)).mono ?_
  rintro r w3 ⟨b13,b23,b33,rfl,hc,hp,hf⟩
  have HP3:=zz hp
  have hz3:w.heap.size≤w3.heap.size:=HP3.out.size
  have hy3:=hf.size
  have HM_3:=zz hc
  clear hp hf hc
  go_wp2_with fail
  refine (thenX (m:=2) HP3.out [r0 3,rMore sSemi 3] 0 (0) hn rfl (by decide) (by omega) ?rus).mono ?_
  case rus=>exact ⟨⟨by decide,by decide,rfl⟩,HM_3.out.ruv,trivial⟩
  rintro r w4 ⟨rfl,hq⟩
  have HQ:=zz hq
  clear hq
  go_wp2_with fail
  go_end0
  rw [HX2.out]
  exact ⟨rfl,HQ.out⟩
 ·rw [hb] at hr
  subst hr
  have HX5:=zz (HX0.out.trans (if_pos hb))
  clear hb
  go_wp2_with fail
  go_end0
  rw [HX5.out]
  exact HP1.out.done
theorem arrow_rule {c:Nat→Nat} {B:Nat} {l:List Tk} {p:Ps} {w:World} (hs:1≤p.sg.length) (hsm:p.sg.length≤1000000000) (hP:PM c B l p w) (hn:p.ru.length≤1000000000) :
 Calls Tryz.prog 251 #[.pointer (some ⟨B,0,none⟩)] w (RQ c B l w (arrowR l p)):=by
 have hmf:=mkf
 have HP0:=zz (PW.start hP)
 have h0:0<w.heap.size:=Nat.lt_of_le_of_lt (Nat.zero_le _) HP0.out.ltB
 have hz0:w.heap.size≤w.heap.size:=Nat.le_refl _
 obtain ⟨X,HX0⟩:∃ X,Hid (X=arrowR l p):=⟨_,rfl⟩
 rw [← HX0.out]
 clear hP
 go_enter Tryz.func251,Tryz.ntmps251
 go_wp2_with fail
 refine (isKeyX HP0.out [sArrow] rfl (by decide)).mono ?_
 rintro r w1 ⟨hr,hp,hf⟩
 have HP1:=zz hp
 have hz1:w.heap.size≤w1.heap.size:=HP1.out.size
 have hy1:=hf.size
 clear hp hf
 rw [any1] at hr
 cases hb:isK l p.tk sArrow
 ·rw [hb] at hr
  subst hr
  have HX2:=zz (HX0.out.trans (if_neg (by simp [hb])))
  clear hb
  go_wp2_with fail
  go_end0
  rw [HX2.out]
  exact HP1.out.done
 ·rw [hb] at hr
  subst hr
  have HX3:=zz (HX0.out.trans (if_pos hb))
  clear hb
  go_wp2_with fail
  refine (keyX HP1.out sArrow).mono ?_
  rintro r w4 (⟨rfl,hk,hp⟩ | ⟨rfl,hk,hp,hf⟩)
  ·have HR:Hid (RQ c B l w X (.panicked stuckV) w4):=by
    show RQ c B l w X (.panicked stuckV) w4
    rw [HX3.out.trans (key_st hk)]
    exact hp.stuck rfl
   clear hk hp
   unfold stuckV at *
   go_wp2_with fail
   exact ⟨rfl,HR.out⟩
  have HX4:=zz (HX3.out.trans (key_go hk))
  have HP4:=zz hp
  have hz4:w.heap.size≤w4.heap.size:=HP4.out.size
  have hy4:=hf.size
  clear hk hp hf
  go_wp2_with fail
  refine (makingSigX HP4.out sArrow 1 0 (by omega) hs hsm (by decide)).mono ?_
  rintro r w5 ⟨b15,b25,b35,rfl,hc,hp,hf⟩
  have HP5:=zz hp
  have hz5:w.heap.size≤w5.heap.size:=HP5.out.size
  have hy5:=hf.size
  have HM_5:=zz hc
  clear hp hf hc
  go_wp2_with fail
  refine (thenX (m:=2) HP5.out [r0 5,rSig sArrow (p.sg.length - 1)] 0 (0) hn rfl (by decide) (by omega) ?rus).mono ?_
  case rus=>exact ⟨⟨by decide,by decide,rfl⟩,HM_5.out.ruv,trivial⟩
  rintro r w6 ⟨rfl,hq⟩
  have HQ:=zz hq
  clear hq
  go_wp2_with fail
  go_end0
  rw [HX4.out]
  exact ⟨rfl,HQ.out⟩
end Go.Proofs.YtcnnlecjdkfdjaaGreatDoor
