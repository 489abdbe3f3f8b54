/- PW Make R1: the texts of these names, of which the claim is made. -/
import Derived.Test.YtcnnlecjdkfdjaaGreatDoorThenP
set_option linter.unusedVariables false
set_option linter.unusedSimpArgs false
set_option maxRecDepth 100000
set_option maxHeartbeats 8000000
namespace Go.Proofs.YtcnnlecjdkfdjaaGreatDoor
open Go.RowKit
structure PW (c:Nat→Nat) (B:Nat) (l:List Tk) (w:World) (p:Ps) (W:World):Prop where
 ltB:B<w.heap.size
 colB:c B=1
 pm:∀ c':Nat→Nat,(∀ b,b<w.heap.size→c' b=c b)→PM c' B l p W
 kept:KP (fun b=>b<w.heap.size∧b≠B) w W
section
variable {c:Nat→Nat} {B:Nat} {l:List Tk} {w:World} {p:Ps} {W W':World}
theorem PM.below (h:PM c B l p w) {c':Nat→Nat} (hb:Below w.heap.size w W) (hc:∀ b,b<w.heap.size→c' b=c b):PM c' B l p W:=by
 obtain ⟨tp,tc,vr,ve,vs,vf,vd,vp,hS⟩:=h
 exact ⟨tp,tc,vr,ve,vs,vf,vd,vp,hS.below hb hc⟩
theorem PW.start (h:PM c B l p w):PW c B l w p w:=by
 have h':=h
 obtain ⟨tp,tc,vr,ve,vs,vf,vd,vp,hS⟩:=h'
 exact ⟨hS.hold.lt,hS.colB,fun c' hc=>h.below (Below.refl _ _) hc,KP.refl _ _⟩
theorem PW.size (h:PW c B l w p W):w.heap.size≤W.heap.size:=h.kept.size
theorem PW.below (h:PW c B l w p W) (hb:Below W.heap.size W W'):PW c B l w p W':=
 ⟨h.ltB,h.colB,fun c' hc=>(h.pm c' hc).below hb fun _ _=>rfl,h.kept.trans (KP.of_below hb fun b hb=>Nat.lt_of_lt_of_le hb.1 h.kept.size)⟩
theorem PW.alloc (h:PW c B l w p W) (o:Obj):PW c B l w p (W.alloc o):=h.below ((Below.refl _ W).alloc (Nat.le_refl _) o)
theorem PW.drew (h:PW c B l w p W):PW c B l w p W.drew:=h.below ⟨rfl,rfl,rfl,Nat.le_refl _,fun _ _=>rfl⟩
def col9 (c:Nat→Nat) (w:World) (b:Nat):Nat:=if b<w.heap.size then c b else 9
theorem col9_old (c:Nat→Nat) (w:World):∀ b,b<w.heap.size→col9 c w b=c b:=fun b hb=>by simp [col9,hb]
theorem PW.look (h:PW c B l w p W):∃ tp tc vr ve vs vf vd vp,PLook (Imm c w) B l tp l.length tc p.tk vr ve vs vf vd vp W:=by
 obtain ⟨tp,tc,vr,ve,vs,vf,vd,vp,hS⟩:=h.pm (col9 c w) (col9_old c w)
 refine ⟨tp,tc,vr,ve,vs,vf,vd,vp,hS.hold,fun b hb=>Nat.lt_of_lt_of_le hb.1 h.size,rfl,?_,hS.len,hS.at'⟩
 refine hS.toks.keep (KP.refl _ _) (fun b hb=>?_) (fun _ _ h=>h)
 have h2:=hb.2
 unfold col9 at h2
 split at h2
 ·exact ⟨by assumption,h2⟩
 ·cases h2
theorem PW.taken (h:PW c B l w p W) {n:Nat} (hk:Kept B W W') {tp:Option Addr} {tn tc:Nat} {vr ve vs vf vd vp:Value} (h0:Hold B (psC tp tn tc p.tk vr ve vs vf vd vp) 63 W) (hh:Hold B (psC tp tn tc n vr ve vs vf vd vp) 63 W') (hn:n≤1000000):PW c B l w { p with tk:=n } W':=by
 refine ⟨h.ltB,h.colB,fun c' hc=>?_,h.kept.trans (hk.mono fun b hb=>⟨Nat.lt_of_lt_of_le hb.1 h.size,hb.2⟩)⟩
 obtain ⟨tp',tc',vr',ve',vs',vf',vd',vp',hS⟩:=h.pm c' hc
 have e:=hS.hold
 unfold Hold at e h0
 rw [h0] at e
 cases e
 exact ⟨_,_,_,_,_,_,_,_,hS.kept hk (fun _ _=>rfl) hh hn⟩
theorem PW.imm (h:PW c B l w p W):KP (Imm c w) w W:=h.kept.mono fun b hb=>⟨hb.1,fun e=>by have:=h.colB;rw [← e,hb.2] at this;cases this⟩
theorem PW.stuck (h:PW c B l w p W) {n:Nat} (hn:n=p.tk):RQ c B l w (.inl n) (.panicked stuckV) W:=by
 obtain ⟨tp,tc,vr,ve,vs,vf,vd,vp,hL⟩:=h.look
 subst hn
 exact ⟨rfl,⟨tp,tc,vr,ve,vs,vf,vd,vp,hL.hold,hL.toks.keep (KP.refl _ _) hL.lt (fun _ _ h=>h)⟩,h.imm⟩
theorem PW.done (h:PW c B l w p W):RQ c B l w (.inr p) (.returned (.tuple #[])) W:=
 ⟨rfl,col9 c w,h.pm _ (col9_old c w),fun b hb=>⟨Nat.lt_of_lt_of_le hb.1 h.size,(col9_old c w b hb.1).trans hb.2⟩,h.imm⟩
theorem RQ.trans {c1:Nat→Nat} {w1:World} {x:Rs} {e:Ending} (hi:∀ b,Imm c w b→Imm c1 w1 b) (hk:KP (Imm c w) w w1) (h:RQ c1 B l w1 x e W):RQ c B l w x e W:=by
 cases x with
 | inl n=>
  obtain ⟨h1,⟨tp,tc,vr,ve,vs,vf,vd,vp,h2,h3⟩,h4⟩:=h
  exact ⟨h1,⟨tp,tc,vr,ve,vs,vf,vd,vp,h2,h3⟩,hk.trans (h4.mono hi)⟩
 | inr q=>
  obtain ⟨h1,c2,h2,h3,h4⟩:=h
  exact ⟨h1,c2,h2,fun b hb=>h3 b (hi b hb),hk.trans (h4.mono hi)⟩
theorem isKeyW (h:PW c B l w p W) {b n cap:Nat} {L:List (List UInt8)} (hn:L.length=n) (hm:n≤1000) (hM:RowStr W b L) (hb:b<W.heap.size) :
 Calls Tryz.prog 57 #[.pointer (some ⟨B,0,none⟩),.slice (some ⟨b,0,none⟩) n cap] W fun r W'=>r=.returned (.bool (L.any fun s=>isK l p.tk s))∧PW c B l w p W'∧Below W.heap.size W W':=by
 obtain ⟨tp,tc,vr,ve,vs,vf,vd,vp,hL⟩:=h.look
 refine (isKey_any (c:=cap) hL hn hm hM hb).mono ?_
 rintro r W' ⟨rfl,hb⟩
 exact ⟨rfl,h.below hb,hb⟩
theorem isW (h:PW c B l w p W) {b n cap:Nat} {L:List Int} (hn:L.length=n) (hm:n≤1000) (hM:RowInt W b L) (hb:b<W.heap.size) :
 Calls Tryz.prog 112 #[.pointer (some ⟨B,0,none⟩),.slice (some ⟨b,0,none⟩) n cap] W fun r W'=>r=.returned (.bool (decide ((tkAt l p.tk).kd ∈ L)))∧PW c B l w p W'∧Below W.heap.size W W':=by
 obtain ⟨tp,tc,vr,ve,vs,vf,vd,vp,hL⟩:=h.look
 refine (is_any (c:=cap) hL hn hm hM hb).mono ?_
 rintro r W' ⟨rfl,hb⟩
 exact ⟨rfl,h.below hb,hb⟩
theorem keyW_no (h:PW c B l w p W) {s:List UInt8} (hk:isK l p.tk s=false) :
 Calls Tryz.prog 74 #[.pointer (some ⟨B,0,none⟩),.string (S s)] W fun r W'=>r=.panicked stuckV∧PW c B l w p W':=by
 obtain ⟨tp,tc,vr,ve,vs,vf,vd,vp,hL⟩:=h.look
 refine (key_no hL hk).mono ?_
 rintro r W' ⟨rfl,hb⟩
 exact ⟨rfl,h.below hb⟩
theorem keyW_yes (h:PW c B l w p W) {s:List UInt8} (hk:isK l p.tk s=true) :
 Calls Tryz.prog 74 #[.pointer (some ⟨B,0,none⟩),.string (S s)] W fun r W'=>r=.returned (.tuple #[])∧PW c B l w { p with tk:=p.tk+1 } W'∧Kept B W W':=by
 obtain ⟨tp,tc,vr,ve,vs,vf,vd,vp,hL⟩:=h.look
 refine (key_yes hL hk).mono ?_
 rintro r W' ⟨rfl,h1,h2⟩
 exact ⟨rfl,h.taken h2 hL.hold h1 (by have:=isK_lt hk;have:=hL.max;omega),h2⟩
theorem takeW_yes (h:PW c B l w p W) {k:Int} (h0:k≠0) (hk:isD l p.tk k=true) :
 Calls Tryz.prog 138 #[.pointer (some ⟨B,0,none⟩),.int .i64 k] W fun r W'=>r=.returned (.agg (tkC (tkAt l p.tk)).toArray)∧PW c B l w { p with tk:=p.tk+1 } W'∧Kept B W W':=by
 obtain ⟨tp,tc,vr,ve,vs,vf,vd,vp,hL⟩:=h.look
 refine (take_yes hL hk).mono ?_
 rintro r W' ⟨rfl,h1,h2⟩
 exact ⟨rfl,h.taken h2 hL.hold h1 (by have:=isD_lt h0 hk;have:=hL.max;omega),h2⟩
theorem nameW_no (h:PW c B l w p W) (hk:isD l p.tk 2=false) :
 Calls Tryz.prog 117 #[.pointer (some ⟨B,0,none⟩)] W fun r W'=>r=.panicked stuckV∧PW c B l w p W':=by
 obtain ⟨tp,tc,vr,ve,vs,vf,vd,vp,hL⟩:=h.look
 refine (name_no hL hk).mono ?_
 rintro r W' ⟨rfl,hb⟩
 exact ⟨rfl,h.below hb⟩
theorem nameW_yes (h:PW c B l w p W) (hk:isD l p.tk 2=true) :
 Calls Tryz.prog 117 #[.pointer (some ⟨B,0,none⟩)] W fun r W'=>r=.returned (.string (S (tkAt l p.tk).tx))∧PW c B l w { p with tk:=p.tk+1 } W'∧Kept B W W':=by
 obtain ⟨tp,tc,vr,ve,vs,vf,vd,vp,hL⟩:=h.look
 refine (name_yes hL hk).mono ?_
 rintro r W' ⟨rfl,h1,h2⟩
 exact ⟨rfl,h.taken h2 hL.hold h1 (by have:=isD_lt (by decide) hk;have:=hL.max;omega),h2⟩
theorem conW_no (h:PW c B l w p W) (hk:isD l p.tk 3=false) :
 Calls Tryz.prog 174 #[.pointer (some ⟨B,0,none⟩)] W fun r W'=>r=.panicked stuckV∧PW c B l w p W':=by
 obtain ⟨tp,tc,vr,ve,vs,vf,vd,vp,hL⟩:=h.look
 refine (con_no hL hk).mono ?_
 rintro r W' ⟨rfl,hb⟩
 exact ⟨rfl,h.below hb⟩
theorem conW_yes (h:PW c B l w p W) (hk:isD l p.tk 3=true) :
 Calls Tryz.prog 174 #[.pointer (some ⟨B,0,none⟩)] W fun r W'=>r=.returned (.string (S (tkAt l p.tk).tx))∧PW c B l w { p with tk:=p.tk+1 } W'∧Kept B W W':=by
 obtain ⟨tp,tc,vr,ve,vs,vf,vd,vp,hL⟩:=h.look
 refine (con_yes hL hk).mono ?_
 rintro r W' ⟨rfl,h1,h2⟩
 exact ⟨rfl,h.taken h2 hL.hold h1 (by have:=isD_lt (by decide) hk;have:=hL.max;omega),h2⟩
theorem PW.token (h:PW c B l w p W) (i:Nat):(tkAt l i).tx.length≤281474976710656∧-9223372036854775808≤(tkAt l i).nu∧(tkAt l i).nu≤9223372036854775807:=by
 obtain ⟨tp,tc,vr,ve,vs,vf,vd,vp,hL⟩:=h.look
 unfold tkAt
 by_cases hi:i<l.length
 ·have hg:l.getD i tk0=l[i]:=by simp [List.getD,List.getElem?_eq_getElem hi]
  rw [hg]
  rcases hL.toks with he | ⟨b,o,rfl,hPb,hma⟩
  ·rw [he] at hi;simp at hi
  ·obtain ⟨ds,_,_,_,hz⟩:=hma i l[i] (by simp)
   exact hz
 ·have hg:l.getD i tk0=tk0:=by simp [List.getD,List.getElem?_eq_none (show l.length≤i by omega)]
  rw [hg]
  exact ⟨by simp [tk0],by simp [tk0],by simp [tk0]⟩
theorem thenW (h:PW c B l w p W) {b0 m cap:Nat} {rs:List Ru} (hn:p.ru.length≤1000000000) (hl:rs.length=m) (hm:m≤1000) {L:List Value} (hL:Hold b0 L.toArray 1 W) {c1:Nat→Nat} (hc1:∀ b,b<w.heap.size→c1 b=c b) (hc0:c1 b0=0) (hLl:L.length=m) (hR:∀ i r,rs[i]?=some r→∃ v,L[i]?=some v∧RuV B c1 W (p.ru.length+(m - 1 - i)) v r) :
 Calls Tryz.prog 55 #[.pointer (some ⟨B,0,none⟩),.slice (some ⟨b0,0,none⟩) m cap] W (RQ c B l w (.inr { p with ru:=rs ++ p.ru })):=by
 refine (then_any (h.pm c1 hc1) hn hl hm hL hc0 hLl hR).mono ?_
 rintro e W' ⟨rfl,c2,h1,h2,h3⟩
 have hi:∀ b,Imm c w b→Imm c1 W b:=fun b hb=>⟨Nat.lt_of_lt_of_le hb.1 h.size,(hc1 b hb.1).trans hb.2⟩
 exact ⟨rfl,c2,h2,fun b hb=>⟨Nat.lt_of_lt_of_le (hi b hb).1 h3.size,(h1 b (hi b hb).1).trans (hi b hb).2⟩,h.imm.trans (h3.mono hi)⟩
def Rus (B:Nat) (c:Nat→Nat) (W:World) (n:Nat):List Ru→List Value→Prop
 | [],[]=>True
 | r :: rs,v :: vs=>RuV B c W (n+rs.length) v r∧Rus B c W n rs vs
 | _,_=>False
theorem Rus.len {n:Nat}:∀ {rs:List Ru} {L:List Value},Rus B c W n rs L→L.length=rs.length
 | [],[],_=>rfl
 | r :: rs,v :: vs,h=>by rw [List.length_cons,List.length_cons,h.2.len]
 | [],_ :: _,h=>h.elim
 | _ :: _,[],h=>h.elim
theorem Rus.at {n:Nat}:∀ {rs:List Ru} {L:List Value},Rus B c W n rs L→∀ i r,rs[i]?=some r→∃ v,L[i]?=some v∧RuV B c W (n+(rs.length - 1 - i)) v r
 | [],[],_,i,r,hi=>by simp at hi
 | r :: rs,v :: vs,h,0,r',hi=>by
  simp at hi
  subst hi
  exact ⟨v,rfl,by have:=h.1;simpa using this⟩
 | r :: rs,v :: vs,h,i+1,r',hi=>by
  rw [lGS] at hi
  obtain ⟨u,h1,h2⟩:=h.2.at i r' hi
  refine ⟨u,by rw [lGS];exact h1,?_⟩
  rw [show (r :: rs).length - 1 - (i+1)=rs.length - 1 - i by rw [List.length_cons];omega]
  exact h2
 | [],_ :: _,h,_,_,_=>h.elim
 | _ :: _,[],h,_,_,_=>h.elim
theorem thenU (h:PW c B l w p W) {b0 m cap:Nat} (rs:List Ru) {L:List Value} (c1:Nat→Nat) (hn:p.ru.length≤1000000000) (hm:rs.length=m) (hm':m≤1000) (hL:Hold b0 L.toArray 1 W) (hc1:∀ b,b<w.heap.size→c1 b=c b) (hc0:c1 b0=0) (hR:Rus B c1 W p.ru.length rs L) :
 Calls Tryz.prog 55 #[.pointer (some ⟨B,0,none⟩),.slice (some ⟨b0,0,none⟩) m cap] W (RQ c B l w (.inr { p with ru:=rs ++ p.ru })):=
 thenW h hn hm hm' hL hc1 hc0 (hR.len.trans hm) (by subst hm;exact hR.at)
def colN (c:Nat→Nat) (w:World) (e k b:Nat):Nat:=if b<w.heap.size then c b else if b=e then k else 0
theorem colN_old (c:Nat→Nat) (w:World) (e k:Nat):∀ b,b<w.heap.size→colN c w e k b=c b:=fun b hb=>by simp [colN,hb]
theorem colN_new {c:Nat→Nat} {w:World} {e k b:Nat} (hb:w.heap.size≤b) (he:b≠e):colN c w e k b=0:=by simp [colN,Nat.not_lt.2 hb,he]
theorem colN_own {c:Nat→Nat} {w:World} {e k:Nat} (hb:w.heap.size≤e):colN c w e k e=k:=by simp [colN,Nat.not_lt.2 hb]
theorem keyW (h:PW c B l w p W) (s:List UInt8) :
 Calls Tryz.prog 74 #[.pointer (some ⟨B,0,none⟩),.string (S s)] W fun r W'=>(r=.panicked stuckV∧isK l p.tk s=false∧PW c B l w p W')∨(r=.returned (.tuple #[])∧isK l p.tk s=true∧PW c B l w { p with tk:=p.tk+1 } W'∧Kept B W W'):=by
 cases hk:isK l p.tk s
 ·exact (keyW_no h hk).mono fun r W' ⟨h1,h2⟩=>.inl ⟨h1,rfl,h2⟩
 ·exact (keyW_yes h hk).mono fun r W' ⟨h1,h2,h3⟩=>.inr ⟨h1,rfl,h2,h3⟩
theorem nameW (h:PW c B l w p W) :
 Calls Tryz.prog 117 #[.pointer (some ⟨B,0,none⟩)] W fun r W'=>(r=.panicked stuckV∧isD l p.tk 2=false∧PW c B l w p W')∨(r=.returned (.string (S (tkAt l p.tk).tx))∧isD l p.tk 2=true∧PW c B l w { p with tk:=p.tk+1 } W'∧Kept B W W'):=by
 cases hk:isD l p.tk 2
 ·exact (nameW_no h hk).mono fun r W' ⟨h1,h2⟩=>.inl ⟨h1,rfl,h2⟩
 ·exact (nameW_yes h hk).mono fun r W' ⟨h1,h2,h3⟩=>.inr ⟨h1,rfl,h2,h3⟩
theorem conW (h:PW c B l w p W) :
 Calls Tryz.prog 174 #[.pointer (some ⟨B,0,none⟩)] W fun r W'=>(r=.panicked stuckV∧isD l p.tk 3=false∧PW c B l w p W')∨(r=.returned (.string (S (tkAt l p.tk).tx))∧isD l p.tk 3=true∧PW c B l w { p with tk:=p.tk+1 } W'∧Kept B W W'):=by
 cases hk:isD l p.tk 3
 ·exact (conW_no h hk).mono fun r W' ⟨h1,h2⟩=>.inl ⟨h1,rfl,h2⟩
 ·exact (conW_yes h hk).mono fun r W' ⟨h1,h2,h3⟩=>.inr ⟨h1,rfl,h2,h3⟩
end
theorem more_any (B:Nat) (s:ByteArray) (f:Fn) (x y:Array Value) (w:World) :
 Calls Tryz.prog 119 #[.pointer (some ⟨B,0,none⟩),.string s,.func f x y] w fun r w'=>r=.returned (.func (.func 176) #[] #[bx w.heap.size,bx (w.heap.size+1),bx (w.heap.size+2)])∧w'=((w.alloc (.cells #[.pointer (some ⟨B,0,none⟩)] 58)).alloc (.cells #[.string s] 9)).alloc (.cells #[.func f x y] 1):=by
 have hmf:=mkf
 go_enter Tryz.func119,Tryz.ntmps119
 go_wp2_with fail
 go_ret
 exact ⟨rfl,rfl⟩
theorem making_any {B:Nat} {w:World} {tp:Option Addr} {tn tc tk n k:Nat} {vr vs vf vd vp:Value} {q:Option Addr} {cq:Nat} (kd nu:Int) (s:ByteArray) (pn pk:Option Addr) (nn cn nk ck:Nat) (hB:Hold B (psC tp tn tc tk vr (.slice q n cq) vs vf vd vp) 63 w) (hk:k≤n) (hn:n≤1000000000) :
 Calls Tryz.prog 115 #[.pointer (some ⟨B,0,none⟩),.agg #[.int .i64 kd,.string s,.int .i64 nu,.slice pn nn cn,.slice pk nk ck],.int .i64 k] w fun r w'=>r=.returned (.func (.func 173) #[] #[bx (w.heap.size+1),bx w.heap.size,bx (w.heap.size+2)])∧w'=((w.alloc (.cells #[.pointer (some ⟨B,0,none⟩)] 58)).alloc (.cells #[.int .i64 kd,.string s,.int .i64 nu,.slice pn nn cn,.slice pk nk ck] 27)).alloc (.cells #[.int .i64 ((n - k:Nat):Int)] 3):=by
 have hmf:=mkf
 have c3:=((hB.alloc (.cells #[.pointer (some ⟨B,0,none⟩)] 58)).alloc (.cells #[.int .i64 kd,.string s,.int .i64 nu,.slice pn nn cn,.slice pk nk ck] 27)).cell 3
 have hsub:((n - k:Nat):Int)=(n:Int) - k:=by omega
 have hwr:IntKind.i64.wrap ((n:Int) - k)=(n:Int) - k:=wrap_i (by omega) (by omega)
 simp only [lGA,lGS,lGZ] at c3
 rw [hsub]
 go_enter Tryz.func115,Tryz.ntmps115
 go_wp2_with fail
 go_ret
 exact ⟨rfl,rfl⟩
theorem makingSig_any {B:Nat} {w:World} {tp:Option Addr} {tn tc tk n k:Nat} {vr ve vf vd vp:Value} {q:Option Addr} {cq:Nat} (s:ByteArray) (hB:Hold B (psC tp tn tc tk vr ve (.slice q n cq) vf vd vp) 63 w) (hk:k≤n) (hn:n≤1000000000) :
 Calls Tryz.prog 257 #[.pointer (some ⟨B,0,none⟩),.string s,.int .i64 k] w fun r w'=>r=.returned (.func (.func 260) #[] #[bx (w.heap.size+1),bx w.heap.size,bx (w.heap.size+2)])∧w'=((w.alloc (.cells #[.pointer (some ⟨B,0,none⟩)] 58)).alloc (.cells #[.string s] 9)).alloc (.cells #[.int .i64 ((n - k:Nat):Int)] 3):=by
 have hmf:=mkf
 have c3:=((hB.alloc (.cells #[.pointer (some ⟨B,0,none⟩)] 58)).alloc (.cells #[.string s] 9)).cell 4
 have hsub:((n - k:Nat):Int)=(n:Int) - k:=by omega
 have hwr:IntKind.i64.wrap ((n:Int) - k)=(n:Int) - k:=wrap_i (by omega) (by omega)
 simp only [lGA,lGS,lGZ] at c3
 rw [hsub]
 go_enter Tryz.func257,Tryz.ntmps257
 go_wp2_with fail
 go_ret
 exact ⟨rfl,rfl⟩
theorem binds_any (kd:Int) (s:ByteArray) (w:World) :
 Calls Tryz.prog 116 #[.int .i64 kd,.string s] w fun r w'=>r=.returned (.agg #[.int .i64 kd,.string ⟨#[]⟩,.int .i64 0,.slice (some ⟨w.heap.size+1,0,none⟩) 1 1,.slice none 0 0])∧w'=(w.alloc (.cells #[.int .i64 kd,.string ⟨#[]⟩,.int .i64 0,.slice (some ⟨w.heap.size+1,0,none⟩) 1 1,.slice none 0 0] 27)).alloc (.cells #[.string s] 9):=by
 go_enter Tryz.func116,Tryz.ntmps116
 go_wp2_with fail
 exact bodyPost_ret (v:=.agg #[.int .i64 kd,.string ⟨#[]⟩,.int .i64 0,.slice (some ⟨w.heap.size+1,0,none⟩) 1 1,.slice none 0 0]) (by simp only [results,Tryz.results116];go_simp;try rfl) rfl ⟨rfl,rfl⟩
theorem comp_any {c:Nat→Nat} {B:Nat} {l:List Tk} {p:Ps} {w:World} (hP:PM c B l p w) (hn:p.ru.length≤1000000000) :
 Calls Tryz.prog 63 #[.pointer (some ⟨B,0,none⟩)] w (RQ c B l w (pushR [r0 15,r0 14] p)):=by
 have hmf:=mkf
 have H0:=hide (PW.start hP)
 have HT:=hide (thenU (b0:=w.heap.size) (m:=2) (cap:=2) (H0.out.alloc (.cells #[.func (.func 121) #[pB B] #[],.func (.func 122) #[pB B] #[]] 1)) [r0 15,r0 14] (L:=[.func (.func 121) #[pB B] #[],.func (.func 122) #[pB B] #[]]) (colN c w 0 0) hn rfl (by decide) (Hold.new w _ 1) (colN_old _ _ _ _) (by simp [colN]) ⟨⟨by decide,by decide,rfl⟩,⟨by decide,by decide,rfl⟩,trivial⟩)
 clear H0
 go_enter Tryz.func63,Tryz.ntmps63
 go_wp2_with fail
 refine HT.out.mono ?_
 rintro r w1 ⟨rfl,hq⟩
 have HQ:=hide hq
 clear hq
 go_wp2_with fail
 go_end0
 exact ⟨rfl,HQ.out⟩
theorem sum_any {c:Nat→Nat} {B:Nat} {l:List Tk} {p:Ps} {w:World} (hP:PM c B l p w) (hn:p.ru.length≤1000000000) :
 Calls Tryz.prog 121 #[.pointer (some ⟨B,0,none⟩)] w (RQ c B l w (pushR [r0 17,r0 16] p)):=by
 have hmf:=mkf
 have H0:=hide (PW.start hP)
 have HT:=hide (thenU (b0:=w.heap.size) (m:=2) (cap:=2) (H0.out.alloc (.cells #[.func (.func 178) #[pB B] #[],.func (.func 179) #[pB B] #[]] 1)) [r0 17,r0 16] (L:=[.func (.func 178) #[pB B] #[],.func (.func 179) #[pB B] #[]]) (colN c w 0 0) hn rfl (by decide) (Hold.new w _ 1) (colN_old _ _ _ _) (by simp [colN]) ⟨⟨by decide,by decide,rfl⟩,⟨by decide,by decide,rfl⟩,trivial⟩)
 clear H0
 go_enter Tryz.func121,Tryz.ntmps121
 go_wp2_with fail
 refine HT.out.mono ?_
 rintro r w1 ⟨rfl,hq⟩
 have HQ:=hide hq
 clear hq
 go_wp2_with fail
 go_end0
 exact ⟨rfl,HQ.out⟩
theorem product_any {c:Nat→Nat} {B:Nat} {l:List Tk} {p:Ps} {w:World} (hP:PM c B l p w) (hn:p.ru.length≤1000000000) :
 Calls Tryz.prog 178 #[.pointer (some ⟨B,0,none⟩)] w (RQ c B l w (pushR [r0 19,r0 18] p)):=by
 have hmf:=mkf
 have H0:=hide (PW.start hP)
 have HT:=hide (thenU (b0:=w.heap.size) (m:=2) (cap:=2) (H0.out.alloc (.cells #[.func (.func 214) #[pB B] #[],.func (.func 215) #[pB B] #[]] 1)) [r0 19,r0 18] (L:=[.func (.func 214) #[pB B] #[],.func (.func 215) #[pB B] #[]]) (colN c w 0 0) hn rfl (by decide) (Hold.new w _ 1) (colN_old _ _ _ _) (by simp [colN]) ⟨⟨by decide,by decide,rfl⟩,⟨by decide,by decide,rfl⟩,trivial⟩)
 clear H0
 go_enter Tryz.func178,Tryz.ntmps178
 go_wp2_with fail
 refine HT.out.mono ?_
 rintro r w1 ⟨rfl,hq⟩
 have HQ:=hide hq
 clear hq
 go_wp2_with fail
 go_end0
 exact ⟨rfl,HQ.out⟩
theorem app_any {c:Nat→Nat} {B:Nat} {l:List Tk} {p:Ps} {w:World} (hP:PM c B l p w) (hn:p.ru.length≤1000000000) :
 Calls Tryz.prog 214 #[.pointer (some ⟨B,0,none⟩)] w (RQ c B l w (pushR [r0 21,r0 20] p)):=by
 have hmf:=mkf
 have H0:=hide (PW.start hP)
 have HT:=hide (thenU (b0:=w.heap.size) (m:=2) (cap:=2) (H0.out.alloc (.cells #[.func (.func 232) #[pB B] #[],.func (.func 233) #[pB B] #[]] 1)) [r0 21,r0 20] (L:=[.func (.func 232) #[pB B] #[],.func (.func 233) #[pB B] #[]]) (colN c w 0 0) hn rfl (by decide) (Hold.new w _ 1) (colN_old _ _ _ _) (by simp [colN]) ⟨⟨by decide,by decide,rfl⟩,⟨by decide,by decide,rfl⟩,trivial⟩)
 clear H0
 go_enter Tryz.func214,Tryz.ntmps214
 go_wp2_with fail
 refine HT.out.mono ?_
 rintro r w1 ⟨rfl,hq⟩
 have HQ:=hide hq
 clear hq
 go_wp2_with fail
 go_end0
 exact ⟨rfl,HQ.out⟩
theorem sig_any {c:Nat→Nat} {B:Nat} {l:List Tk} {p:Ps} {w:World} (hP:PM c B l p w) (hn:p.ru.length≤1000000000) :
 Calls Tryz.prog 245 #[.pointer (some ⟨B,0,none⟩)] w (RQ c B l w (pushR [r0 7,r0 6] p)):=by
 have hmf:=mkf
 have H0:=hide (PW.start hP)
 have HT:=hide (thenU (b0:=w.heap.size) (m:=2) (cap:=2) (H0.out.alloc (.cells #[.func (.func 250) #[pB B] #[],.func (.func 251) #[pB B] #[]] 1)) [r0 7,r0 6] (L:=[.func (.func 250) #[pB B] #[],.func (.func 251) #[pB B] #[]]) (colN c w 0 0) hn rfl (by decide) (Hold.new w _ 1) (colN_old _ _ _ _) (by simp [colN]) ⟨⟨by decide,by decide,rfl⟩,⟨by decide,by decide,rfl⟩,trivial⟩)
 clear H0
 go_enter Tryz.func245,Tryz.ntmps245
 go_wp2_with fail
 refine HT.out.mono ?_
 rintro r w1 ⟨rfl,hq⟩
 have HQ:=hide hq
 clear hq
 go_wp2_with fail
 go_end0
 exact ⟨rfl,HQ.out⟩
end Go.Proofs.YtcnnlecjdkfdjaaGreatDoor
