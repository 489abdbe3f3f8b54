/- Run2 Run3 Run4: the texts of these names, of which the claim is made. -/
import Derived.Test.YtcnnlecjdkfdjaaGreatDoorRun
set_option linter.unusedVariables false
set_option linter.unusedSimpArgs false
set_option maxRecDepth 100000
set_option maxHeartbeats 8000000
namespace Go.Proofs.YtcnnlecjdkfdjaaGreatDoor
section
variable {l l2:List Tk} {a N:Nat} {br:Bool} {E:List Tr} {bot:List Ru}
theorem ne_sR {s:List UInt8} (h:(s == sRight)=false):s≠sRight∨br=false:=.inl (by simpa using h)
theorem sft_ex (p:Ps):(sft a E bot p).ex.length=E.length+p.ex.length:=by unfold sft;simp
theorem sft_ex1 (p:Ps) (h:1≤p.ex.length∨E=[]):(sft a E bot p).ex.length - 1=p.ex.length - 1+E.length:=by
 rw [sft_ex]
 rcases h with h | h
 ·omega
 ·rw [h];simp
theorem prog_lk (hA:Alike l l2 a N br):Lk l a N E bot Any (progR l) (progR l2):=by
 show Lk l a N E bot Any (fun p=>progR l p) (fun p=>progR l2 p)
 unfold progR
 exact lk_then (lk_key hA (ne_sR (by decide))) fun p _=>lk_push0 rfl
theorem decls_lk (hA:Alike l l2 a N br):Lk l a N E bot Any (declsR l) (declsR l2):=by
 show Lk l a N E bot Any (fun p=>declsR l p) (fun p=>declsR l2 p)
 unfold declsR
 exact lk_ifK hA (ne_sR (by decide)) (lk_ret (g:=fun p=>p) (g2:=fun p=>p) (fun _=>rfl) fun _ _=>rfl) (lk_push0 rfl)
theorem data_lk (hA:Alike l l2 a N br):Lk l a N E bot Any (dataR l) (dataR l2):=by
 show Lk l a N E bot Any (fun p=>dataR l p) (fun p=>dataR l2 p)
 unfold dataR
 exact lk_then (lk_key hA (ne_sR (by decide))) fun p _=>lk_take hA (by decide) (.inl (by decide)) fun p t _=>lk_names hA fun p ns _=>lk_then (lk_key hA (ne_sR (by decide))) fun p _=>lk_push0 rfl
theorem def_lk (hA:Alike l l2 a N br):Lk l a N E bot Any (defR l) (defR l2):=by
 show Lk l a N E bot Any (fun p=>defR l p) (fun p=>defR l2 p)
 unfold defR
 refine lk_take hA (by decide) (.inl (by decide)) fun p t _=>lk_names hA fun p ns _=>lk_then (F:=fun p=>keyR l sEq { p with ru:=(ns.reverse.map fun n=>rMake (bindT 4 n) p.ex.length) ++ (rDef t.tx :: p.ru) }) (F2:=fun p=>keyR l2 sEq { p with ru:=(ns.reverse.map fun n=>rMake (bindT 4 n) p.ex.length) ++ (rDef t.tx :: p.ru) }) ?_ fun p _=>lk_push0 rfl
 refine lk_at (g:=fun p=>{ p with ru:=(ns.reverse.map fun n=>rMake (bindT 4 n) p.ex.length) ++ (rDef t.tx :: p.ru) }) (g2:=fun p=>{ p with ru:=(ns.reverse.map fun n=>rMake (bindT 4 n) p.ex.length) ++ (rDef t.tx :: p.ru) }) (lk_key hA (ne_sR (by decide))) (fun _=>rfl) fun p _=>?_
 unfold sft
 simp only [List.map_append,List.map_map,List.map_cons,List.append_assoc,List.cons_append,List.length_append]
 congr 2
 refine List.map_congr_left fun n _=>?_
 show rMake (bindT 4 n) (E.length+p.ex.length)=rMake (bindT 4 n) (p.ex.length+E.length)
 rw [Nat.add_comm]
theorem decl_lk (hA:Alike l l2 a N br):Lk l a N E bot Any (declR l) (declR l2):=by
 show Lk l a N E bot Any (fun p=>declR l p) (fun p=>declR l2 p)
 unfold declR
 exact lk_ifK hA (ne_sR (by decide)) (data_lk hA).any (def_lk hA)
theorem form_lk (hA:Alike l l2 a N br):Lk l a N E bot Any (formR l) (formR l2):=by
 show Lk l a N E bot Any (fun p=>formR l p) (fun p=>formR l2 p)
 unfold formR
 exact lk_take hA (by decide) (.inl (by decide)) fun p t _=>lk_push0 rfl
theorem arrow_lk (hA:Alike l l2 a N br):Lk l a N E bot Any (arrowR l) (arrowR l2):=by
 show Lk l a N E bot Any (fun p=>arrowR l p) (fun p=>arrowR l2 p)
 unfold arrowR
 refine lk_ifK hA (ne_sR (by decide)) (lk_then (lk_key hA (ne_sR (by decide))).any fun p _=>?_) (lk_ret (g:=fun p=>p) (g2:=fun p=>p) (fun _=>rfl) fun _ _=>rfl)
 exact lk_push (rs:=fun p=>[r0 5,rSig sArrow (p.sg.length - 1)]) (rs2:=fun p=>[r0 5,rSig sArrow (p.sg.length - 1)]) fun p _=>rfl
theorem sigAtom_lk (hA:Alike l l2 a N br):Lk l a N E bot Any (sigAtomR l) (sigAtomR l2):=by
 show Lk l a N E bot Any (fun p=>sigAtomR l p) (fun p=>sigAtomR l2 p)
 unfold sigAtomR
 refine lk_ifD hA (by decide) (by decide) ?_ (lk_ifD hA (by decide) (by decide) ?_ (lk_then (lk_key hA (ne_sR (by decide))) fun p _=>lk_push0 rfl))
 all_goals
  exact lk_take hA (by decide) (.inl (by decide)) fun p t _=>lk_ret (g:=fun p=>{ p with sg:=p.sg ++ [⟨t.tx,[]⟩] }) (g2:=fun p=>{ p with sg:=p.sg ++ [⟨t.tx,[]⟩] }) (fun _=>rfl) fun _ _=>rfl
theorem sigApp_lk (hA:Alike l l2 a N br):Lk l a N E bot Any (sigAppR l) (sigAppR l2):=by
 show Lk l a N E bot Any (fun p=>sigAppR l p) (fun p=>sigAppR l2 p)
 unfold sigAppR
 refine lk_ifD hA (by decide) (by decide) (lk_take hA (by decide) (.inl (by decide)) fun p t _=>?_) (sigAtom_lk hA)
 exact lk_push (rs:=fun p=>[r0 8,rSig t.tx p.sg.length]) (rs2:=fun p=>[r0 8,rSig t.tx p.sg.length]) fun p _=>rfl
theorem sigAtoms_lk (hA:Alike l l2 a N br):Lk l a N E bot Any (sigAtomsR l) (sigAtomsR l2):=by
 show Lk l a N E bot Any (fun p=>sigAtomsR l p) (fun p=>sigAtomsR l2 p)
 unfold sigAtomsR
 refine lk_if (b:=fun p=>isD l p.tk 3 || isD l p.tk 2 || isK l p.tk sLeft) (b2:=fun p=>isD l2 p.tk 3 || isD l2 p.tk 2 || isK l2 p.tk sLeft) (fun p _ _ h _=>?_) (lk_push0 rfl) (lk_ret (g:=fun p=>p) (g2:=fun p=>p) (fun _=>rfl) fun _ _=>rfl)
 show (isD l2 (p.tk+a) 3 || isD l2 (p.tk+a) 2 || isK l2 (p.tk+a) sLeft)=_
 rw [hA.kind h (by decide) (by decide),hA.kind h (by decide) (by decide),hA.key h (.inl (by decide))]
theorem lam_lk (hA:Alike l l2 a N br):Lk l a N E bot Any (lamR l) (lamR l2):=by
 show Lk l a N E bot Any (fun p=>lamR l p) (fun p=>lamR l2 p)
 unfold lamR
 refine lk_then (lk_key hA (ne_sR (by decide))) fun p _=>lk_take hA (by decide) (.inl (by decide)) fun p t _=>lk_then (lk_key hA (ne_sR (by decide))) fun p _=>lk_push0 ?_
 show [r0 10,rMake _ _]=[r0 10,rMake _ _]
 rw [sft_ex,Nat.add_comm]
 rfl
theorem let_lk (hA:Alike l l2 a N br):Lk l a N E bot Any (letR l) (letR l2):=by
 show Lk l a N E bot Any (fun p=>letR l p) (fun p=>letR l2 p)
 unfold letR
 refine lk_then (lk_key hA (ne_sR (by decide))) fun p _=>lk_take hA (by decide) (.inl (by decide)) fun p t _=>lk_then (lk_key hA (ne_sR (by decide))) fun p _=>lk_push0 ?_
 show [r0 10,rLater sIn,r0 10,rMake _ _]=[r0 10,rLater sIn,r0 10,rMake _ _]
 rw [sft_ex,Nat.add_comm]
 rfl
theorem ways_lk (hA:Alike l l2 a N br):Lk l a N E bot Any (waysR l) (waysR l2):=by
 show Lk l a N E bot Any (fun p=>waysR l p) (fun p=>waysR l2 p)
 unfold waysR
 refine lk_then (lk_key hA (ne_sR (by decide))) fun p _=>lk_push (rs:=fun p=>[r0 10,rLater sOf,rLater sCurl,r0 11,rMore sSemi 11,rLater sUncurl,rMake (kindT 7) p.ex.length]) (rs2:=fun p=>[r0 10,rLater sOf,rLater sCurl,r0 11,rMore sSemi 11,rLater sUncurl,rMake (kindT 7) p.ex.length]) fun p _=>?_
 rw [sft_ex,Nat.add_comm]
 rfl
theorem alt_lk (hA:Alike l l2 a N br):Lk l a N E bot Any (altR l) (altR l2):=by
 show Lk l a N E bot Any (fun p=>altR l p) (fun p=>altR l2 p)
 unfold altR
 refine lk_take hA (by decide) (.inl (by decide)) fun p t _=>lk_names hA fun p ns _=>lk_then (lk_key hA (ne_sR (by decide))) fun p _=>lk_push0 ?_
 show [r0 10,rMake _ _]=[r0 10,rMake _ _]
 rw [sft_ex,Nat.add_comm]
 rfl
theorem choice_lk (hA:Alike l l2 a N br):Lk l a N E bot Any (choiceR l) (choiceR l2):=by
 show Lk l a N E bot Any (fun p=>choiceR l p) (fun p=>choiceR l2 p)
 unfold choiceR
 refine lk_then (lk_key hA (ne_sR (by decide))) fun p _=>lk_push (rs:=fun p=>[r0 10,rLater sThen,r0 10,rLater sElse,r0 10,rMake (kindT 10) p.ex.length]) (rs2:=fun p=>[r0 10,rLater sThen,r0 10,rLater sElse,r0 10,rMake (kindT 10) p.ex.length]) fun p _=>?_
 rw [sft_ex,Nat.add_comm]
 rfl
theorem block_lk (hA:Alike l l2 a N br) {s:List UInt8} (hs:(s == sRight)=false) (k:Int):Lk l a N E bot Any (blockR l s k) (blockR l2 s k):=by
 show Lk l a N E bot Any (fun p=>blockR l s k p) (fun p=>blockR l2 s k p)
 unfold blockR
 refine lk_then (lk_key hA (ne_sR hs)) fun p _=>lk_push (rs:=fun p=>[rLater sCurl,r0 12,rMore sSemi 12,rLater sUncurl,rMake (kindT k) p.ex.length]) (rs2:=fun p=>[rLater sCurl,r0 12,rMore sSemi 12,rLater sUncurl,rMake (kindT k) p.ex.length]) fun p _=>?_
 rw [sft_ex,Nat.add_comm]
 rfl
theorem expr_lk (hA:Alike l l2 a N br):Lk l a N E bot Any (exprR l) (exprR l2):=by
 show Lk l a N E bot Any (fun p=>exprR l p) (fun p=>exprR l2 p)
 unfold exprR
 exact lk_ifK hA (ne_sR (by decide)) (lam_lk hA).any (lk_ifK hA (ne_sR (by decide)) (let_lk hA).any (lk_ifK hA (ne_sR (by decide)) (ways_lk hA).any (lk_ifK hA (ne_sR (by decide)) (choice_lk hA).any (lk_ifK hA (ne_sR (by decide)) (block_lk hA (by decide) 11).any (lk_ifK hA (ne_sR (by decide)) (block_lk hA (by decide) 12).any (lk_push0 rfl))))))
theorem line_lk (hA:Alike l l2 a N br):Lk l a N E bot Any (lineR l) (lineR l2):=by
 show Lk l a N E bot Any (fun p=>lineR l p) (fun p=>lineR l2 p)
 unfold lineR
 refine lk_if (b:=fun p=>isD l p.tk 2 && isK l (p.tk+1) sBack) (b2:=fun p=>isD l2 p.tk 2 && isK l2 (p.tk+1) sBack) (fun p _ _ h h2=>?_) (lk_take hA (by decide) (.inl (by decide)) fun p t _=>?_) (expr_lk hA)
 ·show (isD l2 (p.tk+a) 2 && isK l2 (p.tk+a+1) sBack)=_
  rw [hA.kind h (by decide) (by decide)]
  cases hd:isD l p.tk 2
  ·rfl
  ·have:=h2 hd
   rw [show p.tk+a+1=p.tk+1+a by omega,hA.key this (.inl (by decide))]
 ·refine lk_push (rs:=fun p=>[rLater sBack,r0 10,rMake (bindT 13 t.tx) p.ex.length]) (rs2:=fun p=>[rLater sBack,r0 10,rMake (bindT 13 t.tx) p.ex.length]) fun p _=>?_
  rw [sft_ex,Nat.add_comm]
  rfl
def Has (E:List Tr):Ps→Prop:=fun p=>1≤p.ex.length∨E=[]
theorem key_kind {l:List Tk} {i:Nat} {s:List UInt8} (h:isK l i s=true):isD l i 4=true:=by
 unfold isK at h
 unfold isD
 simp only [Bool.and_eq_true] at h
 exact h.1
theorem compared_lk (hA:Alike l l2 a N br):Lk l a N E bot (Has E) (comparedR l) (comparedR l2):=by
 show Lk l a N E bot (Has E) (fun p=>comparedR l p) (fun p=>comparedR l2 p)
 unfold comparedR operR
 refine lk_if (b:=fun p=>isK l p.tk [61,61] || isK l p.tk [60]) (b2:=fun p=>isK l2 p.tk [61,61] || isK l2 p.tk [60]) (fun p _ _ h _=>?_) (lk_takeP (Post:=Has E) (fun p hp=>hp.2) hA (by decide) (.inr fun p hp=>?_) fun p t hp=>?_) (lk_ret (g:=fun p=>p) (g2:=fun p=>p) (fun _=>rfl) fun _ _=>rfl)
 ·show (isK l2 (p.tk+a) [61,61] || isK l2 (p.tk+a) [60])=_
  rw [hA.key h (.inl (by decide)),hA.key h (.inl (by decide))]
 ·rcases Bool.or_eq_true _ _ ▸ hp.1 with h | h <;> exact key_kind h
 ·refine lk_push (rs:=fun p=>[r0 15,rMake (opT t.tx) (p.ex.length - 1)]) (rs2:=fun p=>[r0 15,rMake (opT t.tx) (p.ex.length - 1)]) fun p hp=>?_
  rw [sft_ex1 p hp]
  rfl
theorem added_lk (hA:Alike l l2 a N br):Lk l a N E bot (Has E) (addedR l) (addedR l2):=by
 show Lk l a N E bot (Has E) (fun p=>addedR l p) (fun p=>addedR l2 p)
 unfold addedR operR
 refine lk_if (b:=fun p=>isK l p.tk [43] || isK l p.tk [45]) (b2:=fun p=>isK l2 p.tk [43] || isK l2 p.tk [45]) (fun p _ _ h _=>?_) (lk_takeP (Post:=Has E) (fun p hp=>hp.2) hA (by decide) (.inr fun p hp=>?_) fun p t hp=>?_) (lk_ret (g:=fun p=>p) (g2:=fun p=>p) (fun _=>rfl) fun _ _=>rfl)
 ·show (isK l2 (p.tk+a) [43] || isK l2 (p.tk+a) [45])=_
  rw [hA.key h (.inl (by decide)),hA.key h (.inl (by decide))]
 ·rcases Bool.or_eq_true _ _ ▸ hp.1 with h | h <;> exact key_kind h
 ·refine lk_push (rs:=fun p=>[r0 17,rMake (opT t.tx) (p.ex.length - 1),r0 16]) (rs2:=fun p=>[r0 17,rMake (opT t.tx) (p.ex.length - 1),r0 16]) fun p hp=>?_
  rw [sft_ex1 p hp]
  rfl
theorem multiplied_lk (hA:Alike l l2 a N br):Lk l a N E bot (Has E) (multipliedR l) (multipliedR l2):=by
 show Lk l a N E bot (Has E) (fun p=>multipliedR l p) (fun p=>multipliedR l2 p)
 unfold multipliedR operR
 refine lk_if (b:=fun p=>isK l p.tk [42] || isK l p.tk [47]) (b2:=fun p=>isK l2 p.tk [42] || isK l2 p.tk [47]) (fun p _ _ h _=>?_) (lk_takeP (Post:=Has E) (fun p hp=>hp.2) hA (by decide) (.inr fun p hp=>?_) fun p t hp=>?_) (lk_ret (g:=fun p=>p) (g2:=fun p=>p) (fun _=>rfl) fun _ _=>rfl)
 ·show (isK l2 (p.tk+a) [42] || isK l2 (p.tk+a) [47])=_
  rw [hA.key h (.inl (by decide)),hA.key h (.inl (by decide))]
 ·rcases Bool.or_eq_true _ _ ▸ hp.1 with h | h <;> exact key_kind h
 ·refine lk_push (rs:=fun p=>[r0 19,rMake (opT t.tx) (p.ex.length - 1),r0 18]) (rs2:=fun p=>[r0 19,rMake (opT t.tx) (p.ex.length - 1),r0 18]) fun p hp=>?_
  rw [sft_ex1 p hp]
  rfl
theorem isAtm_lk (hA:Alike l l2 a N br) {i:Nat} (h:i≤N):isAtm l2 (i+a)=isAtm l i:=by
 unfold isAtm
 rw [hA.kind h (by decide) (by decide),hA.kind h (by decide) (by decide),hA.kind h (by decide) (by decide),hA.key h (.inl (by decide))]
theorem applied_lk (hA:Alike l l2 a N br):Lk l a N E bot (Has E) (appliedR l) (appliedR l2):=by
 show Lk l a N E bot (Has E) (fun p=>appliedR l p) (fun p=>appliedR l2 p)
 unfold appliedR
 refine lk_if (b:=fun p=>isAtm l p.tk) (b2:=fun p=>isAtm l2 p.tk) (fun p _ _ h _=>isAtm_lk hA h) (lk_push (rs:=fun p=>[r0 21,rMake (kindT 5) (p.ex.length - 1),r0 20]) (rs2:=fun p=>[r0 21,rMake (kindT 5) (p.ex.length - 1),r0 20]) fun p hp=>?_) (lk_ret (g:=fun p=>p) (g2:=fun p=>p) (fun _=>rfl) fun _ _=>rfl)
 rw [sft_ex1 p hp.2]
 rfl
theorem atom_lk (hA:Alike l l2 a N br):Lk l a N E bot Any (atomR l) (atomR l2):=by
 show Lk l a N E bot Any (fun p=>atomR l p) (fun p=>atomR l2 p)
 unfold atomR
 refine lk_ifD hA (by decide) (by decide) ?_ (lk_ifD hA (by decide) (by decide) ?_ (lk_ifD hA (by decide) (by decide) ?_ (lk_then (lk_key hA (ne_sR (by decide))) fun p _=>lk_push0 rfl)))
 ·exact lk_take hA (by decide) (.inl (by decide)) fun p t _=>lk_ret (g:=fun p=>{ p with ex:=p.ex ++ [⟨1,[],t.nu,[],[]⟩] }) (g2:=fun p=>{ p with ex:=p.ex ++ [⟨1,[],t.nu,[],[]⟩] }) (fun _=>rfl) fun _ _=>by simp [sft]
 ·exact lk_take hA (by decide) (.inl (by decide)) fun p t _=>lk_ret (g:=fun p=>{ p with ex:=p.ex ++ [⟨2,t.tx,0,[],[]⟩] }) (g2:=fun p=>{ p with ex:=p.ex ++ [⟨2,t.tx,0,[],[]⟩] }) (fun _=>rfl) fun _ _=>by simp [sft]
 ·exact lk_take hA (by decide) (.inl (by decide)) fun p t _=>lk_ret (g:=fun p=>{ p with ex:=p.ex ++ [⟨3,t.tx,0,[],[]⟩] }) (g2:=fun p=>{ p with ex:=p.ex ++ [⟨3,t.tx,0,[],[]⟩] }) (fun _=>rfl) fun _ _=>by simp [sft]
theorem more_lk (hA:Alike l l2 a N br) {s:List UInt8} (hs:s≠sRight∨br=false) (j:Nat) (hj:j≠24):Lk l a N E bot Any (moreR l s j) (moreR l2 s j):=by
 show Lk l a N E bot Any (fun p=>moreR l s j p) (fun p=>moreR l2 s j p)
 unfold moreR
 refine lk_ifK hA hs (lk_then (lk_key hA hs).any fun p _=>lk_push0 ?_) (lk_ret (g:=fun p=>p) (g2:=fun p=>p) (fun _=>rfl) fun _ _=>rfl)
 show [r0 j,rMore s j]=[shn E.length (r0 j),rMore s j]
 rw [shn_r0 _ _ hj]
theorem make_lk (t:Tr) (n:Nat):Lk l a N E bot Any (makeR t n) (makeR t (n+E.length)):=by
 show Lk l a N E bot Any (fun p=>makeR t n p) (fun p=>makeR t (n+E.length) p)
 unfold makeR
 refine lk_ret (g:=fun p=>{ p with ex:=p.ex.take n ++ [{ t with ks:=p.ex.drop n }] }) (g2:=fun p=>{ p with ex:=p.ex.take (n+E.length) ++ [{ t with ks:=p.ex.drop (n+E.length) }] }) (fun _=>rfl) fun p _=>?_
 unfold sft
 simp only [List.take_append,List.drop_append,Nat.add_sub_cancel,List.append_assoc]
 rw [List.take_of_length_le (Nat.le_add_left _ _),List.drop_eq_nil_of_le (Nat.le_add_left _ _),List.nil_append]
theorem makeSig_lk (s:List UInt8) (n:Nat):Lk l a N E bot Any (makeSigR s n) (makeSigR s n):=by
 show Lk l a N E bot Any (fun p=>makeSigR s n p) (fun p=>makeSigR s n p)
 unfold makeSigR
 exact lk_ret (g:=fun p=>{ p with sg:=p.sg.take n ++ [⟨s,p.sg.drop n⟩] }) (g2:=fun p=>{ p with sg:=p.sg.take n ++ [⟨s,p.sg.drop n⟩] }) (fun _=>rfl) fun p _=>rfl
theorem end_lk (h:∀ i,i≤N→(i+a<l2.length ↔ i<l.length)):Lk l a N E bot Any (endR l) (endR l2):=by
 intro p _ hp
 unfold endR
 by_cases hk:p.tk<l.length
 ·rw [if_pos hk]
  refine ⟨Nat.le_refl _,hp,fun hc=>?_⟩
  have hc1:p.tk≤N:=Cn.le (n:=p.tk) hc hp
  show (if p.tk+a<l2.length then _ else _)=_
  rw [if_pos ((h _ hc1).2 hk)]
  rfl
 ·rw [if_neg hk]
  refine ⟨Nat.le_refl _,hp,fun hc=>?_⟩
  have hc1:p.tk≤N:=Cn.le (n:=p.tk) hc hp
  show (if p.tk+a<l2.length then _ else _)=_
  rw [if_neg (fun hl=>hk ((h _ hc1).1 hl))]
  rfl
structure Ask (l l2:List Tk) (a N:Nat) (br:Bool) (E:List Tr) (r:Ru):Prop where
 end':r.k=0→∀ i,i≤N→(i+a<l2.length ↔ i<l.length)
 key:r.k=22∨r.k=23→r.s≠sRight∨br=false
 more:r.k=23→r.j≠24
 def':r.k=28→E=[]
theorem rule_lk (hA:Alike l l2 a N br) (r:Ru) (hr:Ask l l2 a N br E r):Lk l a N E bot (fun p=>r.k=14∨r.k=16∨r.k=18∨r.k=20→Has E p) (ruleR l r) (ruleR l2 (shn E.length r)):=by
 obtain ⟨k,s,j,t,n,ns⟩:=r
 obtain ⟨h0,h22,h23,h28⟩:=hr
 simp only at h0 h22 h23 h28
 intro p hpre hp
 simp only at hpre
 by_cases h24:k=24
 ·subst h24
  exact make_lk t n p trivial hp
 rw [shn_not h24]
 have W:∀ {F F2:Ps→Rs},ruleR l ⟨k,s,j,t,n,ns⟩ p=F p→ruleR l2 ⟨k,s,j,t,n,ns⟩ (sft a E bot p)=F2 (sft a E bot p)→∀ {Pre:Ps→Prop},Pre p→Lk l a N E bot Pre F F2→p.tk≤pos (ruleR l ⟨k,s,j,t,n,ns⟩ p)∧pos (ruleR l ⟨k,s,j,t,n,ns⟩ p)≤l.length∧(Cn l N (pos (ruleR l ⟨k,s,j,t,n,ns⟩ p))→ruleR l2 ⟨k,s,j,t,n,ns⟩ (sft a E bot p)=sftR a E bot (ruleR l ⟨k,s,j,t,n,ns⟩ p)):=by
  intro F F2 e1 e2 Pre hP h
  rw [e1,e2]
  exact h p hP hp
 by_cases hk:28<k
 ·have e:∀ (L:List Tk) (q:Ps),ruleR L ⟨k,s,j,t,n,ns⟩ q=.inl q.tk:=by
   intro L q
   unfold ruleR
   simp only
   split <;> first | omega | rfl
  rw [e,e]
  exact ⟨Nat.le_refl _,hp,fun _=>rfl⟩
 by_cases h13:k=13
 ·subst h13
  exact ⟨Nat.le_refl _,hp,fun _=>rfl⟩
 have hcases:k=0∨k=1∨k=2∨k=3∨k=4∨k=5∨k=6∨k=7∨k=8∨k=9∨k=10∨k=11∨k=12∨k=14∨k=15∨k=16∨k=17∨k=18∨k=19∨k=20∨k=21∨k=22∨k=23∨k=25∨k=26∨k=27∨k=28:=by omega
 rcases hcases with rfl | rfl | rfl | rfl | rfl | rfl | rfl | rfl | rfl | rfl | rfl | rfl | rfl | rfl | rfl | rfl | rfl | rfl | rfl | rfl | rfl | rfl | rfl | rfl | rfl | rfl | rfl
 ·exact W (F:=endR l) (F2:=endR l2) rfl rfl (Pre:=Any) trivial (end_lk (h0 rfl))
 ·exact W (F:=progR l) (F2:=progR l2) rfl rfl (Pre:=Any) trivial (prog_lk hA)
 ·exact W (F:=declsR l) (F2:=declsR l2) rfl rfl (Pre:=Any) trivial (decls_lk hA)
 ·exact W (F:=declR l) (F2:=declR l2) rfl rfl (Pre:=Any) trivial (decl_lk hA)
 ·exact W (F:=formR l) (F2:=formR l2) rfl rfl (Pre:=Any) trivial (form_lk hA)
 ·exact W (F:=sigR) (F2:=sigR) rfl rfl (Pre:=Any) trivial (lk_push0 rfl)
 ·exact W (F:=arrowR l) (F2:=arrowR l2) rfl rfl (Pre:=Any) trivial (arrow_lk hA)
 ·exact W (F:=sigAppR l) (F2:=sigAppR l2) rfl rfl (Pre:=Any) trivial (sigApp_lk hA)
 ·exact W (F:=sigAtomsR l) (F2:=sigAtomsR l2) rfl rfl (Pre:=Any) trivial (sigAtoms_lk hA)
 ·exact W (F:=sigAtomR l) (F2:=sigAtomR l2) rfl rfl (Pre:=Any) trivial (sigAtom_lk hA)
 ·exact W (F:=exprR l) (F2:=exprR l2) rfl rfl (Pre:=Any) trivial (expr_lk hA)
 ·exact W (F:=altR l) (F2:=altR l2) rfl rfl (Pre:=Any) trivial (alt_lk hA)
 ·exact W (F:=lineR l) (F2:=lineR l2) rfl rfl (Pre:=Any) trivial (line_lk hA)
 ·exact W (F:=comparedR l) (F2:=comparedR l2) rfl rfl (Pre:=Has E) (hpre (.inl rfl)) (compared_lk hA)
 ·exact W (F:=pushR [r0 17,r0 16]) (F2:=pushR [r0 17,r0 16]) rfl rfl (Pre:=Any) trivial (lk_push0 rfl)
 ·exact W (F:=addedR l) (F2:=addedR l2) rfl rfl (Pre:=Has E) (hpre (.inr (.inl rfl))) (added_lk hA)
 ·exact W (F:=pushR [r0 19,r0 18]) (F2:=pushR [r0 19,r0 18]) rfl rfl (Pre:=Any) trivial (lk_push0 rfl)
 ·exact W (F:=multipliedR l) (F2:=multipliedR l2) rfl rfl (Pre:=Has E) (hpre (.inr (.inr (.inl rfl)))) (multiplied_lk hA)
 ·exact W (F:=pushR [r0 21,r0 20]) (F2:=pushR [r0 21,r0 20]) rfl rfl (Pre:=Any) trivial (lk_push0 rfl)
 ·exact W (F:=appliedR l) (F2:=appliedR l2) rfl rfl (Pre:=Has E) (hpre (.inr (.inr (.inr rfl)))) (applied_lk hA)
 ·exact W (F:=atomR l) (F2:=atomR l2) rfl rfl (Pre:=Any) trivial (atom_lk hA)
 ·exact W (F:=keyR l s) (F2:=keyR l2 s) rfl rfl (Pre:=Any) trivial (lk_key hA (h22 (.inl rfl)))
 ·exact W (F:=moreR l s j) (F2:=moreR l2 s j) rfl rfl (Pre:=Any) trivial (more_lk hA (h22 (.inr rfl)) j (h23 rfl))
 ·exact W (F:=makeSigR s n) (F2:=makeSigR s n) rfl rfl (Pre:=Any) trivial (makeSig_lk s n)
 ·exact W (F:=fun p=>.inr { p with ds:=p.ds ++ [⟨s,ns,p.fm⟩],fm:=[] }) (F2:=fun p=>.inr { p with ds:=p.ds ++ [⟨s,ns,p.fm⟩],fm:=[] }) rfl rfl (Pre:=Any) trivial (lk_ret (g:=fun p=>{ p with ds:=p.ds ++ [⟨s,ns,p.fm⟩],fm:=[] }) (g2:=fun p=>{ p with ds:=p.ds ++ [⟨s,ns,p.fm⟩],fm:=[] }) (fun _=>rfl) fun _ _=>rfl)
 ·exact W (F:=fun p=>.inr { p with fm:=p.fm ++ [⟨s,p.sg⟩],sg:=[] }) (F2:=fun p=>.inr { p with fm:=p.fm ++ [⟨s,p.sg⟩],sg:=[] }) rfl rfl (Pre:=Any) trivial (lk_ret (g:=fun p=>{ p with fm:=p.fm ++ [⟨s,p.sg⟩],sg:=[] }) (g2:=fun p=>{ p with fm:=p.fm ++ [⟨s,p.sg⟩],sg:=[] }) (fun _=>rfl) fun _ _=>rfl)
 ·have e:=h28 rfl
  exact W (F:=fun p=>.inr { p with fs:=p.fs ++ [⟨s,p.ex.headD t0⟩],ex:=[] }) (F2:=fun p=>.inr { p with fs:=p.fs ++ [⟨s,p.ex.headD t0⟩],ex:=[] }) rfl rfl (Pre:=Any) trivial (lk_ret (g:=fun p=>{ p with fs:=p.fs ++ [⟨s,p.ex.headD t0⟩],ex:=[] }) (g2:=fun p=>{ p with fs:=p.fs ++ [⟨s,p.ex.headD t0⟩],ex:=[] }) (fun _=>rfl) fun _ _=>by subst e;rfl)
end
theorem Alike.refl (l:List Tk) (N:Nat) (br:Bool):Alike l l 0 N br:=fun i _=>.inl rfl
theorem good_ask {l l2:List Tk} {a N nd:Nat} {r:Ru} {q:List Ru} {m s:Nat} (hg:Good nd (r :: q) m s) (hlen:∀ i,i≤N→(i+a<l2.length ↔ i<l.length)):Ask l l2 a N false [] r:=by
 refine ⟨fun _=>hlen,fun _=>.inr rfl,fun h=>?_,fun _=>rfl⟩
 obtain ⟨k,sx,j,t,n,ns⟩:=r
 simp only at h
 subst h
 have:(j=3∧Good nd q 0 0)∨(j=4∧Good nd q m 0)∨((j=11∨j=12)∧Good nd q m s):=hg
 show j≠24
 omega
theorem good_has {nd:Nat} {r:Ru} {q:List Ru} {m s:Nat} (hg:Good nd (r :: q) m s) (h:r.k=14∨r.k=16∨r.k=18∨r.k=20):1≤m:=by
 obtain ⟨k,sx,j,t,n,ns⟩:=r
 simp only at h
 rcases h with rfl | rfl | rfl | rfl
 all_goals exact hg.1
theorem run_pos {l:List Tk} {nd:Nat} (p:Ps):GoodP nd p→p.tk≤l.length→p.tk≤pos (run l p)∧pos (run l p)≤l.length:=by
 refine run_ind (l:=l) (M:=fun p=>GoodP nd p→p.tk≤l.length→p.tk≤pos (run l p)∧pos (run l p)≤l.length) (fun p ih hg hp=>?_) p
 cases hru:p.ru with
 | nil=>rw [run_nil hru];exact ⟨Nat.le_refl _,hp⟩
 | cons r q=>
  have hgd:Good nd (r :: q) p.ex.length p.sg.length:=by unfold GoodP at hg;rw [hru] at hg;exact hg
  obtain ⟨h1,h2,-⟩:=rule_lk (E:=[]) (bot:=[]) (Alike.refl l 0 false) r (good_ask hgd fun _ _=>Iff.rfl) { p with ru:=q } (fun _=>.inr rfl) hp
  rw [run_cons hru]
  cases hx:ruleR l r { p with ru:=q } with
  | inl n=>rw [hx] at h1 h2;exact ⟨h1,h2⟩
  | inr p2=>
   rw [hx] at h1 h2
   obtain ⟨h3,h4⟩:=ih r q p2 hru hx (rule_good (p:={ p with ru:=q }) hgd hx).1 h2
   exact ⟨Nat.le_trans h1 h3,h4⟩
theorem run_ag {l l2:List Tk} {a N nd:Nat} (hA:Alike l l2 a N false) (hlen:∀ i,i≤N→(i+a<l2.length ↔ i<l.length)) (p:Ps):GoodP nd p→p.tk≤l.length→Cn l N (pos (run l p))→run l2 (sft a [] [] p)=sftR a [] [] (run l p):=by
 refine run_ind (l:=l) (M:=fun p=>GoodP nd p→p.tk≤l.length→Cn l N (pos (run l p))→run l2 (sft a [] [] p)=sftR a [] [] (run l p)) (fun p ih hg hp hc=>?_) p
 cases hru:p.ru with
 | nil=>
  rw [run_nil hru,run_nil (by unfold sft;simp [hru])]
  rfl
 | cons r q=>
  have hgd:Good nd (r :: q) p.ex.length p.sg.length:=by unfold GoodP at hg;rw [hru] at hg;exact hg
  obtain ⟨h1,h2,h3⟩:=rule_lk (E:=[]) (bot:=[]) hA r (good_ask hgd hlen) { p with ru:=q } (fun _=>.inr rfl) hp
  have hs:(sft a [] [] p).ru=shn 0 r :: (q.map (shn 0) ++ []):=by unfold sft;rw [hru];rfl
  rw [run_cons hru] at hc ⊢
  rw [run_cons hs]
  have e:({ sft a [] [] p with ru:=q.map (shn 0) ++ [] }:Ps)=sft a [] [] { p with ru:=q }:=rfl
  rw [e]
  cases hx:ruleR l r { p with ru:=q } with
  | inl n=>
   rw [hx] at h1 h2 h3 hc
   rw [show ruleR l2 (shn 0 r) (sft a [] [] { p with ru:=q })=_ from h3 hc]
   rfl
  | inr p2=>
   rw [hx] at h1 h2 h3 hc
   have hgp:=(rule_good (p:={ p with ru:=q }) hgd hx).1
   have hps:=run_pos (l:=l) p2 hgp h2
   rw [show ruleR l2 (shn 0 r) (sft a [] [] { p with ru:=q })=_ from h3 (Cn.mono (n:=pos (run l p2)) hc hps.1)]
   exact ih r q p2 hru hx hgp h2 hc
theorem run_bot {l:List Tk} {nd:Nat} (bot:List Ru) (p:Ps):GoodP nd p→p.tk≤l.length→run l (sft 0 [] bot p)=(match run l p with | .inl n=>.inl n | .inr q=>run l (sft 0 [] bot q)):=by
 refine run_ind (l:=l) (M:=fun p=>GoodP nd p→p.tk≤l.length→run l (sft 0 [] bot p)=(match run l p with | .inl n=>.inl n | .inr q=>run l (sft 0 [] bot q))) (fun p ih hg hp=>?_) p
 cases hru:p.ru with
 | nil=>rw [run_nil hru]
 | cons r q=>
  have hgd:Good nd (r :: q) p.ex.length p.sg.length:=by unfold GoodP at hg;rw [hru] at hg;exact hg
  obtain ⟨h1,h2,h3⟩:=rule_lk (E:=[]) (bot:=bot) (Alike.refl l l.length false) r (good_ask hgd fun _ _=>Iff.rfl) { p with ru:=q } (fun _=>.inr rfl) hp
  have hs:(sft 0 [] bot p).ru=shn 0 r :: (q.map (shn 0) ++ bot):=by unfold sft;rw [hru];rfl
  rw [run_cons hru,run_cons hs]
  have e:({ sft 0 [] bot p with ru:=q.map (shn 0) ++ bot }:Ps)=sft 0 [] bot { p with ru:=q }:=rfl
  rw [e]
  rw [show ruleR l (shn 0 r) (sft 0 [] bot { p with ru:=q })=_ from h3 (.inr (.inr (Nat.le_refl _)))]
  cases hx:ruleR l r { p with ru:=q } with
  | inl n=>rfl
  | inr p2=>
   rw [hx] at h2
   exact ih r q p2 hru hx (rule_good (p:={ p with ru:=q }) hgd hx).1 h2
def ps0 (rs:List Ru):Ps:=⟨0,rs,[],[],[],[],[]⟩
def progRun (l:List Tk):Rs:=run l (ps0 [r0 1,r0 0])
def exprRun (l:List Tk):Rs:=run l (ps0 [r0 10,r0 0])
theorem good_prog:GoodP 0 (ps0 [r0 1,r0 0]):=Nat.le_refl _
theorem good_expr:GoodP 1 (ps0 [r0 10,r0 0]):=Nat.le_refl _
theorem prog_start {l:List Tk} (h:isK l 0 sCurl=true):progRun l=run l ⟨1,[r0 2,rLater sUncurl,r0 0],[],[],[],[],[]⟩:=by
 refine run_go (r:=r0 1) (q:=[r0 0]) rfl ?_
 show progR l ⟨0,[r0 0],[],[],[],[],[]⟩=_
 unfold progR keyR
 rw [show isK l (⟨0,[r0 0],[],[],[],[],[]⟩:Ps).tk sCurl=true from h]
 rfl
theorem prog_not {l:List Tk} (h:isK l 0 sCurl=false):progRun l=.inl 0:=by
 refine run_st (r:=r0 1) (q:=[r0 0]) rfl ?_
 show progR l ⟨0,[r0 0],[],[],[],[],[]⟩=_
 unfold progR keyR
 rw [show isK l (⟨0,[r0 0],[],[],[],[],[]⟩:Ps).tk sCurl=false from h]
 rfl
theorem prog_inv {l:List Tk} {q:Ps} (h:progRun l=.inr q):isK l 0 sCurl=true∧∃ q1:Ps,run l ⟨1,[r0 2],[],[],[],[],[]⟩=.inr q1∧q1.tk+1=l.length∧isK l q1.tk sUncurl=true∧q={ q1 with tk:=l.length,ru:=[] }:=by
 cases hk:isK l 0 sCurl
 ·rw [prog_not hk] at h;cases h
 ·refine ⟨rfl,?_⟩
  have hl:=isK_lt hk
  rw [prog_start hk] at h
  have hb:=run_bot (l:=l) (nd:=0) [rLater sUncurl,r0 0] ⟨1,[r0 2],[],[],[],[],[]⟩ (Nat.le_refl _) hl
  have e:sft 0 [] [rLater sUncurl,r0 0] ⟨1,[r0 2],[],[],[],[],[]⟩=⟨1,[r0 2,rLater sUncurl,r0 0],[],[],[],[],[]⟩:=rfl
  rw [e,h] at hb
  have hps:=run_pos (l:=l) (nd:=0) ⟨1,[r0 2],[],[],[],[],[]⟩ (Nat.le_refl _) hl
  cases hx:run l ⟨1,[r0 2],[],[],[],[],[]⟩ with
  | inl n=>rw [hx] at hb;cases hb
  | inr q1=>
   rw [hx] at hb hps
   have hend:=run_ended l ⟨1,[r0 2],[],[],[],[],[]⟩
   rw [hx] at hend
   have hru:q1.ru=[]:=hend
   refine ⟨q1,rfl,?_⟩
   have hs:(sft 0 [] [rLater sUncurl,r0 0] q1).ru=[rLater sUncurl,r0 0]:=by unfold sft;simp [hru]
   simp only at hb
   rw [run_cons hs] at hb
   cases hk2:isK l q1.tk sUncurl
   ·have e2:ruleR l (rLater sUncurl) { sft 0 [] [rLater sUncurl,r0 0] q1 with ru:=[r0 0] }=.inl q1.tk:=by
     show keyR l sUncurl _=_
     unfold keyR
     rw [show isK l ({ sft 0 [] [rLater sUncurl,r0 0] q1 with ru:=[r0 0] }:Ps).tk sUncurl=false from hk2]
     rfl
    rw [e2] at hb
    cases hb
   ·have e2:ruleR l (rLater sUncurl) { sft 0 [] [rLater sUncurl,r0 0] q1 with ru:=[r0 0] }=.inr { q1 with tk:=q1.tk+1,ru:=[r0 0] }:=by
     show keyR l sUncurl _=_
     unfold keyR
     rw [show isK l ({ sft 0 [] [rLater sUncurl,r0 0] q1 with ru:=[r0 0] }:Ps).tk sUncurl=true from hk2]
     rfl
    rw [e2] at hb
    simp only at hb
    rw [run_cons (r:=r0 0) (q:=[]) rfl] at hb
    have e3:ruleR l (r0 0) ({ q1 with tk:=q1.tk+1,ru:=[] }:Ps)=(if q1.tk+1<l.length then .inl (q1.tk+1) else .inr { q1 with tk:=q1.tk+1,ru:=[] }):=rfl
    rw [show ruleR l (r0 0) ({ ({ q1 with tk:=q1.tk+1,ru:=[r0 0] }:Ps) with ru:=[] }:Ps)=_ from e3] at hb
    have hlt:=isK_lt hk2
    by_cases hq:q1.tk+1<l.length
    ·rw [if_pos hq] at hb;cases hb
    ·rw [if_neg hq] at hb
     simp only at hb
     rw [run_nil rfl] at hb
     have e4:q1.tk+1=l.length:=by omega
     refine ⟨e4,rfl,?_⟩
     rw [← e4]
     exact Sum.inr.inj hb
theorem prog_ext {l rest:List Tk} {q:Ps} (hr:rest≠[]) (h:progRun l=.inr q):progRun (l ++ rest)=.inl l.length:=by
 obtain ⟨hk,q1,hx,hq1,hk2,-⟩:=prog_inv h
 have hl:=isK_lt hk
 have hat:∀ i,i<l.length→tkAt (l ++ rest) i=tkAt l i:=fun i hi=>by
  unfold tkAt
  simp only [List.getD]
  rw [List.getElem?_append_left hi]
 have hK:∀ i s,i<l.length→isK (l ++ rest) i s=isK l i s:=fun i s hi=>by unfold isK;rw [hat i hi]
 have hA:Alike l (l ++ rest) 0 q1.tk false:=fun i hi=>.inl (hat i (by omega))
 have hD:isD l q1.tk 2=false:=by
  have:=key_kind hk2
  unfold isD at this ⊢
  have:=of_decide_eq_true this
  rw [this]
  rfl
 have hlr:0<rest.length:=List.length_pos_iff.2 hr
 have hrun:=run_ag (nd:=0) hA (fun i hi=>by rw [List.length_append];omega) ⟨1,[r0 2],[],[],[],[],[]⟩ (Nat.le_refl _) hl (by rw [hx];exact .inl ⟨Nat.le_refl _,hD⟩)
 rw [sft_id,hx] at hrun
 have hrun':run (l ++ rest) ⟨1,[r0 2],[],[],[],[],[]⟩=.inr q1:=by
  rw [hrun]
  show Sum.inr (sft 0 [] [] q1)=_
  rw [sft_id]
 have hend:=run_ended l ⟨1,[r0 2],[],[],[],[],[]⟩
 rw [hx] at hend
 have hru:q1.ru=[]:=hend
 rw [prog_start (by rw [hK 0 _ hl];exact hk)]
 have hb:=run_bot (l:=l ++ rest) (nd:=0) [rLater sUncurl,r0 0] ⟨1,[r0 2],[],[],[],[],[]⟩ (Nat.le_refl _) (by rw [List.length_append];show 1≤_;omega)
 rw [hrun'] at hb
 have e:sft 0 [] [rLater sUncurl,r0 0] ⟨1,[r0 2],[],[],[],[],[]⟩=⟨1,[r0 2,rLater sUncurl,r0 0],[],[],[],[],[]⟩:=rfl
 rw [e] at hb
 rw [hb]
 simp only
 have hs:(sft 0 [] [rLater sUncurl,r0 0] q1).ru=[rLater sUncurl,r0 0]:=by unfold sft;simp [hru]
 have hlt:=isK_lt hk2
 refine (run_go (p2:={ q1 with tk:=q1.tk+1,ru:=[r0 0] }) hs ?_).trans (run_st (r:=r0 0) (q:=[]) rfl ?_)
 ·show keyR (l ++ rest) sUncurl _=_
  unfold keyR
  rw [show isK (l ++ rest) ({ sft 0 [] [rLater sUncurl,r0 0] q1 with ru:=[r0 0] }:Ps).tk sUncurl=true from (hK _ _ hlt).trans hk2]
  rfl
 ·show endR (l ++ rest) _=_
  unfold endR
  rw [if_pos (by rw [List.length_append];show q1.tk+1<_;omega)]
  show Sum.inl (q1.tk+1)=_
  rw [hq1]
theorem prog_cut {l:List Tk} {q:Ps} {c:Nat} (hc:c<l.length) (h:progRun l=.inr q):∃ n,progRun (l.take c)=.inl n∧c≤n+1:=by
 cases hx:progRun (l.take c) with
 | inr q'=>
  have:=prog_ext (rest:=l.drop c) (fun e=>by have:=congrArg List.length e;simp at this;omega) hx
  rw [List.take_append_drop,h] at this
  cases this
 | inl n=>
  refine ⟨n,rfl,?_⟩
  apply Classical.byContradiction
  intro hn
  have hlen:(l.take c).length=c:=by rw [List.length_take];omega
  have hA:Alike (l.take c) l 0 (c - 1) false:=fun i hi=>.inl (by
   unfold tkAt
   simp only [List.getD]
   rw [List.getElem?_take,if_pos (by omega)]
   rfl)
  have hrun:=run_ag (nd:=0) hA (fun i hi=>by rw [hlen];omega) (ps0 [r0 1,r0 0]) good_prog (Nat.zero_le _) (by
   show Cn _ _ (pos (progRun (l.take c)))
   rw [hx]
   exact .inr (.inl (by show n+1≤c - 1;omega)))
  rw [sft_id] at hrun
  have h1:progRun l=sftR 0 [] [] (progRun (l.take c)):=hrun
  rw [hx,h] at h1
  cases h1
end Go.Proofs.YtcnnlecjdkfdjaaGreatDoor
