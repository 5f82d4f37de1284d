/-
  A policy with which nothing is wrong: its names stand for what stands ahead; its truths are 0 or 1.
-/
import Derived.Test.YtldfkcpbjooemaaGreatDoorG36
set_option linter.unusedVariables false
set_option linter.unusedSimpArgs false
namespace Go.Proofs.YtldfkcpbjooemaaGreatDoor
def stepR (b:Nat) (p:PRule):Nat:=if p.hs then p.score.behind else if p.hw then p.when.behind else b
def endR:Nat→List PRule→Nat
 | b,[]=>b
 | b,p :: r=>endR (stepR b p) r
theorem end_rules:∀ (R:List RSt),(∀ s∈R,s.wf)→isRuleL' R→∀ b,endR b (rulesS b R)=b+numS R
 | [],_,_,b=>rfl
 | s :: r,hw,hl,b=>by
  rcases s.cases with ⟨kw,name,eq,e,semi,rfl⟩ | ⟨wh,act,sc,semi,rfl⟩
  ·have:=hl _ List.mem_cons_self;cases this
  ·have ih:=end_rules r (fun x hx=>hw x (by simp[hx])) (fun x hx=>hl x (by simp[hx])) (b+(RSt.rule wh act sc semi).num)
   rw[rulesS,RSt.rules_rule,List.singleton_append,endR,numS]
   have e:stepR b ⟨wh.isSome,optE b (wh.map Prod.snd),sc.isSome,optE (b+optNum (wh.map Prod.snd)) sc⟩=b+(RSt.rule wh act sc semi).num:=by
    rw[RSt.num_rule]
    cases wh with
    | none=>cases sc <;> simp[stepR,optNum,optE,layE]
    | some p=>cases sc <;> simp[stepR,optNum,optE,layE,Nat.add_assoc]
   rw[e,ih]
   omega
theorem endL_ge:∀ (ls:List PLet) (b:Nat),ConsL b ls→b≤endL b ls
 | [],b,_=>Nat.le_refl _
 | p :: r,b,h=>by
  have:=endL_ge r p.val.behind h.2.2
  rw[endL]
  have:=h.2.1
  omega
theorem consL_le:∀ (ls:List PLet) (b:Nat),ConsL b ls→∀ (k:Nat) (p:PLet),ls[k]?=some p→b≤p.val.fr∧p.val.fr < p.val.behind∧p.val.behind≤endL b ls
 | [],b,_,k,p,h=>by simp at h
 | q :: r,b,h,0,p,hp=>by
  have e:q=p:=by simpa using hp
  subst e
  have:=endL_ge r q.val.behind h.2.2
  rw[endL]
  exact ⟨by rw[h.1];exact Nat.le_refl _,by rw[h.1];exact h.2.1,this⟩
 | q :: r,b,h,k+1,p,hp=>by
  have ih:=consL_le r q.val.behind h.2.2 k p (by simpa using hp)
  have:=h.2.1
  rw[endL]
  exact ⟨by omega,ih.2.1,ih.2.2⟩
theorem consL_ord:∀ (ls:List PLet) (b:Nat),ConsL b ls→∀ (k k':Nat) (p p':PLet),k' < k→ls[k]?=some p→ls[k']?=some p'→p'.val.behind≤p.val.fr
 | [],b,_,k,k',p,p',_,h,_=>by simp at h
 | q :: r,b,h,0,k',p,p',hk,_,_=>by omega
 | q :: r,b,h,k+1,0,p,p',_,hp,hp'=>by
  have e:q=p':=by simpa using hp'
  subst e
  exact (consL_le r q.val.behind h.2.2 k p (by simpa using hp)).1
 | q :: r,b,h,k+1,k'+1,p,p',hk,hp,hp'=>consL_ord r q.val.behind h.2.2 k k' p p' (by omega) (by simpa using hp) (by simpa using hp')
theorem coverL:∀ (ls:List PLet) (b:Nat),ConsL b ls→∀ j:Nat,b≤j→j < endL b ls→∃ (k:Nat) (p:PLet),ls[k]?=some p∧p.val.fr≤j∧j < p.val.behind
 | [],b,_,j,h1,h2=>by rw[endL] at h2;omega
 | q :: r,b,h,j,h1,h2=>by
  by_cases hj:j < q.val.behind
  ·exact ⟨0,q,rfl,by rw[h.1];exact h1,hj⟩
  ·rw[endL] at h2
   obtain ⟨k,p,hp,a1,a2⟩:=coverL r q.val.behind h.2.2 j (by omega) h2
   exact ⟨k+1,p,by simpa using hp,a1,a2⟩
theorem coverR:∀ (rs:List PRule) (b:Nat),ConsR b rs→∀ j:Nat,b≤j→j < endR b rs→∃ p∈rs,(p.when.fr≤j∧j < p.when.behind)∨(p.score.fr≤j∧j < p.score.behind)
 | [],b,_,j,h1,h2=>by rw[endR] at h2;omega
 | p :: r,b,h,j,h1,h2=>by
  obtain ⟨hw,hs,hc⟩:=h
  rw[endR] at h2
  by_cases hj:stepR b p≤j
  ·obtain ⟨q,hq,hor⟩:=coverR r (stepR b p) hc j hj h2
   exact ⟨q,List.mem_cons_of_mem _ hq,hor⟩
  ·refine ⟨p,List.mem_cons_self, ?_⟩
   unfold stepR at hj
   cases hps:p.hs with
   | true =>
    rw[hps] at hj
    simp only[if_true] at hj
    obtain ⟨e1,e2⟩:=hs hps
    cases hpw:p.hw with
    | true =>
     rw[hpw,if_pos rfl] at e1
     obtain ⟨e3,e4⟩:=hw hpw
     by_cases hjw:j < p.when.behind
     ·exact .inl ⟨by omega,hjw⟩
     ·exact .inr ⟨by omega,by omega⟩
    | false =>
     rw[hpw] at e1
     simp only[Bool.false_eq_true,if_false] at e1
     exact .inr ⟨by omega,by omega⟩
   | false =>
    rw[hps] at hj
    simp only[Bool.false_eq_true,if_false] at hj
    cases hpw:p.hw with
    | true =>
     rw[hpw] at hj
     simp only[if_true] at hj
     obtain ⟨e3,e4⟩:=hw hpw
     exact .inl ⟨by omega,by omega⟩
    | false =>
     rw[hpw] at hj
     simp only[Bool.false_eq_true,if_false] at hj
     omega
theorem seg_mem {N:List PNode} {e:PExp} {j:Nat} {n:PNode} (hn:N[j]?=some n) (h1:e.fr≤j) (h2:j < e.behind):n∈segE N e:=by
 unfold segE
 apply List.mem_of_getElem? (i:=j - e.fr)
 rw[List.getElem?_take,if_pos (by omega),List.getElem?_drop,show e.fr+(j - e.fr)=j by omega]
 exact hn
theorem namesE_all {ls:List PLet} {a:Nat}:∀ {l:List PNode},namesE ls a l=none→∀ n∈l,nameT n.tok.text=true→letIx ls n.tok.text < a
 | [],_,n,hn,_=>by cases hn
 | m :: r,h,n,hn,ht=>by
  rw[namesE] at h
  split at h
  ·cases h
  ·rename_i hc
   rcases List.mem_cons.1 hn with rfl | hn
   ·rw[ht] at hc
    simpa using hc
   ·exact namesE_all h n hn ht
theorem namesL_all {N:List PNode} {ls:List PLet}:∀ {r:List PLet} {i:Nat},pNamesL N ls i r=none→∀ (k:Nat) (p:PLet),r[k]?=some p→∀ n∈segE N p.val,nameT n.tok.text=true→letIx ls n.tok.text < i+k
 | [],i,_,k,p,hp,_,_,_=>by simp at hp
 | q :: r,i,h,k,p,hp,n,hn,ht=>by
  rw[pNamesL] at h
  split at h
  ·cases h
  ·split at h
   ·cases h
   ·rename_i he
    cases k with
    | zero =>
     have e:q=p:=by simpa using hp
     subst e
     exact namesE_all he n hn ht
    | succ k =>
     have:=namesL_all h k p (by simpa using hp) n hn ht
     omega
theorem namesR_all {N:List PNode} {ls:List PLet}:∀ {r:List PRule},pNamesR N ls r=none→∀ p∈r,∀ n:PNode,n∈segE N p.when∨n∈segE N p.score→nameT n.tok.text=true→letIx ls n.tok.text < ls.length
 | [],_,p,hp,_,_,_=>by cases hp
 | q :: r,h,p,hp,n,hn,ht=>by
  rw[pNamesR] at h
  split at h
  ·cases h
  ·rename_i h1
   split at h
   ·cases h
   ·rename_i h2
    rcases List.mem_cons.1 hp with rfl | hp
    ·rcases hn with hn | hn
     ·exact namesE_all h1 n hn ht
     ·exact namesE_all h2 n hn ht
    ·exact namesR_all h p hp n hn ht
theorem names_ahead {s:Txt} {L R:List RSt} (h:PolicyOf s L R) (hN:(nodesS 0 (L++R)).length≤401) (hn:pNames (nodesS 0 (L++R)) (letsS 0 (L++R)) (rulesS 0 (L++R))=none):NamesAhead (letsS 0 (L++R)) (nodesS 0 (L++R)):=by
 have hf:=fits_of h hN
 have hlen:=nodesS_len (L++R) h.wf 0
 have h1:letsS 0 (L++R)=letsS 0 L:=by rw[letsS_append,lets_none R h.rules,List.append_nil]
 have h2:rulesS 0 (L++R)=rulesS (numS L) R:=by rw[rulesS_append,rules_none L h.lets,List.nil_append,Nat.zero_add]
 have hc:=cons_lets L (fun x hx=>h.wf x (by simp[hx])) h.lets 0
 have he:=end_rules R (fun x hx=>h.wf x (by simp[hx])) h.rules (numS L)
 rw[← h1,Nat.zero_add] at hc
 rw[← h2] at he
 have hlt:=hf.lets hN
 unfold pNames at hn
 split at hn
 ·cases hn
 rename_i hnl
 intro j n hj h0 hk
 have hnm:nameT n.tok.text=true:=(kindOf n.tok.text (hf.x.may n (List.mem_of_getElem? hj))).kname.1 hk
 have hjl:j < (nodesS 0 (L++R)).length:=(List.getElem?_eq_some_iff.1 hj).1
 have key:∀ a,letIx (letsS 0 (L++R)) n.tok.text < a→a≤(letsS 0 (L++R)).length→(∀ p',(letsS 0 (L++R))[letIx (letsS 0 (L++R)) n.tok.text]?=some p'→p'.val.behind≤j)→0≤meantI (letsS 0 (L++R)) n.tok.text∧meantI (letsS 0 (L++R)) n.tok.text < (j:Int):=by
  intro a ha hal hp
  obtain ⟨p',hp'⟩:∃ p',(letsS 0 (L++R))[letIx (letsS 0 (L++R)) n.tok.text]?=some p':=⟨_,List.getElem?_eq_getElem (by omega)⟩
  have hb:=hp p' hp'
  have hb1:=(hlt p' (List.mem_of_getElem? hp')).1
  unfold meantI
  rw[hp']
  simp only
  omega
 by_cases hjL:j < numS L
 ·obtain ⟨k,p,hp,a1,a2⟩:=coverL _ 0 hf.l j (Nat.zero_le _) (by rw[hc.2];exact hjL)
  have hix:=namesL_all hnl k p hp n (seg_mem hj a1 a2) hnm
  rw[Nat.zero_add] at hix
  have hkl:k < (letsS 0 (L++R)).length:=(List.getElem?_eq_some_iff.1 hp).1
  refine key k hix (by omega) fun p' hp'=>?_
  have:=consL_ord _ 0 hf.l k _ p p' hix hp hp'
  omega
 ·have hrc:ConsR (numS L) (rulesS 0 (L++R)):=by have:=hf.r;rw[hc.2] at this;exact this
  obtain ⟨p,hp,hor⟩:=coverR _ (numS L) hrc j (by omega) (by rw[he];rw[hlen,numS_append] at hjl;exact hjl)
  have hix:=namesR_all hn p hp n (by
   rcases hor with ⟨a1,a2⟩ | ⟨a1,a2⟩
   ·exact .inl (seg_mem hj a1 a2)
   ·exact .inr (seg_mem hj a1 a2)) hnm
  refine key _ hix (Nat.le_refl _) fun p' hp'=>?_
  have:=(consL_le _ 0 hf.l _ p' hp').2.2
  rw[hc.2] at this
  omega
end Go.Proofs.YtldfkcpbjooemaaGreatDoor
namespace Go.Proofs.YtldfkcpbjooemaaGreatDoor
theorem lookGo_none {ls:List PLet} {l:List PNode} {ks:List Nat} {f:Option Nat} (h:(lookGo ls ks f l).2=none):f=none:=by
 cases f with
 | none=>rfl
 | some q=>rw[(lookGo_some ls l ks q).1] at h;cases h
theorem lookGo_length (ls:List PLet):∀ (l:List PNode) (ks:List Nat) (f:Option Nat),(lookGo ls ks f l).1.length=ks.length+l.length
 | [],ks,f=>by simp[lookGo]
 | n :: r,ks,f=>by rw[lookGo,lookGo_length ls r];simp;omega
theorem lookGo_get (ls:List PLet):∀ (l:List PNode) (ks:List Nat) (f:Option Nat) (i:Nat),i < ks.length→(lookGo ls ks f l).1.getD i 0=ks.getD i 0
 | [],ks,f,i,_=>rfl
 | n :: r,ks,f,i,h=>by
  rw[lookGo,lookGo_get ls r _ _ i (by simp;omega)]
  simp only[List.getD_eq_getElem?_getD]
  rw[List.getElem?_append_left h]
theorem failK_none {f:Option Nat} {b:Bool} {p:Nat} (h:failK f b p=none):f=none∧b=false:=by
 unfold failK at h
 cases f with
 | some q=>cases h
 | none =>
  cases b with
  | true=>cases h
  | false=>exact ⟨rfl,rfl⟩
theorem seg_take {N:List PNode} {e:PExp} {b:Nat} (h1:e.fr=b) (h2:b≤e.behind):N.take e.behind=N.take b++segE N e:=by
 unfold segE
 rw[h1]
 conv=>lhs;rw[show e.behind=b+(e.behind - b) by omega,List.take_add]
theorem kindsL_eq {ls:List PLet} {N:List PNode}:∀ (r:List PLet) (b:Nat),ConsL b r→kindsL ls N (lookGo ls [] none (N.take b)) r=lookGo ls [] none (N.take (endL b r))
 | [],b,_=>rfl
 | p :: r,b,h=>by
  rw[kindsL,endL,← lookGo_append,← seg_take h.1 (by have:=h.2.1;omega)]
  exact kindsL_eq r p.val.behind h.2.2
theorem lookFor_eq {ls:List PLet} {N:List PNode} {want:Nat} {e:PExp} {b:Nat} (h1:e.fr=b) (h2:b≤e.behind) (h:(lookFor ls N want e (lookGo ls [] none (N.take b))).2=none):lookFor ls N want e (lookGo ls [] none (N.take b))=lookGo ls [] none (N.take e.behind):=by
 unfold lookFor at h ⊢
 rw[← lookGo_append,← seg_take h1 h2] at h ⊢
 obtain ⟨a1,a2⟩:=failK_none h
 refine Prod.ext rfl ?_
 rw[a1]
 simp only at h ⊢
 rw[a1] at h
 exact h
theorem kindsR_none {ls:List PLet} {N:List PNode}:∀ {r:List PRule} {st:KSt},(kindsR ls N st r).2=none→st.2=none
 | [],st,h=>h
 | p :: r,st,h=>by
  rw[kindsR] at h
  have h1:=kindsR_none h
  cases hs:st.2 with
  | none=>rfl
  | some q =>
   have:=scoreK_some ls N p _ q (whenK_some ls N p st q hs)
   rw[h1] at this
   cases this
theorem kindsR_eq {ls:List PLet} {N:List PNode}:∀ (r:List PRule) (b:Nat),ConsR b r→(kindsR ls N (lookGo ls [] none (N.take b)) r).2=none→(lookGo ls [] none (N.take (endR b r))).2=none
 | [],b,_,h=>h
 | p :: r,b,hc,h=>by
  obtain ⟨hw,hs,hc'⟩:=hc
  rw[kindsR] at h
  rw[endR]
  have h2:=kindsR_none h
  have hwn:(whenK ls N p (lookGo ls [] none (N.take b))).2=none:=by
   cases hq:(whenK ls N p (lookGo ls [] none (N.take b))).2 with
   | none=>rfl
   | some q =>
    have:=scoreK_some ls N p _ q hq
    rw[h2] at this
    cases this
  have e1:whenK ls N p (lookGo ls [] none (N.take b))=lookGo ls [] none (N.take (if p.hw then p.when.behind else b)):=by
   unfold whenK at hwn ⊢
   cases hpw:p.hw with
   | true =>
    rw[hpw] at hwn
    simp only[if_true] at hwn ⊢
    obtain ⟨a1,a2⟩:=hw hpw
    exact lookFor_eq a1 (by omega) hwn
   | false=>rfl
  have e2:scoreK ls N p (whenK ls N p (lookGo ls [] none (N.take b)))=lookGo ls [] none (N.take (stepR b p)):=by
   rw[e1] at h2 ⊢
   unfold scoreK at h2 ⊢
   unfold stepR
   cases hps:p.hs with
   | true =>
    rw[hps] at h2
    simp only[if_true] at h2 ⊢
    obtain ⟨a1,a2⟩:=hs hps
    exact lookFor_eq a1 (by omega) h2
   | false=>rfl
  rw[e2] at h
  exact kindsR_eq r (stepR b p) hc' h
def kdA (ls:List PLet) (N:List PNode) (i:Nat):Nat:=(lookGo ls [] none N).1.getD i 0
theorem kd_at {ls:List PLet} {N:List PNode} (h:(lookGo ls [] none N).2=none) {j:Nat} {n:PNode} (hn:N[j]?=some n):∃ ks:List Nat,kdA ls N j=nodeK ls ks n∧kdA ls N j≠0∧∀ i,i < j→ks.getD i 0=kdA ls N i:=by
 obtain ⟨hlt,hni⟩:=List.getElem?_eq_some_iff.1 hn
 have hsplit:N=N.take j++(n :: N.drop (j+1)):=by
  conv=>lhs;rw[← List.take_append_drop j N]
  rw[List.drop_eq_getElem_cons hlt,hni]
 obtain ⟨A,hA⟩:∃ A,lookGo ls [] none (N.take j)=A:=⟨_,rfl⟩
 have hal:A.1.length=j:=by rw[← hA,lookGo_length];simp;omega
 have hG:lookGo ls [] none N=lookGo ls (A.1++[nodeK ls A.1 n]) (failK A.2 (nodeK ls A.1 n==0) n.tok.at') (N.drop (j+1)):=by
  conv=>lhs;rw[hsplit]
  rw[lookGo_append,hA,lookGo]
 have hk:=lookGo_none (by rw[← hG];exact h)
 obtain ⟨_,hk0⟩:=failK_none hk
 have hkj:kdA ls N j=nodeK ls A.1 n:=by
  unfold kdA
  rw[hG,lookGo_get _ _ _ _ j (by simp[hal])]
  simp only[List.getD_eq_getElem?_getD]
  rw[List.getElem?_append_right (by omega),hal,Nat.sub_self]
  rfl
 refine ⟨A.1,hkj,by rw[hkj];simpa using hk0,fun i hi=>?_⟩
 unfold kdA
 rw[hG,lookGo_get _ _ _ _ i (by simp[hal];omega)]
 simp only[List.getD_eq_getElem?_getD]
 rw[List.getElem?_append_left (by omega)]
theorem bitN_01 (b:Bool):bitN b=0∨bitN b=1:=by cases b <;> simp[bitN]
theorem truth_ev {ls:List PLet} {N:List PNode} (x:Itm) (y:Bn) (hR:RefsOk ls (factsP ls N) N) (hS:∀ n∈N,ShapeN n) (hK:(lookGo ls [] none N).2=none):∀ (f j:Nat),j < f→j < N.length→kdA ls N j=2→(evI ls N x y f (j:Int)).2=0→(evI ls N x y f (j:Int)).1=0∨(evI ls N x y f (j:Int)).1=1
 | 0,j,h,_,_,_=>by omega
 | f+1,j,hjf,hlt,hk2,hfl=>by
  obtain ⟨n,hn⟩:∃ n,N[j]?=some n:=⟨N[j],List.getElem?_eq_getElem hlt⟩
  obtain ⟨hok,hrf⟩:=hR j n hn
  obtain ⟨ks,e1,e2,e3⟩:=kd_at hK hn
  rw[hk2] at e1
  rw[evI_at hn] at hfl ⊢
  unfold nodeK at e1
  by_cases h1:n.ops=1
  ·rw[if_pos h1] at e1 hfl ⊢
   unfold kindUn at e1
   split at e1
   ·omega
   ·split at e1
    ·rename_i hq
     have hop:opK (kindP n.tok.text) n.ops=3:=by rw[hq.1];rfl
     rw[hop] at hfl ⊢
     split at hfl
     ·rename_i hz;exact absurd hfl hz
     ·rename_i hz
      rw[if_neg hz]
      exact bitN_01 _
    ·omega
  ·rw[if_neg h1] at e1 hfl ⊢
   cases hc:isChK (kindP n.tok.text) with
   | true =>
    rw[hc] at hfl
    simp only[if_true] at hfl ⊢
    obtain ⟨hl,hr⟩:=hrf.two h1 (.inl hc)
    have h2:n.ops=2:=by
     have hmem:=List.mem_of_getElem? hn
     by_cases h2:n.ops=2
     ·exact h2
     ·exfalso
      have h0:n.ops=0:=by have:=hok.ops;omega
      rw[if_neg h2] at e1
      rcases isCh_cases hc with hk | hk <;> rw[hk] at e1 <;> simp[kindOne] at e1
    rw[if_pos h2] at e1
    have hkr:kdA ls N n.right=2:=by
     rw[e3 n.left hl,e3 n.right hr] at e1
     unfold kindBin at e1
     rcases isCh_cases hc with hk | hk <;> rw[hk] at e1 <;> ((repeat' split at e1) <;> omega)
    split at hfl
    ·rename_i hz;exact absurd hfl hz
    ·rename_i hz
     rw[if_neg hz]
     by_cases hd:(evI ls N x y f n.left).1=decK (kindP n.tok.text)
     ·rw[if_pos hd]
      simp only
      unfold decK
      split <;> simp
     ·rw[if_neg hd] at hfl ⊢
      exact truth_ev x y hR hS hK f n.right (by omega) (by omega) hkr hfl
   | false =>
    rw[hc] at hfl
    simp only[Bool.false_eq_true,if_false] at hfl ⊢
    by_cases h2:n.ops=2
    ·rw[if_pos h2] at e1 hfl ⊢
     have hop:opK (kindP n.tok.text) n.ops=9∨opK (kindP n.tok.text) n.ops=10∨opK (kindP n.tok.text) n.ops=11∨opK (kindP n.tok.text) n.ops=12:=by
      have hk:kindP n.tok.text=23∨kindP n.tok.text=24∨kindP n.tok.text=25∨kindP n.tok.text=26:=by
       unfold kindBin at e1
       unfold isChK at hc
       simp only[Bool.or_eq_false_iff,decide_eq_false_iff_not] at hc
       (repeat' split at e1) <;> omega
      rcases hk with hk | hk | hk | hk <;> rw[hk] <;> simp[opK]
     split at hfl
     ·rename_i hz;exact absurd hfl hz
     ·rename_i hz
      rw[if_neg hz]
      split at hfl
      ·rename_i hz2;exact absurd hfl hz2
      ·rename_i hz2
       rw[if_neg hz2]
       rcases hop with ho | ho | ho | ho <;> rw[ho] <;> exact bitN_01 _
    ·rw[if_neg h2] at e1 hfl ⊢
     have h0:n.ops=0:=by have:=hok.ops;omega
     by_cases hk:kindP n.tok.text=2
     ·rw[if_pos hk] at e1 hfl ⊢
      obtain ⟨hm0,hm1⟩:=hrf.nam h0 hc hk
      obtain ⟨i,hi⟩:∃ i:Nat,meantI ls n.tok.text=(i:Int):=⟨(meantI ls n.tok.text).toNat,by omega⟩
      have hij:i < j:=by omega
      have hki:kdA ls N i=2:=by
       unfold meantI at hi hm0
       split at e1
       ·rename_i p hp
        rw[hp] at hi hm0
        simp only at hi hm0
        unfold kindAt at e1
        have:p.val.behind - 1=i:=by omega
        rw[this,e3 i hij] at e1
        exact e1.symm
       ·omega
      rw[hi] at hfl hm1 ⊢
      exact truth_ev x y hR hS hK f i (by omega) (by omega) hki hfl
     ·rw[if_neg hk] at e1 hfl ⊢
      have hk2':kindP n.tok.text=10∨kindP n.tok.text=11:=by
       unfold kindOne at e1
       (repeat' split at e1) <;> omega
      have hsf:singleF n.tok=some 1∨singleF n.tok=some 0:=by
       unfold singleF
       rcases hk2' with hq | hq <;> rw[hq] <;> simp
      rcases hsf with hq | hq <;> rw[hq] <;> simp
theorem truths_ok {s:Txt} {L R:List RSt} (h:PolicyOf s L R) (hN:(nodesS 0 (L++R)).length≤401) (he:errsOf (nodesS 0 (L++R)) (letsS 0 (L++R)) (rulesS 0 (L++R))=(0,0)) (x:Itm) (y:Bn) :
  RefsOk (letsS 0 (L++R)) (factsP (letsS 0 (L++R)) (nodesS 0 (L++R))) (nodesS 0 (L++R))∧TruthsOk (letsS 0 (L++R)) (nodesS 0 (L++R)) x y∧(lookGo (letsS 0 (L++R)) [] none (nodesS 0 (L++R))).2=none:=by
 unfold errsOf at he
 split at he
 ·cases he
 rename_i hnm
 split at he
 ·cases he
 rename_i hkd
 have hf:=fits_of h hN
 have hlen:=nodesS_len (L++R) h.wf 0
 have h1:letsS 0 (L++R)=letsS 0 L:=by rw[letsS_append,lets_none R h.rules,List.append_nil]
 have h2:rulesS 0 (L++R)=rulesS (numS L) R:=by rw[rulesS_append,rules_none L h.lets,List.nil_append,Nat.zero_add]
 have hc:=cons_lets L (fun x hx=>h.wf x (by simp[hx])) h.lets 0
 have hen:=end_rules R (fun x hx=>h.wf x (by simp[hx])) h.rules (numS L)
 rw[← h1,Nat.zero_add] at hc
 rw[← h2] at hen
 have hR:=refs_ok h hN (names_ahead h hN hnm)
 have hK:(lookGo (letsS 0 (L++R)) [] none (nodesS 0 (L++R))).2=none:=by
  unfold pKinds at hkd
  have e0:(([],none):KSt)=lookGo (letsS 0 (L++R)) [] none ((nodesS 0 (L++R)).take 0):=rfl
  rw[e0,kindsL_eq _ 0 hf.l] at hkd
  have:=kindsR_eq _ _ hf.r hkd
  rw[hc.2,hen,← numS_append,← hlen,List.take_length] at this
  exact this
 refine ⟨hR,fun j n hn h1' hch f hlf hfl=>?_,hK⟩
 obtain ⟨hok,hrf⟩:=hR j n hn
 obtain ⟨ks,e1,e2,e3⟩:=kd_at hK hn
 obtain ⟨hl,hr⟩:=hrf.two h1' (.inl hch)
 have hjl:j < (nodesS 0 (L++R)).length:=(List.getElem?_eq_some_iff.1 hn).1
 have hkl:kdA (letsS 0 (L++R)) (nodesS 0 (L++R)) n.left=2:=by
  rw[e1] at e2
  unfold nodeK at e2
  rw[if_neg h1'] at e2
  split at e2
  ·rw[e3 n.left hl,e3 n.right hr] at e2
   unfold kindBin at e2
   rcases isCh_cases hch with hk | hk <;> rw[hk] at e2 <;> ((repeat' split at e2) <;> first | omega | (simp at *;omega))
  ·exfalso
   rcases isCh_cases hch with hk | hk <;> rw[hk] at e2 <;> simp[kindOne] at e2
 exact truth_ev x y hR (nodes_shapes (L++R) h.wf 0) hK f n.left hlf (by omega) hkl hfl
end Go.Proofs.YtldfkcpbjooemaaGreatDoor
namespace Go.Proofs.YtldfkcpbjooemaaGreatDoor
def wtI (ls:List PLet) (N:List PNode):Nat→Int→Nat
 | 0,_=>1
 | f+1,i =>
  match N[i.toNat]? with
  | none=>1
  | some n =>
   if n.ops=1 then wtI ls N f n.left+1
   else if isChK (kindP n.tok.text)∨n.ops=2 then wtI ls N f n.left+wtI ls N f n.right+1
   else if kindP n.tok.text=2 then wtI ls N f (meantI ls n.tok.text)
   else 1
theorem wtI_at {ls:List PLet} {N:List PNode} {f i:Nat} {n:PNode} (hn:N[i]?=some n):wtI ls N (f+1) (i:Int) =
   if n.ops=1 then wtI ls N f n.left+1
   else if isChK (kindP n.tok.text)∨n.ops=2 then wtI ls N f n.left+wtI ls N f n.right+1
   else if kindP n.tok.text=2 then wtI ls N f (meantI ls n.tok.text)
   else 1:=by
 rw[wtI]
 simp only[Int.toNat_natCast,hn]
theorem wtI_pos (ls:List PLet) (N:List PNode):∀ (f:Nat) (i:Int),1≤wtI ls N f i
 | 0,_=>Nat.le_refl _
 | f+1,i=>by
  rw[wtI]
  split
  ·exact Nat.le_refl _
  ·split
   ·omega
   ·split
    ·omega
    ·split
     ·exact wtI_pos ls N f _
     ·exact Nat.le_refl _
theorem oneP_steps (n:Nat) (p:PB):(oneP n p).steps≤p.steps+1:=by
 unfold oneP
 (repeat' split) <;> simp
theorem twoP_steps (n:Nat) (p q:PB):(twoP n p q).steps≤p.steps+q.steps+1:=by
 unfold twoP
 (repeat' split) <;> simp <;> omega
theorem choiceP_steps (n:Nat) (p a b:PB):(choiceP n p a b).steps≤p.steps+a.steps+b.steps+2:=by
 unfold choiceP
 (repeat' split) <;> simp <;> omega
theorem pb_size {ls:List PLet} {N:List PNode} (x:Itm) (y:Bn):∀ (f:Nat) (i:Int),1≤(pbI (factsP ls N) ls N x y f i).code.length∧(pbI (factsP ls N) ls N x y f i).code.length+3≤12 * wtI ls N f i∧(pbI (factsP ls N) ls N x y f i).high≤wtI ls N f i∧(pbI (factsP ls N) ls N x y f i).steps≤(pbI (factsP ls N) ls N x y f i).code.length
 | 0,i=>by
  rw[pbI,wtI]
  have e:(leafI 0).code.length=9:=by simp[leafI,eightC,bytesN_length]
  rw[e]
  exact ⟨by omega,by omega,Nat.le_refl _,by show 1≤9;omega⟩
 | f+1,i=>by
  have hleaf:∀ v:Int,∀ w:Nat,1≤w→1≤(leafI v).code.length∧(leafI v).code.length+3≤12 * w∧(leafI v).high≤w∧(leafI v).steps≤(leafI v).code.length:=by
   intro v w hw
   have e:(leafI v).code.length=9:=by simp[leafI,eightC,bytesN_length]
   rw[e]
   exact ⟨by omega,by omega,hw,by show 1≤9;omega⟩
  have hpos:=wtI_pos ls N (f+1) i
  rw[pbI]
  cases hn:N[i.toNat]? with
  | none=>exact hleaf 0 _ hpos
  | some n =>
   simp only
   cases hfa:atF (factsP ls N) i with
   | some v=>exact hleaf v _ hpos
   | none =>
    rw[wtI,hn]
    simp only
    by_cases h1:n.ops=1
    ·rw[if_pos h1,if_pos h1]
     obtain ⟨a0,a1,a2,a3⟩:=pb_size x y f n.left (ls:=ls) (N:=N)
     have hst:=oneP_steps (opK (kindP n.tok.text) n.ops) (pbI (factsP ls N) ls N x y f n.left)
     rw[(oneP_code _ _).1,(oneP_code _ _).2,List.length_append,List.length_singleton]
     exact ⟨by omega,by omega,by omega,by omega⟩
    ·rw[if_neg h1,if_neg h1]
     obtain ⟨a0,a1,a2,a3⟩:=pb_size x y f n.left (ls:=ls) (N:=N)
     obtain ⟨b0,b1,b2,b3⟩:=pb_size x y f n.right (ls:=ls) (N:=N)
     cases hc:isChK (kindP n.tok.text) with
     | true =>
      simp only[if_true,true_or]
      have hst:=choiceP_steps (leaK (kindP n.tok.text)) (pbI (factsP ls N) ls N x y f n.left) (pbI (factsP ls N) ls N x y f n.right) (leafI (decK (kindP n.tok.text)))
      have hd:(leafI (decK (kindP n.tok.text))).steps=1:=rfl
      have hh:(leafI (decK (kindP n.tok.text))).high=1:=rfl
      have e9:(leafI (decK (kindP n.tok.text))).code.length=9:=by simp[leafI,eightC,bytesN_length]
      have ej:∀ a b,(jumpC a b).length=3:=fun _ _=>rfl
      rw[(choiceP_code _ _ _ _).1,(choiceP_code _ _ _ _).2]
      simp only[choiceC,List.length_append,ej,e9,choiceH,maxN_max,hh]
      exact ⟨by omega,by omega,by omega,by omega⟩
     | false =>
      simp only[Bool.false_eq_true,if_false,false_or]
      by_cases h2:n.ops=2
      ·rw[if_pos h2,if_pos h2]
       have hst:=twoP_steps (opK (kindP n.tok.text) n.ops) (pbI (factsP ls N) ls N x y f n.left) (pbI (factsP ls N) ls N x y f n.right)
       rw[(twoP_code _ _ _).1,(twoP_code _ _ _).2]
       simp only[List.length_append,List.length_singleton,maxN_max]
       exact ⟨by omega,by omega,by omega,by omega⟩
      ·rw[if_neg h2,if_neg h2]
       by_cases hk:kindP n.tok.text=2
       ·rw[if_pos hk,if_pos hk]
        exact pb_size x y f _
       ·rw[if_neg hk,if_neg hk]
        exact ⟨by show 1≤2;omega,by show 2+3≤12 * 1;omega,Nat.le_refl _,by show 1≤2;omega⟩
def LiesAt (N:List PNode) (b:Nat) (l:List PNode):Prop:=∀ (k:Nat) (n:PNode),l[k]?=some n→N[b+k]?=some n
theorem LiesAt.left {N:List PNode} {b:Nat} {l m:List PNode} (h:LiesAt N b (l++m)):LiesAt N b l:=fun k n hk=>h k n (by
 rw[List.getElem?_append_left (List.getElem?_eq_some_iff.1 hk).1];exact hk)
theorem LiesAt.right {N:List PNode} {b:Nat} {l m:List PNode} (h:LiesAt N b (l++m)):LiesAt N (b+l.length) m:=fun k n hk=>by
 have:=h (l.length+k) n (by rw[List.getElem?_append_right (by omega),Nat.add_sub_cancel_left];exact hk)
 rw[Nat.add_assoc];exact this
theorem sumN_app2 (ls:List PLet) (sz:List Nat):∀ (a b:List PNode),sumN ls sz (a++b)=sumN ls sz a+sumN ls sz b
 | [],b=>by simp[sumN]
 | n :: r,b=>by simp only[List.cons_append,sumN,sumN_app2 ls sz r b];omega
theorem un_kindF {t:Txt} (hm:mayT t=true) (hu:unT t=true):kindP t=28∨kindP t=9:=by
 have K:=kindOf t hm
 unfold unT at hu
 simp only[Bool.or_eq_true,beq_iff_eq] at hu
 rcases hu with h | h
 ·exact .inl (K.kminus.2 h)
 ·exact .inr (K.knot.2 h)
theorem bin_kindF {t:Txt} (hm:mayT t=true) (hb:0 < bindsT t):kindP t≠2:=by
 have K:=kindOf t hm
 rw[← K.binds] at hb
 intro h
 rw[h] at hb
 exact absurd hb (by decide)
theorem tree_wt {ls:List PLet} {N:List PNode} {sz:List Nat} (hm:∀ n∈N,mayT n.tok.text=true) (hna:NamesAhead ls N) (t:Tr) (h:t.wf):∀ b,LiesAt N b (t.flat b) →
  (∀ n∈t.flat b,kindP n.tok.text=2→sz.getD (letIx ls n.tok.text) 0≤150→∀ f:Nat,meantI ls n.tok.text < (f:Int)→wtI ls N f (meantI ls n.tok.text)≤sz.getD (letIx ls n.tok.text) 0) →
  sumN ls sz (t.flat b)≤150→∀ f,b+t.num - 1 < f→wtI ls N f ((b+t.num - 1:Nat):Int)≤sumN ls sz (t.flat b):=by
 refine Tr.ind (P:=fun t=>∀ b,LiesAt N b (t.flat b)→(∀ n∈t.flat b,kindP n.tok.text=2→sz.getD (letIx ls n.tok.text) 0≤150→∀ f:Nat,meantI ls n.tok.text < (f:Int)→wtI ls N f (meantI ls n.tok.text)≤sz.getD (letIx ls n.tok.text) 0)→sumN ls sz (t.flat b)≤150→∀ f,b+t.num - 1 < f→wtI ls N f ((b+t.num - 1:Nat):Int)≤sumN ls sz (t.flat b)) t h ?_ ?_ ?_ ?_
 ·intro a ha b hl hz hs f hf
  rw[Tr.flat_leaf] at hl hz hs ⊢
  rw[Tr.num_leaf] at hf ⊢
  simp only[Nat.add_sub_cancel] at hf ⊢
  have hn:N[b]?=some ⟨a,0,0,0⟩:=hl 0 _ rfl
  obtain ⟨f',rfl⟩:∃ f',f=f'+1:=⟨f - 1,by omega⟩
  have hmem:=List.mem_of_getElem? hn
  have hcf:isChK (kindP a.text)=false:=by
   have K:=kindOf a.text (hm _ hmem)
   have hsg:=(Tr.wf_leaf ha).1
   rw[← K.single] at hsg
   cases hc:isChK (kindP a.text) with
   | false=>rfl
   | true=>rcases isCh_cases hc with hk | hk <;> rw[hk] at hsg <;> exact absurd hsg (by decide)
  rw[wtI_at hn]
  simp only[hcf,Bool.false_eq_true,false_or]
  rw[if_neg (by omega),if_neg (by omega)]
  simp only[sumN,partNode,Nat.add_zero] at hs ⊢
  by_cases hk:kindP a.text=2
  ·rw[if_pos hk] at hs ⊢
   rw[if_pos hk]
   have hlt:=(hna b ⟨a,0,0,0⟩ hn rfl hk).2
   exact hz ⟨a,0,0,0⟩ List.mem_cons_self hk hs f' (by simp only at hlt ⊢;omega)
  ·rw[if_neg hk,if_neg hk]
   exact Nat.le_refl _
 ·intro op e hw ih b hl hz hs f hf
  rw[Tr.flat_un] at hl hz hs ⊢
  rw[Tr.num_un] at hf ⊢
  have hwe:=(Tr.wf_un hw).2.2
  have hlen:=e.flat_len hwe b
  have hp:=e.num_pos hwe
  have hn:=hl.right 0 _ rfl
  rw[hlen,Nat.add_zero] at hn
  rw[sumN_app2] at hs ⊢
  have hpn:partNode ls sz op=1:=by
   unfold partNode
   rcases un_kindF (hm _ (List.mem_of_getElem? hn)) (Tr.wf_un hw).1 with hk | hk <;> rw[hk] <;> rfl
  simp only[sumN,hpn] at hs ⊢
  obtain ⟨f',rfl⟩:∃ f',f=f'+1:=⟨f - 1,by omega⟩
  rw[show b+(e.num+1) - 1=b+e.num by omega,wtI_at hn,if_pos rfl]
  have:=ih b hl.left (fun n hn=>hz n (List.mem_append_left _ hn)) (by omega) f' (by omega)
  simp only at this ⊢
  omega
 ·intro op l r hw ihl ihr b hl hz hs f hf
  rw[Tr.flat_bin] at hl hz hs ⊢
  rw[Tr.num_bin] at hf ⊢
  have hwb:=Tr.wf_bin hw
  have hll:=l.flat_len hwb.2.2.2.2.2.1 b
  have hrl:=r.flat_len hwb.2.2.2.2.2.2 (b+l.num)
  have hpl:=l.num_pos hwb.2.2.2.2.2.1
  have hpr:=r.num_pos hwb.2.2.2.2.2.2
  have hn:=hl.right 0 _ rfl
  rw[List.length_append,hll,hrl,Nat.add_zero] at hn
  rw[sumN_app2,sumN_app2] at hs ⊢
  have hpn:partNode ls sz op=1:=by
   unfold partNode
   rw[if_neg (bin_kindF (hm _ (List.mem_of_getElem? hn)) hwb.1)]
  simp only[sumN,hpn] at hs ⊢
  obtain ⟨f',rfl⟩:∃ f',f=f'+1:=⟨f - 1,by omega⟩
  rw[show b+(l.num+r.num+1) - 1=b+(l.num+r.num) by omega,wtI_at hn,if_neg (by simp),if_pos (.inr rfl)]
  have i1:=ihl b hl.left.left (fun n hn=>hz n (List.mem_append_left _ (List.mem_append_left _ hn))) (by omega) f' (by omega)
  have hlr:=hl.left.right
  rw[hll] at hlr
  have i2:=ihr (b+l.num) hlr (fun n hn=>hz n (List.mem_append_left _ (List.mem_append_right _ hn))) (by omega) f' (by omega)
  simp only at i1 i2 ⊢
  omega
 ·intro o e c hw ih b hl hz hs f hf
  rw[Tr.flat_par] at hl hz hs ⊢
  rw[Tr.num_par] at hf ⊢
  exact ih b hl hz hs f hf
end Go.Proofs.YtldfkcpbjooemaaGreatDoor
