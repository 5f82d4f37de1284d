/-
  What a token's text is; a number without its noughts is worth the same; plain.
-/
import Derived.Test.YtpcjadaeolkngaaGreatDoorJ33
set_option linter.unusedVariables false
set_option linter.unusedSimpArgs false
namespace Go.Proofs.YtpcjadaeolkngaaGreatDoor
open Go.Deep
structure TokT(t:Txt):Prop where
 ne:t≠[]
 bl:blankC (headC t)=false
 run:runLen t=t.length
theorem runLen_take:∀ t:Txt,runLen (t.take (runLen t))=(t.take (runLen t)).length
 | []=>rfl
 | [a]=>rfl
 | a :: b :: r=>by
  have ih:=runLen_take (b :: r)
  have hp:=runLen_pos b r
  rw[runLen]
  cases hc:sameC a b with
  | false=>rfl
  | true =>
   simp only[if_true]
   obtain ⟨n,hn⟩:∃ n,runLen (b :: r)=n+1:=⟨runLen (b :: r)-1,by omega⟩
   rw[hn]at ih ⊢
   rw[List.take_succ_cons,List.take_succ_cons]at *
   rw[runLen,hc,if_pos rfl,ih]
   rfl
theorem toks_text_aux:∀ (n:Nat) (s:Txt) (p:Nat) (l:List RTok),s.length≤n→toksR s p=.ok l→∀ a∈l,TokT a.text
 | _,[],p,l,_,h=>by rw[toksR_nil]at h;cases h;intro a ha;cases ha
 | 0,c :: r,p,l,hn,_=>by simp at hn
 | n+1,c :: r,p,l,hn,h=>by
  have hp:=runLen_pos c r
  rw[toksR_cons]at h
  rw[List.length_cons]at hn
  split at h
  ·exact toks_text_aux n r (p+1) l (by omega) h
  ·rename_i hbl
   split at h
   ·generalize hd:(c :: r).drop (runLen (c :: r))=d at h
    have hdl:d.length≤r.length:=by rw[← hd,List.length_drop,List.length_cons];omega
    cases ht:toksR d (p+runLen (c :: r)) with
    | ok m =>
     rw[ht]at h
     cases h
     have ih:=toks_text_aux n d _ m (by omega) ht
     intro a ha
     rcases List.mem_cons.1 ha with rfl | ha
     ·obtain ⟨k,hk⟩:∃ k,runLen (c :: r)=k+1:=⟨runLen (c :: r)-1,by omega⟩
      refine ⟨?_, ?_,runLen_take (c :: r)⟩
      ·rw[hk,List.take_succ_cons];simp
      ·rw[hk,List.take_succ_cons]
       show blankC c=false
       simpa using hbl
     ·exact ih a ha
    | error e=>rw[ht]at h;cases h
   ·cases h
theorem toks_text{s:Txt}{p:Nat}{l:List RTok}(h:toksR s p=.ok l):∀ a∈l,TokT a.text:=toks_text_aux s.length s p l (Nat.le_refl _) h
theorem tokened_toks{s:Txt}{l:List RTok}(h:tokened s=.fine l):toksR s 0=.ok l∧s.length≤400∧∃ q,goS ⟨0,0,0⟩ l=.ok q∧q.next=6:=by
 unfold tokened at h
 split at h
 ·cases h
 ·rename_i hn
  split at h
  ·cases h
  ·rename_i l' hl
   split at h
   ·cases h
   ·rename_i q hq
    split at h
    ·rename_i h6
     cases h
     exact ⟨hl,by omega,q,hq,h6⟩
    ·cases h
theorem dig_all:∀ (t:Txt),t≠[]→isDig (headC t)=true→runLen t=t.length→t.all isDig=true
 | [],h,_,_=>absurd rfl h
 | [a],_,hd,_=>by
  have h:isDig a=true:=hd
  simp[h]
 | a :: b :: r,_,hd,hr=>by
  have hle:=runLen_le (b :: r)
  have hda:isDig a=true:=hd
  rw[runLen]at hr
  cases hc:sameC a b with
  | false=>rw[hc]at hr;simp at hr
  | true =>
   rw[hc]at hr
   simp only[if_true,List.length_cons]at hr hle
   have hdb:isDig b=true:=by
    have hl:isLet a=false:=by
     unfold isLet isDig at *
     simp only[Bool.and_eq_true,decide_eq_true_eq,Bool.and_eq_false_iff,decide_eq_false_iff_not]at *
     left
     intro h5
     exact absurd (UInt8.le_trans h5 hda.2) (by decide)
    have h60:(a==60)=false:=by
     cases h:a==60 with
     | false=>rfl
     | true =>
      have:a=60:=by simpa using h
      subst this;exact absurd hda (by decide)
    have h33:(a==33)=false:=by
     cases h:a==33 with
     | false=>rfl
     | true =>
      have:a=33:=by simpa using h
      subst this;exact absurd hda (by decide)
    unfold sameC at hc
    rw[hda,hl,h60,h33]at hc
    simpa using hc
   have ih:=dig_all (b :: r) (by simp) hdb (by simp only[List.length_cons];omega)
   rw[List.all_cons,hda,ih]
   rfl
theorem all_run:∀ (t:Txt),t.all isDig=true→runLen t=t.length
 | [],_=>rfl
 | [a],_=>rfl
 | a :: b :: r,h=>by
  rw[List.all_cons,List.all_cons,Bool.and_eq_true,Bool.and_eq_true]at h
  have ih:=all_run (b :: r) (by rw[List.all_cons,h.2.1,h.2.2];rfl)
  rw[runLen,show sameC a b=true by simp[sameC,h.1,h.2.1],if_pos rfl,ih]
  rfl
theorem strip0_all:∀ t:Txt,t.all isDig=true→(strip0 t).all isDig=true
 | [],h=>h
 | [a],h=>h
 | a :: b :: r,h=>by
  rw[strip0]
  split
  ·rw[List.all_cons,Bool.and_eq_true]at h
   exact strip0_all (b :: r) h.2
  ·exact h
theorem strip0_ne:∀ t:Txt,t≠[]→strip0 t≠[]
 | [],h=>h
 | [a],_=>by simp[strip0]
 | a :: b :: r,_=>by
  rw[strip0]
  split
  ·exact strip0_ne (b :: r) (by simp)
  ·simp
theorem strip0_again:∀ t:Txt,strip0 (strip0 t)=strip0 t
 | []=>rfl
 | [a]=>rfl
 | a :: b :: r=>by
  rw[strip0]
  split
  ·exact strip0_again (b :: r)
  ·rename_i h
   rw[strip0,if_neg h]
theorem numT_zero(r:Txt):numT (48 :: r)=numT r:=by
 unfold numT
 rw[List.foldl_cons]
 rfl
theorem strip0_num:∀ t:Txt,numT (strip0 t)=numT t
 | []=>rfl
 | [a]=>rfl
 | a :: b :: r=>by
  rw[strip0]
  split
  ·rename_i h
   have ha:a=48:=by simpa using h
   subst ha
   rw[strip0_num (b :: r),numT_zero]
  ·rfl
theorem head_dig{t:Txt}(h0:t≠[])(h:t.all isDig=true):isDig (headC t)=true:=by
 cases t with
 | nil=>exact absurd rfl h0
 | cons a r=>rw[List.all_cons,Bool.and_eq_true]at h;exact h.1
structure ShortOf(t u:Txt):Prop where
 tok:TokT u
 may:mayT u=true
 single:singleT u=true
 no:u≠cOpen∧u≠cClose∧unT u=false∧bindsT u=0
 name:nameT u=nameT t∧(nameT u=true→u=t)
 kind:(if nameT u then (0:Nat) else leafKindT u)=(if nameT t then 0 else leafKindT t)
 wor:∀ env x y p q,leafW env x y ⟨u,p⟩=leafW env x y ⟨t,q⟩
 again:shortN u=u
theorem dig_facts{t:Txt}(h:isDig (headC t)=true):t≠cOpen∧t≠cClose∧unT t=false∧bindsT t=0∧nameT t=false∧leafKindT t=1∧kindP t=1:=by
 have hn:∀ u:Txt,isDig (headC u)=false→t≠u:=fun u hu e=>by rw[e,hu]at h;cases h
 have hl:isLet (headC t)=false:=by
  unfold isLet isDig at *
  simp only[Bool.and_eq_true,decide_eq_true_eq,Bool.and_eq_false_iff,decide_eq_false_iff_not]at *
  left
  intro h5
  exact absurd (UInt8.le_trans h5 h.2) (by decide)
 refine ⟨hn _ (by decide),hn _ (by decide), ?_, ?_,by simp[nameT,hl], ?_,by unfold kindP;rw[if_pos h]⟩
 ·unfold unT
  rw[Bool.or_eq_false_iff]
  exact ⟨by simpa using hn cMinus (by decide),by simpa using hn cNot (by decide)⟩
 ·cases hz:bindsT t with
  | zero=>rfl
  | succ m =>
   have hj:=(joint_binds t).2 (by omega)
   simp only[jointT,tJoint,List.contains_cons,List.contains_nil,Bool.or_false,Bool.or_eq_true,beq_iff_eq]at hj
   rcases hj with rfl | rfl | rfl | rfl | rfl | rfl | rfl | rfl | rfl | rfl | rfl <;> exact absurd h (by decide)
 ·unfold leafKindT
  rw[if_neg,if_neg]
  ·unfold classT
   intro hc
   have hall:∀ u∈tClass,isDig (headC u)=false:=by decide
   have:=hall t (List.contains_iff_mem.1 hc)
   rw[h]at this
   cases this
  ·simp only[Bool.or_eq_true,beq_iff_eq]
   intro hc
   rcases hc with hc | hc <;> exact absurd hc (hn _ (by decide))
theorem short_of{t:Txt}(h:TokT t)(hm:mayT t=true)(hs:singleT t=true)(hn:t≠cOpen∧t≠cClose∧unT t=false∧bindsT t=0):ShortOf t (shortN t):=by
 unfold shortN
 split
 ·rename_i hd
  have ha:=dig_all t h.ne hd h.run
  have hb:=strip0_all t ha
  have hne:=strip0_ne t h.ne
  have hd2:=head_dig hne hb
  obtain ⟨f1,f2,f3,f4,f5,f6,f7⟩:=dig_facts hd2
  obtain ⟨g1,g2,g3,g4,g5,g6,g7⟩:=dig_facts hd
  have hbl:blankC (headC (strip0 t))=false:=by
   cases hx:blankC (headC (strip0 t)) with
   | false=>rfl
   | true =>
    unfold blankC at hx
    simp only[Bool.or_eq_true,beq_iff_eq]at hx
    rcases hx with hx | hx <;> rw[hx]at hd2 <;> exact absurd hd2 (by decide)
  refine ⟨⟨hne,hbl,all_run _ hb⟩, ?_, ?_,⟨f1,f2,f3,f4⟩,⟨by rw[f5,g5],fun hh=>by rw[f5]at hh;cases hh⟩,by rw[f5,g5,f6,g6], ?_, ?_⟩
  ·unfold mayT at hm ⊢
   rw[if_pos hd]at hm
   rw[if_pos hd2]
   have:=strip0_le t
   have h18:=of_decide_eq_true hm
   exact decide_eq_true (by omega)
  ·unfold singleT;rw[hd2];simp
  ·intro env x y p q
   unfold leafW
   simp only
   rw[f7,g7]
   unfold singleF
   simp only
   rw[f7,g7,strip0_num]
   rfl
  ·unfold shortN
   rw[if_pos hd2,strip0_again]
 ·rename_i hd
  exact ⟨h,hm,hs,hn,⟨rfl,fun _=>rfl⟩,rfl,fun env x y p q=>rfl,by unfold shortN;rw[if_neg hd]⟩
def depB:BT (RTok×RTok)→Nat
 | .nil=>0
 | .node 0 _ _ _ _=>0
 | .node 1 _ _ e _=>depB e
 | .node 2 _ _ l r=>max (depB l) (depB r)
 | .node _ _ _ e _=>depB e+1
def depT(t:Tr):Nat:=depB t
theorem depT_leaf(a:RTok):depT (.leaf a)=0:=rfl
theorem depT_un(op:RTok)(e:Tr):depT (.un op e)=depT e:=rfl
theorem depT_bin(op:RTok)(l r:Tr):depT (.bin op l r)=max (depT l) (depT r):=rfl
theorem depT_par(o:RTok)(e:Tr)(c:RTok):depT (.par o e c)=depT e+1:=rfl
theorem goS_err{a b:List RTok}{p:Spot}{e:Nat}(h:goS p a=.error e):goS p (a++b)=.error e:=by rw[goS_append,h]
theorem go_dep(t:Tr)(h:t.wf):(∀ a∈t.toks,mayT a.text=true)→∀ xx d,(d+depT t≤8→goS ⟨3,xx,d⟩ t.toks=.ok ⟨4,xx,d⟩)∧(¬ d+depT t≤8→d≤8→∃ p,goS ⟨3,xx,d⟩ t.toks=.error p):=by
 refine Tr.ind (P:=fun t=>(∀ a∈t.toks,mayT a.text=true)→∀ xx d,(d+depT t≤8→goS ⟨3,xx,d⟩ t.toks=.ok ⟨4,xx,d⟩)∧(¬ d+depT t≤8→d≤8→∃ p,goS ⟨3,xx,d⟩ t.toks=.error p)) t h ?_ ?_ ?_ ?_
 ·intro a hw hm xx d
  refine ⟨fun _=>?_,fun h1 h2=>absurd h2 (by rw[depT_leaf]at h1;omega)⟩
  rw[Tr.toks_leaf,goS_cons (value_leaf (hm a (by rw[Tr.toks_leaf];simp)) (Tr.wf_leaf hw).1 xx d)]
  rfl
 ·intro op e hw ih hm xx d
  obtain ⟨hu,_,_⟩:=Tr.wf_un hw
  obtain ⟨i1,i2⟩:=ih (fun a ha=>hm a (by rw[Tr.toks_un];simp[ha])) xx d
  rw[depT_un,Tr.toks_un,goS_cons (value_un hu xx d)]
  exact ⟨i1,i2⟩
 ·intro op l r hw ihl ihr hm xx d
  obtain ⟨hb,_⟩:=Tr.wf_bin hw
  obtain ⟨l1,l2⟩:=ihl (fun a ha=>hm a (by rw[Tr.toks_bin];simp[ha])) xx d
  obtain ⟨r1,r2⟩:=ihr (fun a ha=>hm a (by rw[Tr.toks_bin];simp[ha])) xx d
  rw[depT_bin,Tr.toks_bin]
  refine ⟨fun hd=>?_,fun hd h8=>?_⟩
  ·rw[goS_ok (l1 (by omega)),goS_cons (after_joint hb xx d)]
   exact r1 (by omega)
  ·by_cases hl:d+depT l≤8
   ·obtain ⟨p,hp⟩:=r2 (by omega) h8
    exact ⟨p,by rw[goS_ok (l1 hl),goS_cons (after_joint hb xx d)];exact hp⟩
   ·obtain ⟨p,hp⟩:=l2 hl h8
    exact ⟨p,goS_err hp⟩
 ·intro o e c hw ih hm xx d
  obtain ⟨ho,hc,_⟩:=Tr.wf_par hw
  obtain ⟨i1,i2⟩:=ih (fun a ha=>hm a (by rw[Tr.toks_par];simp[ha])) xx (d+1)
  rw[depT_par,Tr.toks_par]
  refine ⟨fun hd=>?_,fun hd h8=>?_⟩
  ·rw[goS_cons (value_open ho xx d (by omega)),goS_ok (i1 (by omega)),goS_cons (after_close hc xx d)]
   rfl
  ·by_cases h9:d+1≤8
   ·obtain ⟨p,hp⟩:=i2 (by omega) h9
    exact ⟨p,by rw[goS_cons (value_open ho xx d (by omega))];exact goS_err hp⟩
   ·refine ⟨o.at', ?_⟩
    have hs:(stepS ⟨3,xx,d⟩ o.text).2=false:=by
     rw[ho]
     simp[stepS,valueS,cOpen,cMinus,cNot]
     omega
    rw[goS,hs]
    rfl
structure SimT(t t':Tr)(lv pos:Nat):Prop where
 wf:t'.wf
 lev:lv≤t'.level
 toks:Toks (t.plainT lv) pos t'.toks
 wor:∀ env x y,t'.wor env x y=t.wor env x y
 kind:∀ c k,kindT c t=.ok k→kindT c t'=.ok k
 may:∀ a∈t'.toks,mayT a.text=true
 nam:∀ a∈t'.toks,nameT a.text=true→∃ b∈t.toks,b.text=a.text
 prt:∀ ps,(∀ q∈ps,nameT q.1=true)→partSum ps t'.toks=partSum ps t.toks
 dep:depT t'≤depT t+(if t.level<lv then 1 else 0)
 same:∀ lv2,t'.plainT lv2=t.plainT lv2
theorem part_no{ps:List (Txt×Nat)}(hps:∀ q∈ps,nameT q.1=true){t:Txt}(ht:nameT t=false):partOne ps t=(if t==cOpen||t==cClose then 0 else 1):=by
 unfold partOne
 exact partFold_no _ _ (fun q hq e=>by have:=hps q hq;rw[e,ht]at this;cases this)
theorem sim_par{t t':Tr}{lv pos:Nat}{txt:Txt}(htxt:t.plainT lv=brk true txt)(hb:t.level<lv)(hlv:lv≤6)(S:SimT t t' t.level (pos+1))(htt:t.plainT t.level=txt):∃ u,SimT t u lv pos:=by
 have hT:=S.toks
 rw[htt]at hT
 refine ⟨Tr.par ⟨[40],pos⟩ t' ⟨[41],pos+1+txt.length⟩,⟨⟨rfl,rfl⟩,rfl,rfl,S.wf⟩,by rw[Tr.level_par];exact hlv, ?_,fun env x y=>by rw[Tr.wor_par];exact S.wor env x y,fun c k h=>by rw[kindT_par];exact S.kind c k h, ?_, ?_, ?_, ?_,fun lv2=>by rw[plainT_par];exact S.same lv2⟩
 ·rw[htxt,Tr.toks_par]
  exact toks_brack hT
 ·intro a ha
  rw[Tr.toks_par]at ha
  simp only[List.mem_cons,List.mem_append,List.mem_nil_iff,or_false]at ha
  rcases ha with rfl | ha | rfl
  ·rfl
  ·exact S.may a ha
  ·rfl
 ·intro a ha hn
  rw[Tr.toks_par]at ha
  simp only[List.mem_cons,List.mem_append,List.mem_nil_iff,or_false]at ha
  rcases ha with rfl | ha | rfl
  ·exact absurd hn (show ¬ (nameT [40]=true) by decide)
  ·exact S.nam a ha hn
  ·exact absurd hn (show ¬ (nameT [41]=true) by decide)
 ·intro ps hps
  rw[Tr.toks_par,partSum,partSum_append,partSum,partSum]
  simp only
  rw[part_no hps (t:=[40]) (by decide),part_no hps (t:=[41]) (by decide),S.prt ps hps]
  simp only[show (([40]:Txt)==cOpen||([40]:Txt)==cClose)=true by decide,show (([41]:Txt)==cOpen||([41]:Txt)==cClose)=true by decide,if_true]
  omega
 ·have:=S.dep
  rw[if_neg (Nat.lt_irrefl _)]at this
  rw[depT_par,if_pos hb]
  omega
theorem sim_tree(t:Tr)(h:t.wf):(∀ a∈t.toks,TokT a.text∧mayT a.text=true)→∀ lv,lv≤6→∀ pos,∃ t',SimT t t' lv pos:=by
 refine Tr.ind (P:=fun t=>(∀ a∈t.toks,TokT a.text∧mayT a.text=true)→∀ lv,lv≤6→∀ pos,∃ t',SimT t t' lv pos) t h ?_ ?_ ?_ ?_
 ·intro a hw hm lv hlv pos
  obtain ⟨h1,h2⟩:=hm a (by rw[Tr.toks_leaf];simp)
  obtain ⟨s1,s2⟩:=Tr.wf_leaf hw
  have S:=short_of h1 h2 s1 s2
  refine ⟨Tr.leaf ⟨shortN a.text,pos⟩,⟨⟨rfl,rfl,rfl,rfl⟩,S.single,S.no⟩,by rw[Tr.level_leaf];exact hlv, ?_,fun env x y=>by rw[Tr.wor_leaf,Tr.wor_leaf];exact S.wor env x y pos a.at', ?_, ?_, ?_, ?_,by rw[depT_leaf];omega,fun lv2=>by rw[plainT_leaf,plainT_leaf];exact S.again⟩
  ·rw[plainT_leaf,Tr.toks_leaf]
   exact toks_one pos S.tok.ne S.tok.bl S.tok.run S.may
  ·intro c k hk
   rw[kindT_leaf]at hk ⊢
   simp only at hk ⊢
   rw[← hk]
   have hn:=S.name
   have hkk:=S.kind
   cases hx:nameT a.text with
   | true =>
    rw[hx]at hn
    rw[hn.1,hn.2 hn.1]
   | false =>
    rw[hx]at hn hkk
    rw[hn.1]at hkk ⊢
    simp only[Bool.false_eq_true,if_false]at hkk ⊢
    rw[hkk]
  ·intro b hb
   rw[Tr.toks_leaf,List.mem_singleton]at hb
   rw[hb];exact S.may
  ·intro b hb hn
   rw[Tr.toks_leaf,List.mem_singleton]at hb
   rw[hb]at hn
   refine ⟨a,by rw[Tr.toks_leaf];simp, ?_⟩
   rw[hb]
   exact (S.name.2 hn).symm
  ·intro ps hps
   rw[Tr.toks_leaf,Tr.toks_leaf,partSum,partSum,partSum,partSum]
   simp only
   cases hx:nameT a.text with
   | true=>rw[S.name.2 (S.name.1.trans hx)]
   | false =>
    have hy:=S.name.1.trans hx
    rw[part_no hps hy,part_no hps hx]
    have q1:(shortN a.text==cOpen||shortN a.text==cClose)=false:=by simpa using ⟨S.no.1,S.no.2.1⟩
    have q2:(a.text==cOpen||a.text==cClose)=false:=by simpa using ⟨s2.1,s2.2.1⟩
    rw[q1,q2]
 ·intro op e hw ih hm lv hlv pos
  obtain ⟨hu,hl6,hwe⟩:=Tr.wf_un hw
  obtain ⟨h1,h2⟩:=hm op (by rw[Tr.toks_un];simp)
  have hno:=un_no_name hu
  obtain ⟨q,hq⟩:∃ q,q=(if op.text==cMinus then pos+1 else pos+4):=⟨_,rfl⟩
  obtain ⟨e',S⟩:=ih (fun a ha=>hm a (by rw[Tr.toks_un];simp[ha])) 6 (Nat.le_refl _) q
  have hlv6:e'.level=6:=by have:=S.lev;have:=e'.level_le;omega
  have htk:Toks ((Tr.un op e).plainT lv) pos (⟨op.text,pos⟩ :: e'.toks):=by
   rw[plainT_un]
   have hu2:=hu
   unfold unT at hu2
   simp only[Bool.or_eq_true,beq_iff_eq]at hu2
   rcases hu2 with e1 | e1
   ·rw[e1]at hq ⊢
    have hT:=S.toks
    rw[hq]at hT
    exact toks_sign (by decide) hT
   ·rw[e1]at hq ⊢
    have hT:=S.toks
    rw[hq]at hT
    have hk:Toks ([110,111,116]++32 :: e.plainT 6) pos ([⟨[110,111,116],pos⟩]++e'.toks):=toks_app (toks_one pos (by decide) (by decide) (by decide) (by decide)) (toks_blank1 hT) ⟨32,_,rfl,rfl⟩
    exact hk
  refine ⟨Tr.un ⟨op.text,pos⟩ e',⟨⟨rfl,rfl,rfl⟩,hu,hlv6,S.wf⟩,by rw[Tr.level_un];exact hlv,by rw[Tr.toks_un];exact htk,fun env x y=>by rw[Tr.wor_un,Tr.wor_un,S.wor], ?_, ?_, ?_, ?_, ?_,fun lv2=>by rw[plainT_un,plainT_un,S.same]⟩
  ·intro c k hk
   rw[kindT_un]at hk ⊢
   cases hx:kindT c e with
   | error p=>rw[hx]at hk;cases hk
   | ok b =>
    rw[hx]at hk
    rw[S.kind c b hx]
    simp only at hk ⊢
    split at hk
    ·cases hk
    ·rename_i h0
     rw[if_neg h0]
     exact hk
  ·intro a ha
   rw[Tr.toks_un]at ha
   rcases List.mem_cons.1 ha with rfl | ha
   ·exact h2
   ·exact S.may a ha
  ·intro a ha hn
   rw[Tr.toks_un]at ha
   rcases List.mem_cons.1 ha with rfl | ha
   ·rw[show nameT op.text=false from hno]at hn;cases hn
   ·obtain ⟨b,hb,he⟩:=S.nam a ha hn
    exact ⟨b,by rw[Tr.toks_un];simp[hb],he⟩
  ·intro ps hps
   rw[Tr.toks_un,Tr.toks_un,partSum,partSum,S.prt ps hps]
  ·have:=S.dep
   rw[if_neg (by omega)]at this
   rw[depT_un,depT_un]
   omega
 ·intro op l r hw ihl ihr hm lv hlv pos
  obtain ⟨hb0,hc1,hc2,hbl,hbr,hwl,hwr⟩:=Tr.wf_bin hw
  obtain ⟨h1,h2⟩:=hm op (by rw[Tr.toks_bin];simp)
  have hno:=bin_no_name hb0
  have hb5:=bindsT_le op.text
  have main:∀ pos,∃ t',SimT (Tr.bin op l r) t' (Tr.bin op l r).level pos:=by
   intro pos
   obtain ⟨l',SL⟩:=ihl (fun a ha=>hm a (by rw[Tr.toks_bin];simp[ha])) (bindsT op.text) (by omega) pos
   obtain ⟨r',SR⟩:=ihr (fun a ha=>hm a (by rw[Tr.toks_bin];simp[ha])) (bindsT op.text+1) (by omega) (pos+(l.plainT (bindsT op.text)).length+1+op.text.length+1)
   have g1:=SL.lev
   have g2:=SR.lev
   have htk:=toks_join SL.toks h1.ne h1.bl h1.run h2 SR.toks
   refine ⟨Tr.bin ⟨op.text,pos+(l.plainT (bindsT op.text)).length+1⟩ l' r',⟨⟨rfl,rfl⟩,hb0,hc1,hc2,g1,by show bindsT op.text<r'.level;omega,SL.wf,SR.wf⟩,by rw[Tr.level_bin,Tr.level_bin];exact Nat.le_refl _, ?_,fun env x y=>by rw[Tr.wor_bin,Tr.wor_bin,SL.wor,SR.wor], ?_, ?_, ?_, ?_, ?_,fun lv2=>by rw[plainT_bin,plainT_bin,SL.same,SR.same]⟩
   ·rw[plainT_bin,Tr.level_bin,show decide (bindsT op.text<bindsT op.text)=false from decide_eq_false (Nat.lt_irrefl _),Tr.toks_bin]
    exact htk
   ·intro c k hk
    rw[kindT_bin]at hk ⊢
    cases hx:kindT c l with
    | error p=>rw[hx]at hk;cases hk
    | ok a =>
     cases hy:kindT c r with
     | error p=>rw[hx,hy]at hk;cases hk
     | ok b =>
      rw[hx,hy]at hk
      rw[SL.kind c a hx,SR.kind c b hy]
      simp only at hk ⊢
      split at hk
      ·cases hk
      ·rename_i h0
       rw[if_neg h0]
       exact hk
   ·intro a ha
    rw[Tr.toks_bin,List.mem_append,List.mem_cons]at ha
    rcases ha with ha | rfl | ha
    ·exact SL.may a ha
    ·exact h2
    ·exact SR.may a ha
   ·intro a ha hn
    rw[Tr.toks_bin,List.mem_append,List.mem_cons]at ha
    rcases ha with ha | rfl | ha
    ·obtain ⟨b,hb,he⟩:=SL.nam a ha hn
     exact ⟨b,by rw[Tr.toks_bin];simp[hb],he⟩
    ·rw[show nameT op.text=false from hno]at hn;cases hn
    ·obtain ⟨b,hb,he⟩:=SR.nam a ha hn
     exact ⟨b,by rw[Tr.toks_bin];simp[hb],he⟩
   ·intro ps hps
    rw[Tr.toks_bin,Tr.toks_bin,partSum_append,partSum_append,partSum,partSum,SL.prt ps hps,SR.prt ps hps]
   ·have d1:=SL.dep
    have d2:=SR.dep
    rw[if_neg (by omega)]at d1 d2
    rw[depT_bin,depT_bin,if_neg (Nat.lt_irrefl _)]
    omega
  by_cases hlt:bindsT op.text<lv
  ·obtain ⟨t',S⟩:=main (pos+1)
   exact sim_par (t:=Tr.bin op l r) (by rw[plainT_bin,decide_eq_true hlt]) hlt hlv S (by rw[plainT_bin,Tr.level_bin,show decide (bindsT op.text<bindsT op.text)=false from decide_eq_false (Nat.lt_irrefl _)];rfl)
  ·obtain ⟨t',S⟩:=main pos
   refine ⟨t',S.wf,by have:=S.lev;rw[Tr.level_bin]at this;omega, ?_,S.wor,S.kind,S.may,S.nam,S.prt, ?_,S.same⟩
   ·have hT:=S.toks
    rw[plainT_bin,Tr.level_bin,show decide (bindsT op.text<bindsT op.text)=false from decide_eq_false (Nat.lt_irrefl _)]at hT
    rw[plainT_bin,decide_eq_false hlt]
    exact hT
   ·have:=S.dep
    rw[if_neg (Nat.lt_irrefl _)]at this
    omega
 ·intro o e c hw ih hm lv hlv pos
  obtain ⟨ho,hc,hwe⟩:=Tr.wf_par hw
  obtain ⟨e',S⟩:=ih (fun a ha=>hm a (by rw[Tr.toks_par];simp[ha])) lv hlv pos
  refine ⟨e',S.wf,S.lev,by rw[plainT_par];exact S.toks,fun env x y=>by rw[Tr.wor_par];exact S.wor env x y,fun c k hk=>by rw[kindT_par]at hk;exact S.kind c k hk,S.may, ?_, ?_, ?_,fun lv2=>by rw[plainT_par];exact S.same lv2⟩
  ·intro a ha hn
   obtain ⟨b,hb,he⟩:=S.nam a ha hn
   exact ⟨b,by rw[Tr.toks_par];simp[hb],he⟩
  ·intro ps hps
   rw[Tr.toks_par,partSum,partSum_append,partSum,partSum,S.prt ps hps,ho,hc,part_no hps (t:=cOpen) (by decide),part_no hps (t:=cClose) (by decide)]
   simp only[show (cOpen==cOpen||cOpen==cClose)=true by decide,show (cClose==cOpen||cClose==cClose)=true by decide,if_true]
   omega
  ·have:=S.dep
   rw[depT_par,Tr.level_par]
   split at this <;> omega
def SimO:Option Tr→Option Tr→Prop
 | none,none=>True
 | some t,some t'=>∃ pos,SimT t t' 1 pos
 | _,_=>False
def SimS(s s':RSt):Prop :=
 (∃ kw name eq e semi kw' name' eq' e' semi' pos,s=RSt.letS kw name eq e semi∧s'=RSt.letS kw' name' eq' e' semi'∧name'.text=name.text∧SimT e e' 1 pos) ∨
 (∃ wh act sc semi wh' act' sc' semi',s=RSt.rule wh act sc semi∧s'=RSt.rule wh' act' sc' semi'∧SimO (wh.map Prod.snd) (wh'.map Prod.snd)∧SimO sc sc')
def SimL:List RSt→List RSt→Prop
 | [],[]=>True
 | s :: r,s' :: r'=>SimS s s'∧SimL r r'
 | _,_=>False
structure NewS(s':RSt)(txt:Txt)(pos:Nat):Prop where
 wf:s'.wf
 toks:ToksH txt pos s'.toks
 may:∀ a∈s'.toks,mayT a.text=true
theorem simO_same{o o':Option Tr}(h:SimO o o'):o'.map (fun e=>e.plainT 1)=o.map (fun e=>e.plainT 1):=by
 cases o <;> cases o' <;> first | rfl | exact h.elim | (obtain ⟨pos,S⟩:=h;simp[S.same])
theorem plainS_rule(wh:Option (RTok×Tr))(act:RTok)(sc:Option Tr)(semi:RTok):(RSt.rule wh act sc semi).plainS=ruleB ((wh.map Prod.snd).map (fun e=>e.plainT 1)) (sc.map (fun e=>e.plainT 1))++[59]:=by
 show whenP (wh.map Prod.snd)++actP sc=_
 cases wh <;> cases sc <;> simp[whenP,actP,ruleB,actB]
theorem simS_plain{s s':RSt}(h:SimS s s'):s'.plainS=s.plainS:=by
 rcases h with ⟨kw,name,eq,e,semi,kw',name',eq',e',semi',pos,rfl,rfl,hn,S⟩ | ⟨wh,act,sc,semi,wh',act',sc',semi',rfl,rfl,h1,h2⟩
 ·show cLet++32 :: (name'.text++32 :: (cEq++32 :: (e'.plainT 1++[59])))=cLet++32 :: (name.text++32 :: (cEq++32 :: (e.plainT 1++[59])))
  rw[hn,S.same]
 ·rw[plainS_rule,plainS_rule,simO_same h1,simO_same h2]
theorem simL_plain:∀ {l l':List RSt},SimL l l'→l'.map RSt.plainS=l.map RSt.plainS
 | [],[],_=>rfl
 | s :: r,s' :: r',h=>by rw[List.map_cons,List.map_cons,simS_plain h.1,simL_plain h.2]
 | [],_ :: _,h=>h.elim
 | _ :: _,[],h=>h.elim
theorem simL_length:∀ {l l':List RSt},SimL l l'→l'.length=l.length
 | [],[],_=>rfl
 | s :: r,s' :: r',h=>by rw[List.length_cons,List.length_cons,simL_length h.2]
 | [],_ :: _,h=>h.elim
 | _ :: _,[],h=>h.elim
theorem simL_let:∀ {l l':List RSt},SimL l l'→isLetL' l→isLetL' l'
 | [],[],_,_=>fun s hs=>by cases hs
 | s :: r,s' :: r',h,hl=>fun q hq=>by
  rcases List.mem_cons.1 hq with rfl | hq
  ·rcases h.1 with ⟨kw,name,eq,e,semi,kw',name',eq',e',semi',pos,_,rfl,_⟩ | ⟨wh,act,sc,semi,wh',act',sc',semi',rfl,_⟩
   ·rfl
   ·exact absurd (hl _ List.mem_cons_self) (by simp[RSt.isLet,RSt.rule])
  ·exact simL_let h.2 (fun z hz=>hl z (List.mem_cons_of_mem _ hz)) q hq
 | [],_ :: _,h,_=>h.elim
 | _ :: _,[],h,_=>h.elim
theorem simL_rule:∀ {l l':List RSt},SimL l l'→isRuleL' l→isRuleL' l'
 | [],[],_,_=>fun s hs=>by cases hs
 | s :: r,s' :: r',h,hl=>fun q hq=>by
  rcases List.mem_cons.1 hq with rfl | hq
  ·rcases h.1 with ⟨kw,name,eq,e,semi,kw',name',eq',e',semi',pos,rfl,_⟩ | ⟨wh,act,sc,semi,wh',act',sc',semi',_,rfl,_⟩
   ·exact absurd (hl _ List.mem_cons_self) (by simp[RSt.isLet,RSt.letS])
   ·rfl
  ·exact simL_rule h.2 (fun z hz=>hl z (List.mem_cons_of_mem _ hz)) q hq
 | [],_ :: _,h,_=>h.elim
 | _ :: _,[],h,_=>h.elim
theorem simO_kind{o o':Option Tr}(h:SimO o o'){c:List (Txt×Nat)}{want:Nat}(hk:exprK c want o=none):exprK c want o'=none:=by
 cases o <;> cases o' <;> first | rfl | exact h.elim | skip
 obtain ⟨pos,S⟩:=h
 rename_i t t'
 unfold exprK at hk ⊢
 simp only at hk ⊢
 cases hx:kindT c t with
 | error p=>rw[hx]at hk;cases hk
 | ok k =>
  rw[hx]at hk
  rw[S.kind c k hx]
  simp only at hk ⊢
  split at hk
  ·rename_i h0;rw[if_pos h0]
  ·cases hk
theorem simL_kindsL:∀ {l l':List RSt} {c c':List (Txt×Nat)},SimL l l'→letsK c l=.ok c'→letsK c l'=.ok c'
 | [],[],c,c',_,h=>h
 | s :: r,s' :: r',c,c',h,hk=>by
  rcases h.1 with ⟨kw,name,eq,e,semi,kw',name',eq',e',semi',pos,rfl,rfl,hn,S⟩ | ⟨wh,act,sc,semi,wh',act',sc',semi',rfl,rfl,_,_⟩
  ·cases hx:kindT c e with
   | error p=>rw[letsK_err hx]at hk;cases hk
   | ok k =>
    rw[letsK_ok hx]at hk
    rw[letsK_ok (S.kind c k hx),hn]
    exact simL_kindsL h.2 hk
  ·have hk':letsK c r=.ok c':=hk
   show letsK c r'=.ok c'
   exact simL_kindsL h.2 hk'
 | [],_ :: _,_,_,h,_=>h.elim
 | _ :: _,[],_,_,h,_=>h.elim
theorem simL_kindsR:∀ {l l':List RSt} {c:List (Txt×Nat)},SimL l l'→isRuleL' l→rulesK c l=none→rulesK c l'=none
 | [],[],c,_,_,h=>h
 | s :: r,s' :: r',c,h,hr,hk=>by
  rcases h.1 with ⟨kw,name,eq,e,semi,kw',name',eq',e',semi',pos,rfl,rfl,hn,S⟩ | ⟨wh,act,sc,semi,wh',act',sc',semi',rfl,rfl,h1,h2⟩
  ·exact absurd (hr _ List.mem_cons_self) (by simp[RSt.isLet,RSt.letS])
  ·cases hx:exprK c 2 (wh.map Prod.snd) with
   | some p=>rw[rulesK_w hx]at hk;cases hk
   | none =>
    cases hy:exprK c 1 sc with
    | some p=>rw[rulesK_s hx hy]at hk;cases hk
    | none =>
     rw[rulesK_n hx hy]at hk
     rw[rulesK_n (simO_kind h1 hx) (simO_kind h2 hy)]
     exact simL_kindsR h.2 (fun z hz=>hr z (List.mem_cons_of_mem _ hz)) hk
 | [],_ :: _,_,h,_,_=>h.elim
 | _ :: _,[],_,h,_,_=>h.elim
theorem partsGo_all(ps:List (Txt×Nat)):∀ (l:List RTok) (n:Nat),n≤150→partsGo ps n l=if n+partSum ps l≤150 then n+partSum ps l else 151
 | [],n,h=>by simp[partsGo,partSum,h]
 | t :: r,n,h=>by
  rw[partsGo,partSum]
  by_cases hx:n+partOne ps t.text>150
  ·rw[if_pos hx,if_neg (by omega)]
  ·rw[if_neg hx,partsGo_all ps r _ (by omega),Nat.add_assoc]
theorem simO_parts{o o':Option Tr}(h:SimO o o'){ps:List (Txt×Nat)}(hps:∀ q∈ps,nameT q.1=true):partsGo ps 0 (optToks o')=partsGo ps 0 (optToks o):=by
 cases o <;> cases o' <;> first | rfl | exact h.elim | skip
 obtain ⟨pos,S⟩:=h
 rename_i t t'
 show partsGo ps 0 t'.toks=partsGo ps 0 t.toks
 rw[partsGo_all _ _ _ (by omega),partsGo_all _ _ _ (by omega),S.prt ps hps]
theorem simL_sizes:∀ {l l':List RSt} {ps:List (Txt×Nat)},SimL l l'→(∀ s∈l,s.wf)→(∀ q∈ps,nameT q.1=true)→sizesGo ps l'=sizesGo ps l∧∀ q∈sizesGo ps l,nameT q.1=true
 | [],[],ps,_,_,hps=>⟨rfl,hps⟩
 | s :: r,s' :: r',ps,h,hw,hps=>by
  have hwr:∀ q∈r,q.wf:=fun z hz=>hw z (List.mem_cons_of_mem _ hz)
  rcases h.1 with ⟨kw,name,eq,e,semi,kw',name',eq',e',semi',pos,rfl,rfl,hn,S⟩ | ⟨wh,act,sc,semi,wh',act',sc',semi',rfl,rfl,_,_⟩
  ·have hnm:nameT name.text=true:=(hw _ List.mem_cons_self).2.1
   rw[sizesGo_let,sizesGo_let,hn]
   have e1:partsGo ps 0 e'.toks=partsGo ps 0 e.toks:=simO_parts (o:=some e) (o':=some e') ⟨pos,S⟩ hps
   rw[e1]
   exact simL_sizes h.2 hwr (fun q hq=>by
    rcases List.mem_append.1 hq with hq | hq
    ·exact hps q hq
    ·rw[List.mem_singleton.1 hq];exact hnm)
  ·show sizesGo ps r'=sizesGo ps r∧∀ q∈sizesGo ps r,nameT q.1=true
   exact simL_sizes h.2 hwr hps
 | [],_ :: _,_,h,_,_=>h.elim
 | _ :: _,[],_,h,_,_=>h.elim
theorem simL_parts:∀ {l l':List RSt} {ps:List (Txt×Nat)},SimL l l'→(∀ q∈ps,nameT q.1=true)→rulePartsGo ps l'=rulePartsGo ps l
 | [],[],ps,_,_=>rfl
 | s :: r,s' :: r',ps,h,hps=>by
  have ih:=simL_parts h.2 hps
  rcases h.1 with ⟨kw,name,eq,e,semi,kw',name',eq',e',semi',pos,rfl,rfl,hn,S⟩ | ⟨wh,act,sc,semi,wh',act',sc',semi',rfl,rfl,h1,h2⟩
  ·show 0+rulePartsGo ps r'=0+rulePartsGo ps r
   rw[ih]
  ·rw[rulePartsGo_rule,rulePartsGo_rule,simO_parts h1 hps,simO_parts h2 hps,ih]
 | [],_ :: _,_,h,_=>h.elim
 | _ :: _,[],_,h,_=>h.elim
theorem simL_env:∀ {l l':List RSt} {c:List (Txt×Wo)} (x:Itm) (y:Bn),SimL l l'→envS x y c l'=envS x y c l
 | [],[],c,x,y,_=>rfl
 | s :: r,s' :: r',c,x,y,h=>by
  rcases h.1 with ⟨kw,name,eq,e,semi,kw',name',eq',e',semi',pos,rfl,rfl,hn,S⟩ | ⟨wh,act,sc,semi,wh',act',sc',semi',rfl,rfl,_,_⟩
  ·rw[envS_let,envS_let,hn,S.wor]
   exact simL_env x y h.2
  ·show envS x y c r'=envS x y c r
   exact simL_env x y h.2
 | [],_ :: _,_,_,_,h=>h.elim
 | _ :: _,[],_,_,_,h=>h.elim
theorem simL_say:∀ {l l':List RSt} (env:Txt→Wo) (x:Itm) (y:Bn),SimL l l'→sayW env x y l'=sayW env x y l
 | [],[],env,x,y,_=>rfl
 | s :: r,s' :: r',env,x,y,h=>by
  have ih:=simL_say env x y h.2
  rcases h.1 with ⟨kw,name,eq,e,semi,kw',name',eq',e',semi',pos,rfl,rfl,hn,S⟩ | ⟨wh,act,sc,semi,wh',act',sc',semi',rfl,rfl,h1,h2⟩
  ·show sayW env x y r'=sayW env x y r
   exact ih
  ·rw[sayW_rule,sayW_rule,ih]
   have ha:actW env x y sc'=actW env x y sc:=by
    cases sc <;> cases sc' <;> first | rfl | exact h2.elim | skip
    obtain ⟨pos,S⟩:=h2
    simp only[actW,S.wor]
   unfold sayD
   cases wh with
   | none =>
    cases wh' with
    | none=>exact ha
    | some p'=>exact h1.elim
   | some p =>
    cases wh' with
    | none=>exact h1.elim
    | some p' =>
     obtain ⟨pos,S⟩:=(show ∃ pos,SimT p.2 p'.2 1 pos from h1)
     simp only[S.wor,ha]
 | [],_ :: _,_,_,_,h=>h.elim
 | _ :: _,[],_,_,_,h=>h.elim
end Go.Proofs.YtpcjadaeolkngaaGreatDoor
