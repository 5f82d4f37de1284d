/-
  What the rules say, by their trees, and that the image's rows end so, with no more steps.
-/
import Derived.Test.YtpcjadaeolkngaaGreatDoorJ31
set_option linter.unusedVariables false
set_option linter.unusedSimpArgs false
namespace Go.Proofs.YtpcjadaeolkngaaGreatDoor
open Go.Deep
theorem oneP_pos(n:Nat)(p:PB)(h:1≤p.steps):1≤(oneP n p).steps:=by
 unfold oneP
 (repeat' split) <;> first | exact h | (simp only;omega)
theorem twoP_pos(n:Nat)(p q:PB)(h:1≤p.steps):1≤(twoP n p q).steps:=by
 unfold twoP
 (repeat' split) <;> first | exact h | (simp only;omega)
theorem choiceP_pos(n:Nat)(p a b:PB)(h:1≤p.steps):1≤(choiceP n p a b).steps:=by
 unfold choiceP
 (repeat' split) <;> first | exact h | (simp only;omega)
theorem pb_pos(fs:List Fact)(ls:List PLet)(N:List PNode)(x:Itm)(y:Bn):∀ (f:Nat) (i:Int),1≤(pbI fs ls N x y f i).steps
 | 0,i=>Nat.le_refl _
 | f+1,i=>by
  rw[pbI]
  split
  ·exact Nat.le_refl _
  ·split
   ·exact Nat.le_refl _
   ·split
    ·exact oneP_pos _ _ (pb_pos fs ls N x y f _)
    ·split
     ·exact choiceP_pos _ _ _ _ (pb_pos fs ls N x y f _)
     ·split
      ·exact twoP_pos _ _ _ (pb_pos fs ls N x y f _)
      ·split
       ·exact pb_pos fs ls N x y f _
       ·exact Nat.le_refl _
def actW(env:Txt→Wo)(x:Itm)(y:Bn):Option Tr→Nat×Int×Nat
 | none=>(0,0,1)
 | some e=>if (e.wor env x y).flt≠0 then (2,((e.wor env x y).flt:Int),(e.wor env x y).steps) else (1,(e.wor env x y).v,(e.wor env x y).steps+1)
def whenW(w:Wo):Nat:=if w.fix=true∧w.flt=0 then 0 else w.steps+1
def sayD(env:Txt→Wo)(x:Itm)(y:Bn)(d:RuleD)(rest:Nat×Int×Nat):Nat×Int×Nat :=
 match d.wh with
 | none=>actW env x y d.sc
 | some p =>
  if (p.2.wor env x y).flt≠0 then (2,((p.2.wor env x y).flt:Int),(p.2.wor env x y).steps)
  else if (p.2.wor env x y).v=0 then (rest.1,rest.2.1,whenW (p.2.wor env x y)+rest.2.2)
  else ((actW env x y d.sc).1,(actW env x y d.sc).2.1,whenW (p.2.wor env x y)+(actW env x y d.sc).2.2)
def sayW(env:Txt→Wo)(x:Itm)(y:Bn):List RSt→Nat×Int×Nat
 | []=>(0,0,1)
 | s :: r=>Sum.elim (fun _:LetD=>sayW env x y r) (fun d:RuleD=>sayD env x y d (sayW env x y r)) s
theorem sayW_rule(env:Txt→Wo)(x:Itm)(y:Bn)(wh:Option (RTok×Tr))(act:RTok)(sc:Option Tr)(semi:RTok)(r:List RSt):sayW env x y (RSt.rule wh act sc semi :: r)=sayD env x y ⟨wh,act,sc,semi⟩ (sayW env x y r):=rfl
structure AtMost(a b:Nat×Int×Nat):Prop where
 kind:a.1=b.1
 val:a.2.1=b.2.1
 pos:1≤a.2.2
 two:a.1=1→2≤a.2.2
 le:a.2.2≤b.2.2
section
variable {ls:List PLet} {N:List PNode} {x:Itm} {y:Bn}
theorem rootP_w(hR:RefsOk ls (factsP ls N) N)(hT:TruthsOk ls N x y){e:PExp}{i:Nat}{w:Wo}(hi:e.behind=i+1)(hlt:i<N.length)(h:RootW ls N x y i w) :
  (rootP ls N x y e).flt=w.flt∧(w.flt=0→(rootP ls N x y e).v=w.v)∧(rootP ls N x y e).steps≤w.steps∧1≤(rootP ls N x y e).steps:=by
 unfold rootP
 rw[hi,show (((i+1:Nat):Int)-1)=(i:Int) by omega]
 obtain ⟨e1,e2⟩:=pb_ev x y hR hT N.length i hlt hlt
 rw[h.ev _ hlt]at e1 e2
 exact ⟨e1,e2,h.steps _ hlt,pb_pos _ _ _ _ _ _ _⟩
theorem lies_lt{b:Nat}{l:List PNode}(h:LiesAt N b l)(hp:0<l.length):b+l.length-1<N.length:=by
 obtain ⟨n,hn⟩:∃ n,l[l.length-1]?=some n:=⟨l[l.length-1],List.getElem?_eq_getElem (by omega)⟩
 have:=(List.getElem?_eq_some_iff.1 (h _ n hn)).1
 omega
theorem act_say(hR:RefsOk ls (factsP ls N) N)(hT:TruthsOk ls N x y)(hm:∀ n∈N,mayT n.tok.text=true)(env:Txt→Wo)(sc:Option Tr)(hw:∀ e,sc=some e→e.wf)(b:Nat)(hl:LiesAt N b (optNodes b sc))
  (he:∀ n∈optNodes b sc,n.ops=0→kindP n.tok.text=2→RootW ls N x y (meantI ls n.tok.text).toNat (env n.tok.text)) (hw':Bool) (wn:PExp):AtMost (actR ls N x y ⟨hw',wn,sc.isSome,optE b sc⟩) (actW env x y sc):=by
 cases sc with
 | none=>exact ⟨rfl,rfl,Nat.le_refl _,(fun h=>by cases h),Nat.le_refl _⟩
 | some e =>
  have hwe:=hw e rfl
  have hp:=e.num_pos hwe
  have hlen:=e.flat_len hwe b
  have ht:=tree_w hR hT hm env e hwe b hl he
  have hlt:=lies_lt (l:=e.flat b) hl (by omega)
  rw[hlen]at hlt
  obtain ⟨e1,e2,e3,e4⟩:=rootP_w hR hT (e:=optE b (some e)) (i:=b+e.num-1) (by show b+e.num=_;omega) hlt ht
  unfold actR actW
  simp only[Option.isSome_some,if_true]
  by_cases hf:(e.wor env x y).flt=0
  ·rw[if_pos (by rw[e1];exact hf),if_neg (by omega),e2 hf]
   exact ⟨rfl,rfl,by simp only;omega,fun _=>by simp only;omega,by simp only;omega⟩
  ·rw[if_neg (by rw[e1];exact hf),if_pos hf,e1]
   exact ⟨rfl,rfl,by simp only;omega,(fun h=>by cases h),by simp only;omega⟩
theorem rules_say(hR:RefsOk ls (factsP ls N) N)(hT:TruthsOk ls N x y)(hm:∀ n∈N,mayT n.tok.text=true)(env:Txt→Wo):∀ (R:List RSt),isRuleL' R→(∀ s∈R,s.wf)→∀ b,LiesAt N b (nodesS b R) →
  (∀ n∈nodesS b R,n.ops=0→kindP n.tok.text=2→RootW ls N x y (meantI ls n.tok.text).toNat (env n.tok.text))→AtMost (tailR ls N x y (rulesS b R)) (sayW env x y R)
 | [],_,_,_,_,_=>⟨rfl,rfl,Nat.le_refl _,(fun h=>by cases h),Nat.le_refl _⟩
 | s :: r,hru,hw,b,hl,he=>by
  rw[nodesS]at hl he
  have hlen:=s.nodes_len (hw s List.mem_cons_self) b
  have hrest:=hl.right
  rw[hlen]at hrest
  have ih:=rules_say hR hT hm env r (fun q hq=>hru q (List.mem_cons_of_mem _ hq)) (fun q hq=>hw q (List.mem_cons_of_mem _ hq)) (b+s.num) hrest (fun n hn=>he n (List.mem_append_right _ hn))
  rcases s.cases with ⟨kw,name,eq,e,semi,rfl⟩ | ⟨wh,act,sc,semi,rfl⟩
  ·exact absurd (show true=false from hru _ List.mem_cons_self) (by decide)
  ·have hws:=hw _ List.mem_cons_self
   rw[rulesS,RSt.rules_rule,sayW_rule]
   generalize hq:tailR ls N x y (rulesS (b+(RSt.rule wh act sc semi).num) r)=tl at ih
   generalize hs':sayW env x y r=sl at ih
   have hwf:∀ e,wh.map Prod.snd=some e→e.wf:=fun e he=>by
    cases wh with
    | none=>cases he
    | some p=>cases he;exact (hws.1 p.1 p.2 rfl).2
   have hl1:=hl.left
   rw[RSt.nodes_rule]at hl1 he
   have ho:=optNodes_len (wh.map Prod.snd) hwf b
   have hl2:=hl1.right
   rw[ho]at hl2
   have hact:=fun (h':Bool) (wn:PExp)=>act_say hR hT hm env sc hws.2.2.1 (b+optNum (wh.map Prod.snd)) hl2 (fun n hn=>he n (List.mem_append_left _ (List.mem_append_right _ hn))) h' wn
   rw[List.singleton_append,tailR,hq]
   cases wh with
   | none =>
    rw[if_pos (show appliesF (factsP ls N) ⟨(none:Option (RTok×Tr)).isSome,optE b (Option.map Prod.snd none),sc.isSome,optE (b+optNum (Option.map Prod.snd none)) sc⟩=2 from rfl)]
    exact hact _ _
   | some p =>
    obtain ⟨kw,e⟩:=p
    have hwe:=hwf e rfl
    have hp:=e.num_pos hwe
    have hfl:=e.flat_len hwe b
    have ht:=tree_w hR hT hm env e hwe b hl1.left (fun n hn=>he n (List.mem_append_left _ (List.mem_append_left _ hn)))
    have hlt:=lies_lt (l:=e.flat b) hl1.left (by omega)
    rw[hfl]at hlt
    have hbe:(optE b ((some (kw,e)).map Prod.snd)).behind=b+e.num-1+1:=by show b+e.num=_;omega
    obtain ⟨e1,e2,e3,e4⟩:=rootP_w hR hT (e:=optE b ((some (kw,e)).map Prod.snd)) (i:=b+e.num-1) hbe hlt ht
    have ha:=hact true (optE b ((some (kw,e)).map Prod.snd))
    have hix:((optE b ((some (kw,e)).map Prod.snd)).behind:Int)-1=((b+e.num-1:Nat):Int):=by rw[hbe];omega
    have hap:appliesF (factsP ls N) ⟨(some (kw,e)).isSome,optE b ((some (kw,e)).map Prod.snd),sc.isSome,optE (b+optNum ((some (kw,e)).map Prod.snd)) sc⟩=match atF (factsP ls N) ((b+e.num-1:Nat):Int) with
      | none=>1
      | some v=>if v=0 then 0 else 2:=by
     unfold appliesF
     simp only[Option.isSome_some,if_true]
     rw[hix]
     cases atF (factsP ls N) ((b+e.num-1:Nat):Int) <;> rfl
    unfold sayD
    simp only
    generalize hW:e.wor env x y=W at *
    have hwl:whenW W=0∨whenW W=W.steps+1:=by unfold whenW;split <;> simp
    cases hfa:atF (factsP ls N) ((b+e.num-1:Nat):Int) with
    | some v =>
     rw[hfa]at hap
     simp only at hap
     have hv:=ht.ev _ hlt
     rw[fact_ev x y hR _ _ v hlt hfa]at hv
     obtain ⟨hv1,hv2⟩:=Prod.mk.inj hv
     by_cases h0:v=0
     ·rw[if_pos h0]at hap
      rw[hap,if_neg (by omega),if_neg (by omega),if_neg (by omega),if_pos (by omega)]
      exact ⟨ih.kind,ih.val,ih.pos,ih.two,by have:=ih.le;simp only;omega⟩
     ·rw[if_neg h0]at hap
      rw[hap,if_pos rfl,if_neg (by omega),if_neg (by omega)]
      exact ⟨ha.kind,ha.val,ha.pos,ha.two,by have:=ha.le;simp only[Option.isSome_some]at *;omega⟩
    | none =>
     rw[hfa]at hap
     simp only at hap
     rw[hap,if_neg (by omega),if_pos rfl,e1]
     have hnk:W.flt=0→whenW W=W.steps+1:=fun h0=>by
      unfold whenW
      rw[if_neg (fun hh=>by rw[ht.known hh.1 hh.2]at hfa;cases hfa)]
     by_cases hf:W.flt=0
     ·rw[if_neg (show ¬ (W.flt≠0) by omega),if_neg (show ¬ (W.flt≠0) by omega),e2 hf,hnk hf]
      by_cases h0:W.v=0
      ·rw[if_pos h0,if_pos h0]
       exact ⟨ih.kind,ih.val,by simp only;omega,fun hh=>by have:=ih.pos;simp only;omega,by have:=ih.le;simp only;omega⟩
      ·rw[if_neg h0,if_neg h0]
       exact ⟨ha.kind,ha.val,by simp only;omega,fun hh=>by have:=ha.pos;simp only[Option.isSome_some]at *;omega,by have:=ha.le;simp only[Option.isSome_some]at *;omega⟩
     ·rw[if_pos hf,if_pos hf]
      exact ⟨rfl,rfl,e4,(fun hh=>by cases hh),e3⟩
end
def lookW(c:List (Txt×Wo))(t:Txt):Wo:=match c[c.findIdx (fun q=>q.1==t)]? with
 | some q=>q.2
 | none=>⟨0,0,1,true⟩
def envS(x:Itm)(y:Bn):List (Txt×Wo)→List RSt→List (Txt×Wo)
 | c,[]=>c
 | c,s :: r=>envS x y (Sum.elim (fun d:LetD=>c++[(d.name.text,d.e.wor (lookW c) x y)]) (fun _:RuleD=>c) s) r
theorem envS_let(x:Itm)(y:Bn)(c:List (Txt×Wo))(kw name eq:RTok)(e:Tr)(semi:RTok)(r:List RSt):envS x y c (RSt.letS kw name eq e semi :: r)=envS x y (c++[(name.text,e.wor (lookW c) x y)]) r:=rfl
structure EnvOk(ls:List PLet)(N:List PNode)(x:Itm)(y:Bn)(c:List (Txt×Wo)):Prop where
 len:c.length≤ls.length
 at':∀ (k:Nat) (p:PLet) (q:Txt×Wo),ls[k]?=some p→c[k]?=some q→q.1=p.name.text∧RootW ls N x y (p.val.behind-1) q.2
theorem ix_same(t:Txt):∀ (c:List (Txt×Wo)) (ls:List PLet),(∀ (k:Nat) (p:PLet) (q:Txt×Wo),ls[k]?=some p→c[k]?=some q→q.1=p.name.text)→letIx ls t<c.length→c.length≤ls.length→c.findIdx (fun q=>q.1==t)=letIx ls t
 | [],ls,_,h,_=>by cases h
 | q :: c,[],_,_,h=>by cases h
 | q :: c,p :: ls,hn,h,hl=>by
  have h0:=hn 0 p q rfl rfl
  unfold letIx at h ⊢
  rw[List.findIdx_cons]at h ⊢
  rw[List.findIdx_cons]
  rw[h0]
  cases hb:(p.name.text==t) with
  | true=>rfl
  | false =>
   rw[hb]at h
   simp only[cond_false,List.length_cons]at h hl ⊢
   have:=ix_same t c ls (fun k p' q' h1 h2=>hn (k+1) p' q' h1 h2) (by unfold letIx;omega) (by omega)
   unfold letIx at this
   rw[this]
section
variable {ls:List PLet} {N:List PNode} {x:Itm} {y:Bn}
theorem env_look{c:List (Txt×Wo)}(h:EnvOk ls N x y c){t:Txt}(hlt:letIx ls t<c.length)(h0:0≤meantI ls t):RootW ls N x y (meantI ls t).toNat (lookW c t):=by
 have hi:=ix_same t c ls (fun k p q h1 h2=>(h.at' k p q h1 h2).1) hlt h.len
 have hl:=h.len
 have hp:ls[letIx ls t]?=some (ls[letIx ls t]'(by omega)):=List.getElem?_eq_getElem (by omega)
 have hq:c[letIx ls t]?=some (c[letIx ls t]):=List.getElem?_eq_getElem hlt
 have:=(h.at' _ _ _ hp hq).2
 unfold meantI at h0 ⊢
 unfold lookW
 rw[hi,hq]
 rw[hp]at h0 ⊢
 simp only at h0 ⊢
 rw[show (((ls[letIx ls t]'(by omega)).val.behind:Int)-1).toNat=(ls[letIx ls t]'(by omega)).val.behind-1 by omega]
 exact this
theorem meant_some{t:Txt}(h0:0≤meantI ls t):∃ p,ls[letIx ls t]?=some p∧meantI ls t=(p.val.behind:Int)-1∧letIx ls t<ls.length:=by
 unfold meantI at h0 ⊢
 cases hp:ls[letIx ls t]? with
 | none=>rw[hp]at h0;simp only at h0;omega
 | some p=>exact ⟨p,rfl,rfl,(List.getElem?_eq_some_iff.1 hp).1⟩
theorem env_lets(hR:RefsOk ls (factsP ls N) N)(hT:TruthsOk ls N x y)(hm:∀ n∈N,mayT n.tok.text=true)(hna:NamesAhead ls N)(hc:ConsL 0 ls):∀ (B A:List RSt) (c:List (Txt×Wo)),isLetL' A→isLetL' B→(∀ s∈B,s.wf)→ls=letsS 0 (A++B)→LiesAt N (numS A) (nodesS (numS A) B)→c.length=A.length→EnvOk ls N x y c →
  EnvOk ls N x y (envS x y c B)∧(envS x y c B).length=ls.length
 | [],A,c,hA,hB,hw,hls,hl,hlen,hE=>by
  refine ⟨hE, ?_⟩
  have h1:=lets_len A hA 0
  rw[hls,List.append_nil,h1]
  exact hlen
 | s :: B,A,c,hA,hB,hw,hls,hl,hlen,hE=>by
  rcases s.cases with ⟨kw,name,eq,e,semi,rfl⟩ | ⟨wh,act,sc,semi,rfl⟩
  ·have hwe:=(hw _ List.mem_cons_self).2.2.2.1
   have hp:=e.num_pos hwe
   have hfl:=e.flat_len hwe (numS A)
   have hlA:=lets_len A hA 0
   rw[nodesS,RSt.nodes_let,RSt.num_let]at hl
   have hls2:ls=letsS 0 A++⟨name,layE (numS A) e⟩ :: letsS (numS A+e.num) B:=by
    rw[hls,letsS_append,Nat.zero_add,letsS,RSt.lets_let,RSt.num_let]
    rfl
   have hat:ls[A.length]?=some ⟨name,layE (numS A) e⟩:=by
    rw[hls2,List.getElem?_append_right (by omega),hlA,Nat.sub_self]
    rfl
   have hAl:A.length<ls.length:=(List.getElem?_eq_some_iff.1 hat).1
   have hroot:RootW ls N x y (numS A+e.num-1) (e.wor (lookW c) x y):=by
    refine tree_w hR hT hm (lookW c) e hwe (numS A) hl.left (fun n hn h0 hk=>?_)
    obtain ⟨k,hk2⟩:=List.mem_iff_getElem?.1 hn
    have hkl:=(List.getElem?_eq_some_iff.1 hk2).1
    obtain ⟨m0,m1⟩:=hna _ n (hl.left k n hk2) h0 hk
    obtain ⟨p',hp',hme,hpl⟩:=meant_some m0
    refine env_look hE ?_ m0
    rw[hlen]
    rcases Nat.lt_trichotomy (letIx ls n.tok.text) A.length with h | h | h
    ·exact h
    ·rw[h,hat]at hp'
     have:=Option.some.inj hp'
     rw[← this]at hme
     simp only[layE]at hme
     omega
    ·have h1:=consL_ord ls 0 hc _ _ _ _ h hp' hat
     have h2:=consL_le ls 0 hc _ _ hp'
     simp only[layE]at h1
     omega
   rw[envS_let]
   have hrest:=hl.right
   rw[hfl]at hrest
   have hnum:numS (A++[RSt.letS kw name eq e semi])=numS A+e.num:=by
    rw[numS_append]
    show numS A+(e.num+0)=_
    omega
   refine env_lets hR hT hm hna hc B (A++[RSt.letS kw name eq e semi]) _ ?_ (fun q hq=>hB q (List.mem_cons_of_mem _ hq)) (fun q hq=>hw q (List.mem_cons_of_mem _ hq)) ?_ ?_ ?_ ?_
   ·intro q hq
    rcases List.mem_append.1 hq with hq | hq
    ·exact hA q hq
    ·rw[List.mem_singleton.1 hq];rfl
   ·rw[hls];simp
   ·rw[hnum];exact hrest
   ·simp[hlen]
   ·refine ⟨by simp[hlen];omega,fun k p q h1 h2=>?_⟩
    rcases get_append h2 with ⟨_,h3⟩ | ⟨h3,h4⟩
    ·exact hE.at' k p q h1 h3
    ·obtain ⟨h5,h6⟩:=get_single h4
     obtain rfl:k=A.length:=by omega
     rw[hat]at h1
     obtain rfl:=Option.some.inj h1
     rw[← h6]
     exact ⟨rfl,hroot⟩
  ·exact absurd (show false=true from hB _ List.mem_cons_self) (by decide)
end
def saysP(x:Itm)(y:Bn)(L R:List RSt):Nat×Int×Nat:=sayW (lookW (envS x y [] L)) x y R
theorem policy_says{s:Txt}{L R:List RSt}(h:PolicyOf s L R)(hN:(nodesS 0 (L++R)).length≤401)(he:errsOf (nodesS 0 (L++R)) (letsS 0 (L++R)) (rulesS 0 (L++R))=(0,0))(x:Itm)(y:Bn) :
  AtMost (tailR (letsS 0 (L++R)) (nodesS 0 (L++R)) x y (rulesS 0 (L++R))) (saysP x y L R):=by
 obtain ⟨hR,hT,hK⟩:=truths_ok h hN he x y
 unfold errsOf at he
 split at he
 ·cases he
 rename_i hnm
 have hna:=names_ahead h hN hnm
 have hf:=fits_of h hN
 have hmay:=hf.x.may
 have hwL:∀ s∈L,s.wf:=fun s hs=>h.wf s (by simp[hs])
 have hwR:∀ s∈R,s.wf:=fun s hs=>h.wf s (by simp[hs])
 have h1:letsS 0 (L++R)=letsS 0 L:=by rw[letsS_append,lets_none R h.rules,List.append_nil]
 have h2:rulesS 0 (L++R)=rulesS (numS L) R:=by rw[rulesS_append,rules_none L h.lets,List.nil_append,Nat.zero_add]
 have hc:=(cons_lets L hwL h.lets 0).1
 rw[← h1]at hc
 have hl0:LiesAt (nodesS 0 (L++R)) 0 (nodesS 0 (L++R)):=fun k n hk=>by rw[Nat.zero_add];exact hk
 have hl1:LiesAt (nodesS 0 (L++R)) 0 (nodesS 0 L++nodesS (numS L) R):=by
  have e:=nodesS_append L R 0
  rw[Nat.zero_add]at e
  rw[← e];exact hl0
 have hlL:=hl1.left
 have hlR:=hl1.right
 rw[nodesS_len L hwL 0,Nat.zero_add]at hlR
 obtain ⟨hE,hEl⟩:=env_lets (x:=x) (y:=y) hR hT hmay hna hc L [] [] (fun s hs=>by cases hs) h.lets hwL h1 hlL rfl ⟨Nat.zero_le _,fun k p q _ hq=>by simp at hq⟩
 rw[h2]
 refine rules_say hR hT hmay _ R h.rules hwR (numS L) hlR (fun n hn h0 hk=>?_)
 obtain ⟨k,hk2⟩:=List.mem_iff_getElem?.1 hn
 obtain ⟨m0,m1⟩:=hna _ n (hlR k n hk2) h0 hk
 obtain ⟨p',hp',hme,hpl⟩:=meant_some m0
 exact env_look hE (by omega) m0
theorem policy_runs{s:Txt}{L R:List RSt}(h:PolicyOf s L R)(hN:(nodesS 0 (L++R)).length≤401)(he:errsOf (nodesS 0 (L++R)) (letsS 0 (L++R)) (rulesS 0 (L++R))=(0,0)){x:Itm}{y:Bn}(hx:x.Ok)(hy:y.Ok) :
  AtMost (runM (bsN (imageC (nodesS 0 (L++R)) (letsS 0 (L++R)) (rulesS 0 (L++R)))) x y ((bsN (imageC (nodesS 0 (L++R)) (letsS 0 (L++R)) (rulesS 0 (L++R)))).size+1) 3 [] 0) (saysP x y L R):=by
 rw[(policy_image h hN he hx hy).run]
 exact policy_says h hN he x y
def stopC(c:UInt8):Bool:=c==32||c==41||c==59
def stopB:Txt→Prop
 | []=>True
 | c :: _=>stopC c=true
theorem same_stop(a:UInt8){c:UInt8}(h:stopC c=true):sameC a c=false:=by
 unfold stopC at h
 simp only[Bool.or_eq_true,beq_iff_eq]at h
 rcases h with (rfl | rfl) | rfl <;> simp[sameC,isDig,isLet]
def Toks(t:Txt)(pos:Nat)(l:List RTok):Prop:=∀ rest,stopB rest→toksR (t++rest) pos=preR l (toksR rest (pos+t.length))
theorem toks_nil(pos:Nat):Toks [] pos []:=fun rest _=>by rw[preR_nil];rfl
theorem toks_blank1{r:Txt}{pos:Nat}{l:List RTok}(h:Toks r (pos+1) l):Toks (32 :: r) pos l:=fun rest hr=>by
 rw[List.cons_append,toksR_cons,if_pos (by decide),h rest hr,List.length_cons]
 congr 2
 omega
theorem runLen_stop:∀ (t:Txt) (rest:Txt),t≠[]→runLen t=t.length→stopB rest→runLen (t++rest)=t.length
 | [],_,h,_,_=>absurd rfl h
 | [a],[],_,_,_=>rfl
 | [a],c :: r,_,_,hs=>by
  rw[List.cons_append,List.nil_append,runLen,same_stop a hs]
  rfl
 | a :: b :: t,rest,_,hl,hs=>by
  rw[runLen]at hl
  have hle:=runLen_le (b :: t)
  cases hc:sameC a b with
  | false=>rw[hc]at hl;simp at hl
  | true =>
   rw[hc]at hl
   simp only[if_true,List.length_cons]at hl hle
   have:=runLen_stop (b :: t) rest (by simp) (by simp only[List.length_cons];omega) hs
   rw[List.cons_append,List.cons_append,runLen,hc,if_pos rfl,← List.cons_append,this]
   rfl
theorem toks_one{t:Txt}(pos:Nat)(h0:t≠[])(hb:blankC (headC t)=false)(hl:runLen t=t.length)(hm:mayT t=true):Toks t pos [⟨t,pos⟩]:=fun rest hr=>by
 cases t with
 | nil=>exact absurd rfl h0
 | cons c r =>
  have hrun:=runLen_stop (c :: r) rest h0 hl hr
  rw[List.cons_append]at hrun ⊢
  rw[toksR_cons,hrun,if_neg (by rw[show blankC c=false from hb];decide)]
  have ht:(c :: (r++rest)).take (c :: r).length=c :: r:=by rw[← List.cons_append,List.take_left'];rfl
  have hd:(c :: (r++rest)).drop (c :: r).length=rest:=by rw[← List.cons_append,List.drop_left'];rfl
  rw[ht,hd,if_pos hm]
  cases toksR rest (pos+(c :: r).length) <;> rfl
def hardC(c:UInt8):Bool:=!isDig c&&!isLet c&&!(c==60)&&!(c==33)&&!(blankC c)&&signT [c]
theorem hard_same{c:UInt8}(h:hardC c=true)(b:UInt8):sameC c b=false:=by
 unfold hardC at h
 simp only[Bool.and_eq_true,Bool.not_eq_true']at h
 obtain ⟨⟨⟨⟨⟨h1,h2⟩,h3⟩,h4⟩,h5⟩,h6⟩:=h
 simp[sameC,h1,h2,h3,h4]
theorem toks_hard{c:UInt8}(h:hardC c=true)(r:Txt)(pos:Nat):toksR (c :: r) pos=preR [⟨[c],pos⟩] (toksR r (pos+1)):=by
 have hs:=hard_same h
 unfold hardC at h
 simp only[Bool.and_eq_true,Bool.not_eq_true']at h
 obtain ⟨⟨⟨⟨⟨h1,h2⟩,h3⟩,h4⟩,h5⟩,h6⟩:=h
 have hr:runLen (c :: r)=1:=by
  cases r with
  | nil=>rfl
  | cons b r=>rw[runLen,hs b];rfl
 have hm:mayT [c]=true:=by
  unfold mayT
  rw[show headC [c]=c from rfl,h1,h2]
  simpa using h6
 rw[toksR_cons,h5,hr]
 simp only[Bool.false_eq_true,if_false,List.take_succ_cons,List.take_zero,List.drop_succ_cons,List.drop_zero,hm,if_true]
 cases toksR r (pos+1) <;> rfl
theorem toks_sign{c:UInt8}(h:hardC c=true){r:Txt}{pos:Nat}{l:List RTok}(hr:Toks r (pos+1) l):Toks (c :: r) pos (⟨[c],pos⟩ :: l):=fun rest hs=>by
 rw[List.cons_append,toks_hard h,hr rest hs,preR_app,List.length_cons,List.singleton_append]
 congr 2
 omega
theorem toks_app{a b:Txt}{pos:Nat}{l m:List RTok}(ha:Toks a pos l)(hb:Toks b (pos+a.length) m)(hs:∃ c r,b=c :: r∧stopC c=true):Toks (a++b) pos (l++m):=fun rest hr=>by
 obtain ⟨c,r,rfl,hc⟩:=hs
 rw[List.append_assoc,ha ((c :: r)++rest) hc,hb rest hr,preR_app,List.length_append,Nat.add_assoc]
theorem toks_join{a b op:Txt}{pos:Nat}{l m:List RTok}(ha:Toks a pos l)(h0:op≠[])(hbl:blankC (headC op)=false)(hl:runLen op=op.length)(hm:mayT op=true)(hb:Toks b (pos+a.length+1+op.length+1) m) :
  Toks (a++32 :: (op++32 :: b)) pos (l++⟨op,pos+a.length+1⟩ :: m) :=
 toks_app ha (toks_blank1 (toks_app (toks_one _ h0 hbl hl hm) (toks_blank1 hb) ⟨32,b,rfl,rfl⟩)) ⟨32,_,rfl,rfl⟩
theorem toks_brack{a:Txt}{pos:Nat}{l:List RTok}(ha:Toks a (pos+1) l):Toks (40 :: (a++[41])) pos (⟨[40],pos⟩ :: (l++[⟨[41],pos+1+a.length⟩])) :=
 toks_sign (by decide) (toks_app ha (toks_sign (by decide) (toks_nil _)) ⟨41,[],rfl,rfl⟩)
theorem toks_brack2{a:Txt}{pos:Nat}{l:List RTok}(ha:Toks a (pos+2) l):Toks (40 :: 32 :: (a++[41])) pos (⟨[40],pos⟩ :: (l++[⟨[41],pos+2+a.length⟩])) :=
 toks_sign (by decide) (toks_blank1 (toks_app ha (toks_sign (by decide) (toks_nil _)) ⟨41,[],rfl,rfl⟩))
structure Ctx where
 c:List (Txt×Wo)
 kn:List (Txt×Nat)
 nms:List Txt
 ps:List (Txt×Nat)
 x:Itm
 y:Bn
structure Ctx.Ok(E:Ctx):Prop where
 ps:∀ q∈E.ps,nameT q.1=true
def partSum(ps:List (Txt×Nat)):List RTok→Nat
 | []=>0
 | t :: r=>partOne ps t.text+partSum ps r
theorem partSum_append(ps:List (Txt×Nat)):∀ a b:List RTok,partSum ps (a++b)=partSum ps a+partSum ps b
 | [],b=>by simp[partSum]
 | t :: r,b=>by rw[List.cons_append,partSum,partSum,partSum_append ps r b];omega
theorem partsGo_sum(ps:List (Txt×Nat)):∀ (l:List RTok) (n:Nat),n+partSum ps l≤150→partsGo ps n l=n+partSum ps l
 | [],n,_=>by simp[partsGo,partSum]
 | t :: r,n,h=>by
  rw[partSum]at h ⊢
  rw[partsGo,if_neg (by omega),partsGo_sum ps r _ (by omega)]
  omega
theorem partFold_no{t:Txt}:∀ (ps:List (Txt×Nat)) (k:Nat),(∀ q∈ps,q.1≠t)→partFold ps k t=k
 | [],k,_=>rfl
 | q :: r,k,h=>by
  obtain ⟨n,s⟩:=q
  have:(n==t)=false:=by
   cases hb:(n==t) with
   | false=>rfl
   | true=>exact absurd (beq_iff_eq.1 hb) (h (n,s) List.mem_cons_self)
  rw[partFold,this]
  exact partFold_no r k (fun q hq=>h q (List.mem_cons_of_mem _ hq))
theorem Ctx.Ok.part{E:Ctx}(h:E.Ok){t:Txt}(ht:nameT t=false):partOne E.ps t=(if t==cOpen||t==cClose then 0 else 1):=by
 unfold partOne
 exact partFold_no _ _ (fun q hq e=>by have:=h.ps q hq;rw[e,ht]at this;cases this)
structure TreeAt(E:Ctx)(txt:Txt)(lev:Nat)(w:Wo)(kd dep prt pos:Nat)(t:Tr):Prop where
 wf:t.wf
 lev:lev≤t.level
 toks:Toks txt pos t.toks
 wor:t.wor (lookW E.c) E.x E.y=w
 kind:kindT E.kn t=.ok kd
 may:∀ a∈t.toks,mayT a.text=true
 nam:∀ a∈t.toks,nameT a.text=true→a.text∈E.nms
 prt:partSum E.ps t.toks≤prt
 go:∀ xx d,d+dep≤8→goS ⟨3,xx,d⟩ t.toks=.ok ⟨4,xx,d⟩
def IsP(E:Ctx)(txt:Txt)(lev:Nat)(w:Wo)(kd dep prt:Nat):Prop:=∀ pos,∃ t,TreeAt E txt lev w kd dep prt pos t
theorem IsP.mono{E:Ctx}{txt:Txt}{lev lev':Nat}{w:Wo}{kd dep dep' prt prt':Nat}(h:IsP E txt lev w kd dep prt)(h1:lev'≤lev)(h2:dep≤dep')(h3:prt≤prt'):IsP E txt lev' w kd dep' prt':=fun pos=>by
 obtain ⟨t,T⟩:=h pos
 exact ⟨t,T.wf,by have:=T.lev;omega,T.toks,T.wor,T.kind,T.may,T.nam,by have:=T.prt;omega,fun xx d hd=>T.go xx d (by omega)⟩
theorem par_tree{E:Ctx}(hE:E.Ok){s txt:Txt}{lev:Nat}{w:Wo}{kd dep prt pos at2 pos2:Nat}{t:Tr}(T:TreeAt E s lev w kd dep prt pos2 t)(hk:Toks txt pos (⟨[40],pos⟩ :: (t.toks++[⟨[41],at2⟩]))):TreeAt E txt 6 w kd (dep+1) prt pos (Tr.par ⟨[40],pos⟩ t ⟨[41],at2⟩):=by
 refine ⟨⟨⟨rfl,rfl⟩,rfl,rfl,T.wf⟩,by rw[Tr.level_par];omega,by rw[Tr.toks_par];exact hk,by rw[Tr.wor_par];exact T.wor,by rw[kindT_par];exact T.kind, ?_, ?_, ?_, ?_⟩
 ·intro a ha
  rw[Tr.toks_par]at ha
  simp only[List.mem_cons,List.mem_append,List.mem_singleton]at ha
  rcases ha with rfl | ha | rfl | ha
  ·rfl
  ·exact T.may a ha
  ·rfl
  ·cases ha
 ·intro a ha hn
  rw[Tr.toks_par]at ha
  simp only[List.mem_cons,List.mem_append,List.mem_singleton]at ha
  rcases ha with rfl | ha | rfl | ha
  ·exact absurd hn (show ¬ (nameT [40]=true) by decide)
  ·exact T.nam a ha hn
  ·exact absurd hn (show ¬ (nameT [41]=true) by decide)
  ·cases ha
 ·rw[Tr.toks_par,partSum,partSum_append,partSum,partSum]
  simp only
  rw[hE.part (t:=[40]) (by decide),hE.part (t:=[41]) (by decide)]
  have:=T.prt
  simp only[show (([40]:Txt)==cOpen||([40]:Txt)==cClose)=true by decide,show (([41]:Txt)==cOpen||([41]:Txt)==cClose)=true by decide,if_true]
  omega
 ·intro xx d hd
  rw[Tr.toks_par,goS_cons (value_open (a:=⟨[40],pos⟩) rfl xx d (by omega)),goS_ok (T.go xx (d+1) (by omega))]
  rw[goS_cons (after_close (a:=⟨[41],at2⟩) rfl xx d)]
  rfl
theorem IsP.brack{E:Ctx}(hE:E.Ok){s:Txt}{lev:Nat}{w:Wo}{kd dep prt:Nat}(h:IsP E s lev w kd dep prt):IsP E (40 :: (s++[41])) 6 w kd (dep+1) prt:=fun pos=>by
 obtain ⟨t,T⟩:=h (pos+1)
 exact ⟨_,par_tree hE T (toks_brack T.toks)⟩
theorem IsP.brack2{E:Ctx}(hE:E.Ok){s:Txt}{lev:Nat}{w:Wo}{kd dep prt:Nat}(h:IsP E s lev w kd dep prt):IsP E (40 :: 32 :: (s++[41])) 6 w kd (dep+1) prt:=fun pos=>by
 obtain ⟨t,T⟩:=h (pos+2)
 exact ⟨_,par_tree hE T (toks_brack2 T.toks)⟩
theorem un_tree{E:Ctx}(hE:E.Ok){s txt o:Txt}{w:Wo}{kd kd' dep prt pos pos2:Nat}{t:Tr}(ho:unT o=true)(hm:mayT o=true)(T:TreeAt E s 6 w kd dep prt pos2 t)(hk:Toks txt pos (⟨o,pos⟩ :: t.toks))(hkd:madeT o kd kd=kd')(hk0:kd'≠0):TreeAt E txt 6 (oneW (kindP o) w) kd' dep (prt+1) pos (Tr.un ⟨o,pos⟩ t):=by
 have hno:=un_no_name ho
 have hl6:t.level=6:=by have:=T.lev;have:=t.level_le;omega
 refine ⟨⟨⟨rfl,rfl,rfl⟩,ho,hl6,T.wf⟩,by rw[Tr.level_un];omega,by rw[Tr.toks_un];exact hk,by rw[Tr.wor_un,T.wor], ?_, ?_, ?_, ?_, ?_⟩
 ·rw[kindT_un,T.kind]
  simp only
  rw[hkd,if_neg hk0]
 ·intro a ha
  rw[Tr.toks_un]at ha
  rcases List.mem_cons.1 ha with rfl | ha
  ·exact hm
  ·exact T.may a ha
 ·intro a ha hn
  rw[Tr.toks_un]at ha
  rcases List.mem_cons.1 ha with rfl | ha
  ·rw[show nameT o=false from hno]at hn;cases hn
  ·exact T.nam a ha hn
 ·rw[Tr.toks_un,partSum]
  simp only
  rw[hE.part hno]
  have:=T.prt
  split <;> omega
 ·intro xx d hd
  rw[Tr.toks_un,goS_cons (value_un (a:=⟨o,pos⟩) ho xx d)]
  exact T.go xx d hd
theorem IsP.minus{E:Ctx}(hE:E.Ok){s:Txt}{w:Wo}{dep prt:Nat}(h:IsP E s 6 w 1 dep prt):IsP E (45 :: s) 6 (oneW 28 w) 1 dep (prt+1):=fun pos=>by
 obtain ⟨t,T⟩:=h (pos+1)
 exact ⟨_,un_tree (o:=cMinus) hE (by decide) (by decide) T (toks_sign (by decide) T.toks) (by decide) (by decide)⟩
theorem IsP.nott{E:Ctx}(hE:E.Ok){s:Txt}{w:Wo}{dep prt:Nat}(h:IsP E s 6 w 2 dep prt):IsP E (110 :: 111 :: 116 :: 32 :: s) 6 (oneW 9 w) 2 dep (prt+1):=fun pos=>by
 obtain ⟨t,T⟩:=h (pos+4)
 have hk:Toks ([110,111,116]++32 :: s) pos ([⟨[110,111,116],pos⟩]++t.toks):=toks_app (toks_one pos (by decide) (by decide) (by decide) (by decide)) (toks_blank1 T.toks) ⟨32,s,rfl,rfl⟩
 exact ⟨_,un_tree (o:=cNot) hE (by decide) (by decide) T hk (by decide) (by decide)⟩
theorem IsP.two{E:Ctx}(hE:E.Ok){a b op:Txt}{l1 l2:Nat}{w1 w2:Wo}{k1 k2 kd d1 d2 dep p1 p2:Nat}(ha:IsP E a l1 w1 k1 d1 p1)(hb:IsP E b l2 w2 k2 d2 p2)
  (h0:op≠[]) (hbl:blankC (headC op)=false) (hl:runLen op=op.length) (hm:mayT op=true) (hp:0<bindsT op) (hc1:op≠cOpen) (hc2:op≠cClose) (hl1:bindsT op≤l1) (hl2:bindsT op<l2) (hkd:madeT op k1 k2=kd) (hk0:kd≠0) (hd1:d1≤dep) (hd2:d2≤dep) :
  IsP E (a++32 :: (op++32 :: b)) (bindsT op) (binW (kindP op) w1 w2) kd dep (p1+p2+1):=fun pos=>by
 obtain ⟨t,T⟩:=ha pos
 obtain ⟨u,U⟩:=hb (pos+a.length+1+op.length+1)
 have hno:=bin_no_name hp
 have g1:=T.lev
 have g2:=U.lev
 refine ⟨Tr.bin ⟨op,pos+a.length+1⟩ t u,⟨⟨rfl,rfl⟩,hp,hc1,hc2,by show bindsT op≤t.level;omega,by show bindsT op<u.level;omega,T.wf,U.wf⟩,by rw[Tr.level_bin];exact Nat.le_refl _,by rw[Tr.toks_bin];exact toks_join T.toks h0 hbl hl hm U.toks,by rw[Tr.wor_bin,T.wor,U.wor], ?_, ?_, ?_, ?_, ?_⟩
 ·rw[kindT_bin,T.kind,U.kind]
  simp only
  rw[hkd,if_neg hk0]
 ·intro q hq
  rw[Tr.toks_bin,List.mem_append,List.mem_cons]at hq
  rcases hq with hq | rfl | hq
  ·exact T.may q hq
  ·exact hm
  ·exact U.may q hq
 ·intro q hq hn
  rw[Tr.toks_bin,List.mem_append,List.mem_cons]at hq
  rcases hq with hq | rfl | hq
  ·exact T.nam q hq hn
  ·rw[show nameT op=false from hno]at hn;cases hn
  ·exact U.nam q hq hn
 ·rw[Tr.toks_bin,partSum_append,partSum]
  simp only
  rw[hE.part hno]
  have:=T.prt
  have:=U.prt
  split <;> omega
 ·intro xx d hd
  rw[Tr.toks_bin,goS_ok (T.go xx d (by omega)),goS_cons (after_joint (a:=⟨op,pos+a.length+1⟩) hp xx d)]
  exact U.go xx d (by omega)
theorem IsP.leaf{E:Ctx}(hE:E.Ok){t:Txt}{kd:Nat}(h0:t≠[])(hbl:blankC (headC t)=false)(hl:runLen t=t.length)(hm:mayT t=true)(hs:singleT t=true)(ho:t≠cOpen)(hc:t≠cClose)(hu:unT t=false)(hb:bindsT t=0)
  (hn:nameT t=false) (hk:leafKindT t=kd):IsP E t 6 (leafW (lookW E.c) E.x E.y ⟨t,0⟩) kd 0 1:=fun pos=>by
 refine ⟨Tr.leaf ⟨t,pos⟩,⟨⟨rfl,rfl,rfl,rfl⟩,hs,ho,hc,hu,hb⟩,by rw[Tr.level_leaf];omega,toks_one pos h0 hbl hl hm,rfl, ?_, ?_, ?_, ?_, ?_⟩
 ·rw[kindT_leaf]
  simp only
  rw[hn,hk]
  rfl
 ·intro a ha
  rw[Tr.toks_leaf,List.mem_singleton]at ha
  rw[ha];exact hm
 ·intro a ha hh
  rw[Tr.toks_leaf,List.mem_singleton]at ha
  rw[ha]at hh
  rw[show nameT t=false from hn]at hh;cases hh
 ·rw[Tr.toks_leaf,partSum,partSum]
  simp only
  rw[hE.part hn]
  split <;> omega
 ·intro xx d hd
  rw[Tr.toks_leaf,goS_cons (value_leaf (a:=⟨t,pos⟩) hm hs xx d)]
  rfl
theorem IsP.named{E:Ctx}{t:Txt}{kd prt:Nat}{w:Wo}(h0:t≠[])(hbl:blankC (headC t)=false)(hl:runLen t=t.length)(hm:mayT t=true)(hs:singleT t=true)(ho:t≠cOpen)(hc:t≠cClose)(hu:unT t=false)(hb:bindsT t=0)
  (hn:nameT t=true) (hi:t∈E.nms) (hk:knownT E.kn t=kd) (hkk:kindP t=2) (hw:lookW E.c t=w) (hp:partOne E.ps t≤prt):IsP E t 6 w kd 0 prt:=fun pos=>by
 refine ⟨Tr.leaf ⟨t,pos⟩,⟨⟨rfl,rfl,rfl,rfl⟩,hs,ho,hc,hu,hb⟩,by rw[Tr.level_leaf];omega,toks_one pos h0 hbl hl hm, ?_, ?_, ?_, ?_, ?_, ?_⟩
 ·rw[Tr.wor_leaf]
  unfold leafW
  simp only
  rw[if_pos hkk,hw]
 ·rw[kindT_leaf]
  simp only
  rw[hn,if_pos rfl,hk]
 ·intro a ha
  rw[Tr.toks_leaf,List.mem_singleton]at ha
  rw[ha];exact hm
 ·intro a ha hh
  rw[Tr.toks_leaf,List.mem_singleton]at ha
  rw[ha];exact hi
 ·rw[Tr.toks_leaf,partSum,partSum]
  exact hp
 ·intro xx d hd
  rw[Tr.toks_leaf,goS_cons (value_leaf (a:=⟨t,pos⟩) hm hs xx d)]
  rfl
end Go.Proofs.YtpcjadaeolkngaaGreatDoor
