/-
  A text is read in one way alone.
-/
import Derived.Test.YtpcjadaeolkngaaGreatDoorJ18
import Derived.Test.YtpcjadaeolkngaaGreatDoorJ23
set_option linter.unusedVariables false
set_option linter.unusedSimpArgs false
namespace Go.Proofs.YtpcjadaeolkngaaGreatDoor
theorem Tr.uniq(t:Tr)(h:t.wf):∀ t':Tr,t'.wf→t.toks=t'.toks→t=t':=by
 refine Tr.ind (P:=fun t=>∀ t':Tr,t'.wf→t.toks=t'.toks→t=t') t h ?_ ?_ ?_ ?_
 ·intro a ha t' h' e
  rcases t'.cases h' with ⟨b,rfl⟩ | ⟨op,x,rfl⟩ | ⟨op,l,r,rfl⟩ | ⟨o,x,c,rfl⟩
  ·rw[Tr.toks_leaf,Tr.toks_leaf]at e
   rw[List.singleton_inj.1 e]
  ·have:=congrArg List.length e
   have:=x.toks_pos
   simp only[Tr.toks_leaf,Tr.toks_un,List.length_cons,List.length_nil]at *
   omega
  ·have:=congrArg List.length e
   have:=l.toks_pos
   simp only[Tr.toks_leaf,Tr.toks_bin,List.length_cons,List.length_nil,List.length_append]at *
   omega
  ·have:=congrArg List.length e
   have:=x.toks_pos
   simp only[Tr.toks_leaf,Tr.toks_par,List.length_cons,List.length_nil,List.length_append]at *
   omega
 ·intro op x hw ih t' h' e
  have hr:=root_none (Tr.un op x) hw rfl
  rcases t'.cases h' with ⟨b,rfl⟩ | ⟨op',x',rfl⟩ | ⟨op',l,r,rfl⟩ | ⟨o,x',c,rfl⟩
  ·have:=congrArg List.length e
   have:=x.toks_pos
   simp only[Tr.toks_leaf,Tr.toks_un,List.length_cons,List.length_nil]at *
   omega
  ·rw[Tr.toks_un,Tr.toks_un]at e
   obtain ⟨rfl,e2⟩:=List.cons.inj e
   rw[ih x' (Tr.wf_un h').2.2 e2]
  ·have hr':=root_bin op' l r h'
   rw[← e,hr]at hr'
   omega
  ·rw[Tr.toks_un,Tr.toks_par]at e
   obtain ⟨rfl,_⟩:=List.cons.inj e
   have h1:=(Tr.wf_un hw).1
   rw[(Tr.wf_par h').1]at h1
   exact absurd h1 (by decide)
 ·intro op l r hw ihl ihr t' h' e
  have hr:=root_bin op l r hw
  rcases t'.cases h' with ⟨b,rfl⟩ | ⟨op',x',rfl⟩ | ⟨op',l',r',rfl⟩ | ⟨o,x',c,rfl⟩
  ·have:=root_none _ h' rfl
   rw[← e,hr]at this
   omega
  ·have:=root_none _ h' rfl
   rw[← e,hr]at this
   omega
  ·have hr':=root_bin op' l' r' h'
   rw[← e,hr]at hr'
   have hl:l.toks.length=l'.toks.length:=by omega
   rw[Tr.toks_bin,Tr.toks_bin]at e
   obtain ⟨e1,e2⟩:=List.append_inj e hl
   obtain ⟨rfl,e3⟩:=List.cons.inj e2
   have w1:=Tr.wf_bin hw
   have w2:=Tr.wf_bin h'
   rw[ihl l' w2.2.2.2.2.2.1 e1,ihr r' w2.2.2.2.2.2.2 e3]
  ·have:=root_none _ h' rfl
   rw[← e,hr]at this
   omega
 ·intro o x c hw ih t' h' e
  have hr:=root_none (Tr.par o x c) hw rfl
  rcases t'.cases h' with ⟨b,rfl⟩ | ⟨op',x',rfl⟩ | ⟨op',l,r,rfl⟩ | ⟨o',x',c',rfl⟩
  ·have:=congrArg List.length e
   have:=x.toks_pos
   simp only[Tr.toks_leaf,Tr.toks_par,List.length_cons,List.length_nil,List.length_append]at *
   omega
  ·rw[Tr.toks_un,Tr.toks_par]at e
   obtain ⟨rfl,_⟩:=List.cons.inj e
   have h1:=(Tr.wf_un h').1
   rw[(Tr.wf_par hw).1]at h1
   exact absurd h1 (by decide)
  ·have hr':=root_bin op' l r h'
   rw[← e,hr]at hr'
   omega
  ·rw[Tr.toks_par,Tr.toks_par]at e
   obtain ⟨rfl,e2⟩:=List.cons.inj e
   obtain ⟨e3,e4⟩:=List.append_inj' e2 rfl
   rw[ih x' (Tr.wf_par h').2.2 e3,List.singleton_inj.1 e4]
theorem split_uniq{α:Type}{p:α→Prop}:∀ (a b:List α) (x y:α) (r s:List α),(∀ z∈a,¬ p z)→(∀ z∈b,¬ p z)→p x→p y→a++x :: r=b++y :: s→a=b∧x=y∧r=s
 | [],[],x,y,r,s,_,_,_,_,e=>by
  obtain ⟨h1,h2⟩:=List.cons.inj e
  exact ⟨rfl,h1,h2⟩
 | [],c :: b,x,y,r,s,_,hb,hx,_,e=>by
  obtain ⟨h1,_⟩:=List.cons.inj e
  exact absurd (h1 ▸ hx) (hb c List.mem_cons_self)
 | c :: a,[],x,y,r,s,ha,_,_,hy,e=>by
  obtain ⟨h1,_⟩:=List.cons.inj e
  exact absurd (h1 ▸ hy) (ha c List.mem_cons_self)
 | c :: a,d :: b,x,y,r,s,ha,hb,hx,hy,e=>by
  obtain ⟨h1,h2⟩:=List.cons.inj e
  obtain ⟨h3,h4,h5⟩:=split_uniq a b x y r s (fun z hz=>ha z (List.mem_cons_of_mem _ hz)) (fun z hz=>hb z (List.mem_cons_of_mem _ hz)) hx hy h2
  exact ⟨by rw[h1,h3],h4,h5⟩
theorem sc_uniq{sc sc':Option Tr}{act:RTok}(h1:act.text=(if sc.isSome then cScore else cReject))(h2:act.text=(if sc'.isSome then cScore else cReject))(w1:∀ e,sc=some e→e.wf)(w2:∀ e,sc'=some e→e.wf)(e:optToks sc=optToks sc'):sc=sc':=by
 cases sc with
 | none =>
  cases sc' with
  | none=>rfl
  | some b=>rw[h1]at h2;exact absurd (show cReject=cScore from h2) (by decide)
 | some a =>
  cases sc' with
  | none=>rw[h1]at h2;exact absurd (show cScore=cReject from h2) (by decide)
  | some b=>rw[Tr.uniq a (w1 a rfl) b (w2 b rfl) e]
theorem act_text{sc:Option Tr}{act:RTok}(h1:act.text=(if sc.isSome then cScore else cReject)):act.text=cScore∨act.text=cReject:=by
 rw[h1]
 split
 ·exact .inl rfl
 ·exact .inr rfl
theorem RSt.uniq(s s':RSt)(h:s.wf)(h':s'.wf)(eb:s.body=s'.body)(es:s.semi=s'.semi):s=s':=by
 rcases s.cases with ⟨kw,name,eq,e,semi,rfl⟩ | ⟨wh,act,sc,semi,rfl⟩
 ·rcases s'.cases with ⟨kw',name',eq',e',semi',rfl⟩ | ⟨wh',act',sc',semi',rfl⟩
  ·rw[RSt.body_let,RSt.body_let]at eb
   obtain ⟨rfl,eb2⟩:=List.cons.inj eb
   obtain ⟨rfl,eb3⟩:=List.cons.inj eb2
   obtain ⟨rfl,eb4⟩:=List.cons.inj eb3
   obtain rfl:semi=semi':=es
   rw[Tr.uniq e h.2.2.2.1 e' h'.2.2.2.1 eb4]
  ·rw[RSt.body_let,RSt.body_rule]at eb
   have hk:kw.text=cLet:=h.1
   cases wh' with
   | none =>
    obtain ⟨rfl,_⟩:=List.cons.inj eb
    rcases act_text h'.2.1 with h2 | h2 <;> (rw[hk]at h2;exact absurd h2 (by decide))
   | some p =>
    obtain ⟨k,x⟩:=p
    obtain ⟨rfl,_⟩:=List.cons.inj eb
    have h2:=(h'.1 _ _ rfl).1
    rw[hk]at h2
    exact absurd h2 (by decide)
 ·rcases s'.cases with ⟨kw',name',eq',e',semi',rfl⟩ | ⟨wh',act',sc',semi',rfl⟩
  ·rw[RSt.body_let,RSt.body_rule]at eb
   have hk:kw'.text=cLet:=h'.1
   cases wh with
   | none =>
    obtain ⟨rfl,_⟩:=List.cons.inj eb
    rcases act_text h.2.1 with h2 | h2 <;> (rw[hk]at h2;exact absurd h2 (by decide))
   | some p =>
    obtain ⟨k,x⟩:=p
    obtain ⟨rfl,_⟩:=List.cons.inj eb
    have h2:=(h.1 _ _ rfl).1
    rw[hk]at h2
    exact absurd h2 (by decide)
  ·rw[RSt.body_rule,RSt.body_rule]at eb
   obtain rfl:semi=semi':=es
   cases wh with
   | none =>
    cases wh' with
    | none =>
     obtain ⟨rfl,eb2⟩:=List.cons.inj eb
     rw[sc_uniq (sc:=sc) (sc':=sc') h.2.1 h'.2.1 h.2.2.1 h'.2.2.1 eb2]
    | some p =>
     obtain ⟨k,x⟩:=p
     obtain ⟨rfl,_⟩:=List.cons.inj eb
     have h2:=(h'.1 _ _ rfl).1
     rcases act_text h.2.1 with h3 | h3 <;> (rw[h3]at h2;exact absurd h2 (by decide))
   | some p =>
    obtain ⟨k,x⟩:=p
    cases wh' with
    | none =>
     obtain ⟨rfl,_⟩:=List.cons.inj eb
     have h2:=(h.1 _ _ rfl).1
     rcases act_text h'.2.1 with h3 | h3 <;> (rw[h3]at h2;exact absurd h2 (by decide))
    | some p' =>
     obtain ⟨k',x'⟩:=p'
     obtain ⟨rfl,eb2⟩:=List.cons.inj eb
     have w1:=(h.1 _ _ rfl).2
     have w2:=(h'.1 _ _ rfl).2
     obtain ⟨e1,rfl,e3⟩:=split_uniq (p:=fun z:RTok=>z.text=cScore∨z.text=cReject) x.toks x'.toks act act' _ _ (fun z hz hp=>by
      have:=x.plain w1 z hz
      rcases hp with hp | hp
      ·exact this.2.2.2.1 hp
      ·exact this.2.2.2.2 hp) (fun z hz hp=>by
      have:=x'.plain w2 z hz
      rcases hp with hp | hp
      ·exact this.2.2.2.1 hp
      ·exact this.2.2.2.2 hp) (act_text h.2.1) (act_text h'.2.1) eb2
     rw[Tr.uniq x w1 x' w2 e1,sc_uniq (sc:=sc) (sc':=sc') h.2.1 h'.2.1 h.2.2.1 h'.2.2.1 e3]
theorem toksL_uniq:∀ (A B:List RSt),(∀ s∈A,s.wf)→(∀ s∈B,s.wf)→toksL A=toksL B→A=B
 | [],[],_,_,_=>rfl
 | [],b :: B,_,_,e=>by
  have h1:=congrArg List.length e
  have h2:=b.toks_two
  rw[toksL_cons,List.length_append]at h1
  simp only[toksL,List.flatMap_nil,List.length_nil]at h1
  omega
 | a :: A,[],_,_,e=>by
  have h1:=congrArg List.length e
  have h2:=a.toks_two
  rw[toksL_cons,List.length_append]at h1
  simp only[toksL,List.flatMap_nil,List.length_nil]at h1
  omega
 | a :: A,b :: B,ha,hb,e=>by
  rw[toksL_cons,toksL_cons]at e
  unfold RSt.toks at e
  rw[List.append_assoc,List.append_assoc]at e
  have wa:=ha a List.mem_cons_self
  have wb:=hb b List.mem_cons_self
  obtain ⟨e1,e2,e3⟩:=split_uniq (p:=fun z:RTok=>z.text=cSemi) a.body b.body a.semi b.semi _ _ (a.body_no_semi wa) (b.body_no_semi wb) (a.semi_text wa) (b.semi_text wb) e
  rw[RSt.uniq a b wa wb e1 e2,toksL_uniq A B (fun s hs=>ha s (List.mem_cons_of_mem _ hs)) (fun s hs=>hb s (List.mem_cons_of_mem _ hs)) e3]
theorem lets_split:∀ (L R L' R':List RSt),isLetL' L→isLetL' L'→isRuleL' R→isRuleL' R'→L++R=L'++R'→L=L'∧R=R'
 | [],R,[],R',_,_,_,_,e=>⟨rfl,e⟩
 | [],R,b :: L',R',_,h2,h3,_,e=>by
  have e':R=b :: (L'++R'):=e
  have:=h3 b (by rw[e'];exact List.mem_cons_self)
  rw[h2 b List.mem_cons_self]at this
  cases this
 | a :: L,R,[],R',h1,_,_,h4,e=>by
  have e':a :: (L++R)=R':=e
  have:=h4 a (by rw[← e'];exact List.mem_cons_self)
  rw[h1 a List.mem_cons_self]at this
  cases this
 | a :: L,R,b :: L',R',h1,h2,h3,h4,e=>by
  obtain ⟨rfl,e0⟩:=List.cons.inj e
  obtain ⟨e1,e2⟩:=lets_split L R L' R' (fun s hs=>h1 s (List.mem_cons_of_mem _ hs)) (fun s hs=>h2 s (List.mem_cons_of_mem _ hs)) h3 h4 e0
  exact ⟨by rw[e1],e2⟩
theorem PolicyOf.uniq{s:Txt}{L R L' R':List RSt}(h:PolicyOf s L R)(h':PolicyOf s L' R'):L=L'∧R=R':=by
 have e:=h.fine
 rw[h'.fine]at e
 have e2:toksL (L'++R')=toksL (L++R):=by simpa using e
 have:=toksL_uniq _ _ h.wf h'.wf e2.symm
 exact lets_split _ _ _ _ h.lets h'.lets h.rules h'.rules this
open Go.RowKit Go.Deep
theorem same_digW{a b:UInt8}(ha:isDig a=true)(h:sameC a b=true):isDig b=true:=by
 unfold sameC at h
 simp only[Bool.or_eq_true,Bool.and_eq_true]at h
 rcases h with (h | h) | h
 ·exact h.2
 ·exfalso
  have h1:=h.1
  unfold isDig isLet at *
  simp only[Bool.and_eq_true,decide_eq_true_eq]at *
  exact absurd (UInt8.le_trans h1.1 ha.2) (by decide)
 ·exfalso
  have h1:=h.1
  unfold isDig at ha
  simp only[Bool.and_eq_true,decide_eq_true_eq,beq_iff_eq]at *
  rcases h1 with rfl | rfl
  ·exact absurd ha.2 (by decide)
  ·exact absurd ha.1 (by decide)
theorem run_digW:∀ (l:Txt),isDig (headC l)=true→∀ x∈l.take (runLen l),isDig x=true
 | [],_,x,hx=>by simp[runLen]at hx
 | [a],h,x,hx=>by
  simp[runLen]at hx
  subst hx
  exact h
 | a :: b :: r,h,x,hx=>by
  have ha:isDig a=true:=h
  simp only[runLen]at hx
  split at hx
  ·rename_i hs
   rw[List.take_succ_cons]at hx
   rcases List.mem_cons.1 hx with rfl | hx
   ·exact ha
   ·exact run_digW (b :: r) (same_digW ha hs) x hx
  ·simp at hx
   subst hx
   exact ha
theorem take_head(c:UInt8)(r:Txt)(n:Nat)(h:1≤n):headC ((c :: r).take n)=c:=by
 obtain ⟨m,rfl⟩:∃ m,n=m+1:=⟨n-1,by omega⟩
 rfl
theorem toks_dig:∀ (n:Nat) (s:Txt) (pos:Nat) (l:List RTok),toksRF n s pos=.ok l→∀ t∈l,isDig (headC t.text)=true→∀ x∈t.text,isDig x=true
 | _,[],_,l,h,t,ht,_,_,_=>by
  simp[toksRF]at h
  subst h
  cases ht
 | 0,c :: r,_,l,h,t,ht,_,_,_=>by
  simp[toksRF]at h
  subst h
  cases ht
 | n+1,c :: r,pos,l,h,t,ht,hd,x,hx=>by
  rw[toksRF]at h
  split at h
  ·exact toks_dig n r (pos+1) l h t ht hd x hx
  ·split at h
   ·split at h
    ·rename_i l' hl'
     have h':⟨(c :: r).take (runLen (c :: r)),pos⟩ :: l'=l:=by simpa using h
     rw[← h']at ht
     rcases List.mem_cons.1 ht with rfl | ht
     ·simp only at hd hx
      rw[take_head c r _ (runLen_pos c r)]at hd
      exact run_digW (c :: r) hd x hx
     ·exact toks_dig n _ _ l' hl' t ht hd x hx
    ·cases h
   ·cases h
theorem fine_dig{s:Txt}{l:List RTok}(h:tokened s=.fine l):∀ t∈l,isDig (headC t.text)=true→∀ x∈t.text,isDig x=true:=by
 unfold tokened at h
 split at h
 ·cases h
 ·split at h
  ·cases h
  ·rename_i l' hl'
   split at h
   ·cases h
   ·split at h
    ·have:l'=l:=by simpa using h
     subst this
     exact toks_dig _ s 0 l' hl'
    ·cases h
def ShapeN(n:PNode):Prop:=(n.ops=0∧singleT n.tok.text=true)∨(n.ops=1∧unT n.tok.text=true)∨(n.ops=2∧0<bindsT n.tok.text)
theorem Tr.shapes(t:Tr)(h:t.wf):∀ b n,n∈t.flat b→ShapeN n:=by
 refine Tr.ind (P:=fun t=>∀ b n,n∈t.flat b→ShapeN n) t h ?_ ?_ ?_ ?_
 ·intro a ha b n hn
  rw[Tr.flat_leaf,List.mem_singleton]at hn
  subst hn
  exact .inl ⟨rfl,(Tr.wf_leaf ha).1⟩
 ·intro op e hw ih b n hn
  rw[Tr.flat_un,List.mem_append,List.mem_singleton]at hn
  rcases hn with hn | rfl
  ·exact ih b n hn
  ·exact .inr (.inl ⟨rfl,(Tr.wf_un hw).1⟩)
 ·intro op l r hw ihl ihr b n hn
  rw[Tr.flat_bin,List.mem_append,List.mem_append,List.mem_singleton]at hn
  rcases hn with (hn | hn) | rfl
  ·exact ihl _ n hn
  ·exact ihr _ n hn
  ·exact .inr (.inr ⟨rfl,(Tr.wf_bin hw).1⟩)
 ·intro o e c hw ih b n hn
  rw[Tr.flat_par]at hn
  exact ih b n hn
theorem optNodes_shapes{o:Option Tr}(h:∀ e,o=some e→e.wf)(b:Nat):∀ n∈optNodes b o,ShapeN n:=by
 cases o with
 | none=>intro n hn;cases hn
 | some e=>exact fun n hn=>e.shapes (h e rfl) b n hn
theorem RSt.shapes(s:RSt)(h:s.wf)(b:Nat):∀ n∈s.nodes b,ShapeN n:=by
 rcases s.cases with ⟨kw,name,eq,e,semi,rfl⟩ | ⟨wh,act,sc,semi,rfl⟩
 ·exact fun n hn=>e.shapes h.2.2.2.1 b n hn
 ·intro n hn
  rw[RSt.nodes_rule,List.mem_append]at hn
  rcases hn with hn | hn
  ·refine optNodes_shapes (fun e he=>?_) b n hn
   cases wh with
   | none=>cases he
   | some p=>cases he;exact (h.1 p.1 p.2 rfl).2
  ·exact optNodes_shapes (fun e he=>h.2.2.1 e he) _ n hn
theorem nodes_shapes:∀ (l:List RSt),(∀ s∈l,s.wf)→∀ b n,n∈nodesS b l→ShapeN n
 | [],_,_,n,hn=>by cases hn
 | s :: r,h,b,n,hn=>by
  rw[nodesS,List.mem_append]at hn
  rcases hn with hn | hn
  ·exact s.shapes (h s List.mem_cons_self) b n hn
  ·exact nodes_shapes r (fun x hx=>h x (List.mem_cons_of_mem _ hx)) _ n hn
theorem kind_one{t:Txt}(hm:mayT t=true)(hk:kindP t=1):isDig (headC t)=true:=by
 rcases kind_cases t hm with ⟨h1,h2⟩ | ⟨h1,h2,h3⟩ | ⟨k,hk',_,h2⟩ | ⟨k,hk',_,h2⟩
 ·exact h1
 ·omega
 ·omega
 ·omega
theorem may_len{t:Txt}(hm:mayT t=true)(hd:isDig (headC t)=true):t.length≤18:=by
 unfold mayT at hm
 rw[if_pos hd]at hm
 simpa using hm
theorem shape_ok{n:PNode}(hs:ShapeN n)(hm:mayT n.tok.text=true)(hd:isDig (headC n.tok.text)=true→∀ x∈n.tok.text,isDig x=true)(h1:n.left≤1000)(h2:n.right≤1000):NodeOk n:=by
 have K:=kindOf n.tok.text hm
 refine ⟨fun ho=>?_,fun hc ho=>?_,fun hk=>⟨may_len hm (kind_one hm hk),hd (kind_one hm hk)⟩,h1,h2, ?_⟩
 ·rcases hs with ⟨h,_⟩ | ⟨_,hu⟩ | ⟨h,_⟩
  ·omega
  ·unfold unT at hu
   simp only[Bool.or_eq_true,beq_iff_eq]at hu
   rcases hu with hu | hu
   ·rw[K.kminus.2 hu,ho];exact .inl rfl
   ·rw[K.knot.2 hu,ho];exact .inr rfl
  ·omega
 ·rcases hs with ⟨h,_⟩ | ⟨h,_⟩ | ⟨_,hb⟩
  ·omega
  ·omega
  ·rw[← K.binds]at hb
   rw[ho]
   generalize kindP n.tok.text=k at hb hc ⊢
   have hk:k=8∨k=7∨k=23∨k=24∨k=25∨k=26∨k=27∨k=28∨k=29∨k=30∨k=31:=by
    unfold bindK at hb
    (repeat' split at hb) <;> omega
   rcases hk with rfl | rfl | rfl | rfl | rfl | rfl | rfl | rfl | rfl | rfl | rfl
   ·revert hc;decide
   ·revert hc;decide
   all_goals decide
 ·rcases hs with ⟨h,_⟩ | ⟨h,_⟩ | ⟨h,_⟩ <;> omega
theorem facts_in(ls:List PLet):∀ (N:List PNode) (gs:List Fact),(∀ n∈N,NumOk n.tok)→(∀ i,FactIn (atF gs i))→∀ i,FactIn (atF (factsG ls gs N) i)
 | [],gs,_,h=>h
 | n :: r,gs,hn,h=>facts_in ls r _ (fun x hx=>hn x (List.mem_cons_of_mem _ hx)) (atF_snoc_in h (factN_in (hn n List.mem_cons_self) h))
theorem policy_ok{s:Txt}{L R:List RSt}(h:PolicyOf s L R)(hN:(nodesS 0 (L++R)).length≤401):CmpOk (nodesS 0 (L++R)) (letsS 0 (L++R)) (rulesS 0 (L++R)) (factsP (letsS 0 (L++R)) (nodesS 0 (L++R))):=by
 have hf:=fits_of h hN
 have hdig:=fine_dig h.fine
 have ho:=nodes_ok (L++R) h.wf 0
 have hnd:∀ n∈nodesS 0 (L++R),NodeOk n:=fun n hn=>shape_ok (nodes_shapes (L++R) h.wf 0 n hn) (hf.x.may n hn) (hdig n.tok (ho n hn).1) (hf.n n hn).1 (hf.n n hn).2
 refine ⟨?_,hnd,fun n hn=>?_,hf.lets hN,fun r hr=>?_,fun r hr=>?_⟩
 ·exact facts_in _ _ [] (fun n hn=>(hnd n hn).num) (fun i=>by unfold atF;split <;> exact FactIn.none)
 ·have:=(kindOf n.tok.text (hf.x.may n hn)).le
  omega
 ·have:=(hf.x.w r hr).lt
  omega
 ·have:=(hf.x.s r hr).lt
  omega
structure KnownP(s:Txt)(N:List PNode)(ls:List PLet)(rs:List PRule):Prop where
 ex:∃ L R,PolicyOf s L R∧nodesS 0 (L++R)=N∧letsS 0 (L++R)=ls∧rulesS 0 (L++R)=rs
 ok:errsOf N ls rs=(0,0)
 len:(rulesH (factsP ls N) ls N rs [] 0).1.length≤60000
 high:(rulesH (factsP ls N) ls N rs [] 0).2<100000
theorem KnownP.all{s:Txt}{N:List PNode}{ls:List PLet}{rs:List PRule}(h:KnownP s N ls rs){L R:List RSt}(hp:PolicyOf s L R):nodesS 0 (L++R)=N∧letsS 0 (L++R)=ls∧rulesS 0 (L++R)=rs:=by
 obtain ⟨L',R',hp',h1,h2,h3⟩:=h.ex
 obtain ⟨rfl,rfl⟩:=hp.uniq hp'
 exact ⟨h1,h2,h3⟩
set_option maxHeartbeats 2000000 in
theorem Compile_known(s:ByteArray)(hz:s.size≤maxLen){N:List PNode}{ls:List PLet}{rs:List PRule}(hk:KnownP s.toList N ls rs)(w:World)(hg:GlobT w)(hp:GlobB w) :
  Calls Tryz.prog 9 #[.string s] w fun e w'=>e=.returned (.tuple #[.string (bsN (imageC N ls rs)),.int .i64 0,.int .i64 0])∧Below w.heap.size w w':=by
 have HG:=mH hg
 have HP:=mH hp
 have HK:=mH hk
 obtain ⟨L0,R0,hp0,_⟩:=hk.ex
 have HRS:Hid (∀ wx,GlobT wx→Calls Tryz.prog 24 #[.string s] wx fun e w'=>Below wx.heap.size wx w'∧∃ na nc la lc ra rc,e=.returned (.tuple #[.agg #[.slice na N.length nc,.slice la ls.length lc,.slice ra rs.length rc],.int .i64 0,.int .i64 0])∧PolAt w' (.slice na N.length nc) (.slice la ls.length lc) (.slice ra rs.length rc) N ls rs∧CmpOk N ls rs (factsP ls N)):=fun wx hgx=>by
  refine (readSound_fine s wx hgx hz hp0.fine (fun L R h=>by obtain ⟨e1,e2,e3⟩:=hk.all h;rw[e1,e2,e3];exact hk.ok)).mono ?_
  rintro e w' ⟨hb,L,R,na,nc,la,lc,ra,rc,hpol,rfl,hm⟩
  obtain ⟨e1,e2,e3⟩:=hk.all hpol
  have hpa:=PolAt.of hm hpol
  have hok:=policy_ok hpol hpa.nb
  rw[e1,e2,e3]at hpa hok ⊢
  exact ⟨hb,na,nc,la,lc,ra,rc,rfl,hpa,hok⟩
 clear hg hp hk hp0
 go_enter Tryz.func9,Tryz.ntmps9
 go_wp2_with (first
  | (go_at_call 24;refine (HRS.out _ HG.out).mono ?_;rintro e' w1 ⟨hb1,na,nc,la,lc,ra,rc,rfl,hpa,hok⟩;have HB1:=mH hb1;have hbx:=box3 w1 (.cells #[.slice na N.length nc,.slice la ls.length lc,.slice ra rs.length rc] 73);have HP1:=mH ((HP.out.below hb1).below hbx);have HPA:=mH (hpa.below hbx);have HOK:=mH hok;have HX:=mH hbx;clear hb1 hbx hpa hok)
  | (go_at_call 25;refine (Image_any (.slice na N.length nc) (.slice la ls.length lc) (.slice ra rs.length rc) N ls rs _ HPA.out HOK.out HP1.out _ _ rfl HK.out.len HK.out.high).mono ?_;rintro e w2 ⟨rfl,hb2⟩))
 go_ret3
 exact ⟨rfl,(HB1.out.trans (HX.out.mono HB1.out.size)).trans (hb2.mono (by have:=HB1.out.size;simp;omega))⟩
def pbI(fs:List Fact)(ls:List PLet)(N:List PNode)(x:Itm)(y:Bn):Nat→Int→PB
 | 0,_=>leafI 0
 | f+1,i =>
  match N[i.toNat]? with
  | none=>leafI 0
  | some n =>
   match atF fs i with
   | some v=>leafI v
   | none =>
    if n.ops=1 then oneP (opK (kindP n.tok.text) n.ops) (pbI fs ls N x y f n.left)
    else if isChK (kindP n.tok.text) then choiceP (leaK (kindP n.tok.text)) (pbI fs ls N x y f n.left) (pbI fs ls N x y f n.right) (leafI (decK (kindP n.tok.text)))
    else if n.ops=2 then twoP (opK (kindP n.tok.text) n.ops) (pbI fs ls N x y f n.left) (pbI fs ls N x y f n.right)
    else if kindP n.tok.text=2 then pbI fs ls N x y f (meantI ls n.tok.text)
    else leafA (kindP n.tok.text-15) x y
structure RefOk(ls:List PLet)(fs:List Fact)(j:Nat)(n:PNode):Prop where
 one:n.ops=1→n.left<j
 two:n.ops≠1→(isChK (kindP n.tok.text)=true∨n.ops=2)→n.left<j∧n.right<j
 nam:n.ops=0→isChK (kindP n.tok.text)=false→kindP n.tok.text=2→0≤meantI ls n.tok.text∧meantI ls n.tok.text<(j:Int)
 att:n.ops=0→isChK (kindP n.tok.text)=false→kindP n.tok.text≠2→atF fs (j:Int)=none→15≤kindP n.tok.text∧kindP n.tok.text≤21
def RefsOk(ls:List PLet)(fs:List Fact)(N:List PNode):Prop:=∀ j n,N[j]?=some n→NodeOk n∧RefOk ls fs j n
theorem oneP_code(n:Nat)(p:PB):(oneP n p).code=p.code++[n]∧(oneP n p).high=p.high:=by
 unfold oneP
 (repeat' split) <;> exact ⟨rfl,rfl⟩
theorem twoP_code(n:Nat)(p q:PB):(twoP n p q).code=p.code++q.code++[n]∧(twoP n p q).high=maxN p.high (q.high+1):=by
 unfold twoP
 (repeat' split) <;> exact ⟨rfl,rfl⟩
theorem choiceP_code(n:Nat)(p a b:PB):(choiceP n p a b).code=choiceC n p a b∧(choiceP n p a b).high=choiceH p a b:=by
 unfold choiceP
 (repeat' split) <;> exact ⟨rfl,rfl⟩
theorem opC_bare{k:Nat}(v:Int)(h:behindN k=0):opC k v=[k]:=by unfold opC;rw[h];rfl
theorem opC_int(v:Int):opC 0 v=(leafI v).code:=rfl
theorem opC_jump{k:Nat}(h:behindN k=2)(d:Nat)(hd:d<65536):opC k (d:Int)=jumpC k d:=by
 have e:((d:Int) % 18446744073709551616).toNat=d:=by omega
 unfold opC jumpC
 rw[h,e]
 simp only[bytesN]
 have:d / 256 % 256=d / 256:=by omega
 first | rw[this] | skip
theorem opC_attr{k:Nat}(h1:15≤k)(h2:k≤21)(x:Itm)(y:Bn):opC 1 ((k:Int)-15)=(leafA (k-15) x y).code:=by
 obtain rfl | rfl | rfl | rfl | rfl | rfl | rfl:k=15∨k=16∨k=17∨k=18∨k=19∨k=20∨k=21:=by omega
 all_goals rfl
theorem layH_max(below h:Nat):layH below h=max h (below+1):=by unfold layH;split <;> omega
theorem maxN_max(a b:Nat):maxN a b=max a b:=by unfold maxN;split <;> omega
theorem pb_ok{fs:List Fact}{ls:List PLet}{N:List PNode}{x:Itm}{y:Bn}(hx:x.Ok)(hy:y.Ok)(hfi:∀ i,FactIn (atF fs i))(hR:RefsOk ls fs N):∀ (f:Nat) (i:Int),0≤i→(pbI fs ls N x y f i).code.length<60000→(pbI fs ls N x y f i).Ok x y
 | 0,i,_,_=>leafI_ok (by decide)
 | f+1,i,hi0,hlen=>by
  rw[pbI]at hlen ⊢
  cases hn:N[i.toNat]? with
  | none=>exact leafI_ok (by decide)
  | some n =>
   obtain ⟨hok,hrf⟩:=hR i.toNat n hn
   rw[hn]at hlen
   simp only at hlen ⊢
   cases hfa:atF fs i with
   | some v=>exact leafI_ok (hfi i v hfa)
   | none =>
    rw[hfa]at hlen
    simp only at hlen ⊢
    by_cases h1:n.ops=1
    ·rw[if_pos h1]at hlen ⊢
     rw[(oneP_code _ _).1,List.length_append]at hlen
     exact oneP_ok (pb_ok hx hy hfi hR f n.left (by omega) (by omega)) (hok.one h1)
    ·rw[if_neg h1]at hlen ⊢
     cases hc:isChK (kindP n.tok.text) with
     | true =>
      rw[hc,if_pos rfl]at hlen
      rw[if_pos rfl]
      rw[(choiceP_code _ _ _ _).1]at hlen
      unfold choiceC at hlen
      simp only[List.length_append]at hlen
      exact choiceP_ok (pb_ok hx hy hfi hR f n.left (by omega) (by omega)) (pb_ok hx hy hfi hR f n.right (by omega) (by omega)) (leafI_ok (decK_in _)) (by unfold leaK;split <;> omega) (by omega) (by omega)
     | false =>
      rw[hc,if_neg (by simp)]at hlen
      rw[if_neg (by simp)]
      by_cases h2:n.ops=2
      ·rw[if_pos h2]at hlen ⊢
       rw[(twoP_code _ _ _).1,List.length_append,List.length_append]at hlen
       exact twoP_ok (pb_ok hx hy hfi hR f n.left (by omega) (by omega)) (pb_ok hx hy hfi hR f n.right (by omega) (by omega)) (hok.two hc h2)
      ·rw[if_neg h2]at hlen ⊢
       have h0:n.ops=0:=by have:=hok.ops;omega
       by_cases hk:kindP n.tok.text=2
       ·rw[if_pos hk]at hlen ⊢
        exact pb_ok hx hy hfi hR f _ (hrf.nam h0 hc hk).1 hlen
       ·rw[if_neg hk]
        have hfa2:atF fs ((i.toNat:Nat):Int)=none:=by rw[Int.toNat_of_nonneg hi0];exact hfa
        obtain ⟨hk1,hk2⟩:=hrf.att h0 hc hk hfa2
        exact leafA_ok hx hy (by omega)
end Go.Proofs.YtpcjadaeolkngaaGreatDoor
