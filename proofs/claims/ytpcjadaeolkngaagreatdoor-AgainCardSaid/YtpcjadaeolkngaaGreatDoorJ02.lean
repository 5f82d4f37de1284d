/-
  What the program's reader may find at a place where a LET or a RULE is wanted: plain.
-/
import Derived.Test.YtpcjadaeolkngaaGreatDoorJ01
set_option linter.unusedVariables false
set_option linter.unusedSimpArgs false
namespace Go.Proofs.YtpcjadaeolkngaaGreatDoor
open Go.Deep
theorem no_joint{a:RTok}{rest r:List RTok}(hs:stops 1 rest)(e:rest=a :: r):jointT a.text=false:=by
 have h1:=hs a r e
 cases hj:jointT a.text with
 | false=>rfl
 | true=>have:=(joint_binds _).1 hj;omega
def RuleAt(p:Spot):Prop:=(p.next=0∨p.next=6)∧p.opn=0
theorem rule_step{p:Spot}(hp:RuleAt p){t:Txt}(h:p.next=0→t≠cLet):stepS p t=ruleS p t true:=by
 obtain ⟨h1 | h1,h2⟩:=hp
 ·have:=h h1
  simp[stepS,h1,this]
 ·simp[stepS,h1]
theorem let_one{t:Txt}(h:t=cLet):stepS ⟨0,0,0⟩ t=(⟨1,0,0⟩,true):=by subst h;rfl
theorem let_two{t:Txt}(h:nameT t=true):stepS ⟨1,0,0⟩ t=(⟨2,0,0⟩,true):=by simp[stepS,h]
theorem let_two_bad{t:Txt}(h:nameT t=false):(stepS ⟨1,0,0⟩ t).2=false:=by simp[stepS,h]
theorem let_three{t:Txt}(h:t=cEq):stepS ⟨2,0,0⟩ t=(⟨3,0,0⟩,true):=by subst h;rfl
theorem let_three_bad{t:Txt}(h:t≠cEq):(stepS ⟨2,0,0⟩ t).2=false:=by simp[stepS,h]
theorem let_end{t:Txt}(h:t=cSemi):stepS ⟨4,0,0⟩ t=(⟨0,0,0⟩,true):=by subst h;rfl
theorem let_end_bad{t:Txt}(hj:jointT t=false)(h:t≠cSemi):(stepS ⟨4,0,0⟩ t).2=false:=by simp[stepS,afterS,hj,h]
theorem score_end{t:Txt}(h:t=cSemi):stepS ⟨4,2,0⟩ t=(⟨6,2,0⟩,true):=by subst h;rfl
theorem score_end_bad{t:Txt}(hj:jointT t=false)(h:t≠cSemi):(stepS ⟨4,2,0⟩ t).2=false:=by simp[stepS,afterS,hj,h]
theorem rej_end{x:Nat}{t:Txt}(h:t=cSemi):stepS ⟨5,x,0⟩ t=(⟨6,x,0⟩,true):=by subst h;rfl
theorem rej_end_bad{x:Nat}{t:Txt}(h:t≠cSemi):(stepS ⟨5,x,0⟩ t).2=false:=by simp[stepS,h]
theorem when_rule{t:Txt}(hj:jointT t=false):stepS ⟨4,1,0⟩ t=ruleS ⟨4,1,0⟩ t false:=by simp[stepS,afterS,hj]
structure GotS(p:Spot)(l:List RTok)(s:RSt)(rest:List RTok)(q:Spot):Prop where
 eq:l=s.toks++rest
 wf:s.wf
 go:goS p s.toks=.ok q
theorem let_got{kw name eq semi:RTok}{r rest:List RTok}{e:Tr}(h1:kw.text=cLet)(h2:nameT name.text=true)(h3:eq.text=cEq)(g:GotO 0 r e (semi :: rest))(h4:semi.text=cSemi) :
  GotS ⟨0,0,0⟩ (kw :: name :: eq :: r) (.letS kw name eq e semi) rest ⟨0,0,0⟩:=by
 refine ⟨?_,⟨h1,h2,h3,g.wf,h4⟩, ?_⟩
 ·rw[g.eq,RSt.toks,RSt.body_let];simp[RSt.letS,RSt.semi]
 ·simp only[RSt.toks,RSt.body_let,List.cons_append]
  rw[goS_cons (let_one h1),goS_cons (let_two h2),goS_cons (let_three h3),goS_ok (g.go 0)]
  exact goS_cons (let_end h4)
theorem let_bad_name{kw:RTok}{l:List RTok}(h1:kw.text=cLet)(h:∀ a r,l=a :: r→nameT a.text=false):BadS ⟨0,0,0⟩ (kw :: l) 1 :=
 BadS.one (let_one h1) (BadS.here (by simp) fun a r e=>let_two_bad (h a r e))
theorem let_bad_eq{kw name:RTok}{l:List RTok}(h1:kw.text=cLet)(h2:nameT name.text=true)(h:∀ a r,l=a :: r→a.text≠cEq):BadS ⟨0,0,0⟩ (kw :: name :: l) 2 :=
 BadS.one (let_one h1) (BadS.one (let_two h2) (BadS.here (by simp) fun a r e=>let_three_bad (h a r e)))
theorem let_bad_expr{kw name eq:RTok}{l:List RTok}{k:Nat}(h1:kw.text=cLet)(h2:nameT name.text=true)(h3:eq.text=cEq)(h:BadV 0 l k):BadS ⟨0,0,0⟩ (kw :: name :: eq :: l) (k+3) :=
 BadS.one (let_one h1) (BadS.one (let_two h2) (BadS.one (let_three h3) (h 0)))
theorem let_bad_end{kw name eq:RTok}{l rest:List RTok}{e:Tr}(h1:kw.text=cLet)(h2:nameT name.text=true)(h3:eq.text=cEq)(g:GotO 0 l e rest)(hs:stops 1 rest)(h:∀ a r,rest=a :: r→a.text≠cSemi):BadS ⟨0,0,0⟩ (kw :: name :: eq :: l) (e.toks.length+3):=by
 refine BadS.one (let_one h1) (BadS.one (let_two h2) (BadS.one (let_three h3) ?_))
 rw[g.eq]
 exact (BadS.here (p:=⟨4,0,0⟩) (by simp) fun a r e=>let_end_bad (no_joint hs e) (h a r e)).behind (g.go 0)
theorem ruleS_score{p:Spot}{t:Txt}{b:Bool}(h:t=cScore)(ho:p.opn=0):ruleS p t b=(⟨3,2,0⟩,true):=by
 subst h;simp[ruleS,ho,cScore,cWhen]
theorem ruleS_rej{p:Spot}{t:Txt}{b:Bool}(h:t=cReject)(ho:p.opn=0):ruleS p t b=(⟨5,p.expr,0⟩,true):=by
 subst h;simp[ruleS,ho,cScore,cWhen,cReject]
theorem ruleS_when{p:Spot}{t:Txt}(h:t=cWhen)(ho:p.opn=0):ruleS p t true=(⟨3,1,0⟩,true):=by
 subst h;simp[ruleS,ho]
theorem ruleS_bad{p:Spot}{t:Txt}{b:Bool}(h1:b=true→t≠cWhen)(h2:t≠cScore)(h3:t≠cReject):(ruleS p t b).2=false:=by
 cases b with
 | false=>simp[ruleS,h2,h3]
 | true=>simp[ruleS,h2,h3,h1 rfl]
structure Acts(p:Spot)(b:Bool)(l:List RTok):Prop where
 opn:p.opn=0
 nx:∀ a r,l=a :: r→stepS p a.text=ruleS p a.text b
theorem acts_bad_score{p:Spot}{b:Bool}{act:RTok}{r:List RTok}{k:Nat}(A:Acts p b (act :: r))(h1:act.text=cScore)(g:BadV 0 r k):BadS p (act :: r) (k+1) :=
 BadS.one ((A.nx act r rfl).trans (ruleS_score h1 A.opn)) (g 2)
theorem acts_bad_here{p:Spot}{b:Bool}{l:List RTok}(A:Acts p b l)(hp:l=[]→p.next≠6)(h:∀ a r,l=a :: r→(b=true→a.text≠cWhen)∧a.text≠cScore∧a.text≠cReject):BadS p l 0 :=
 BadS.here2 hp fun a r e=>by rw[A.nx a r e];exact ruleS_bad (h a r e).1 (h a r e).2.1 (h a r e).2.2
theorem acts_first{p:Spot}{l:List RTok}(hp:RuleAt p)(h:p.next=0→∀ a r,l=a :: r→a.text≠cLet):Acts p true l :=
 ⟨hp.2,fun a r e=>rule_step hp fun h0=>h h0 a r e⟩
theorem acts_when{rest:List RTok}(hs:stops 1 rest):Acts ⟨4,1,0⟩ false rest:=⟨rfl,fun a r e=>when_rule (no_joint hs e)⟩
theorem when_go{p:Spot}{w:RTok}{r rest:List RTok}{e:Tr}(A:Acts p true (w :: r))(h:w.text=cWhen)(g:GotO 0 r e rest):goS p (w :: e.toks)=.ok ⟨4,1,0⟩:=by
 rw[goS_cons ((A.nx w r rfl).trans (ruleS_when h A.opn))];exact g.go 1
theorem when_bad{p:Spot}{w:RTok}{r:List RTok}{k:Nat}(A:Acts p true (w :: r))(h:w.text=cWhen)(g:BadV 0 r k):BadS p (w :: r) (k+1) :=
 BadS.one ((A.nx w r rfl).trans (ruleS_when h A.opn)) (g 1)
structure PExp where
 place:Nat
 fr:Nat
 behind:Nat
structure PLet where
 name:RTok
 val:PExp
structure PRule where
 hw:Bool
 when:PExp
 hs:Bool
 score:PExp
def noExp:PExp:=⟨0,0,0⟩
def layE(b:Nat)(t:Tr):PExp:=⟨firstAt t,b,b+t.num⟩
def optNum:Option Tr→Nat
 | none=>0
 | some t=>t.num
def optNodes(b:Nat):Option Tr→List PNode
 | none=>[]
 | some t=>t.flat b
def optE(b:Nat):Option Tr→PExp
 | none=>noExp
 | some t=>layE b t
def RSt.num(s:RSt):Nat:=Sum.elim (fun d:LetD=>d.e.num) (fun d:RuleD=>optNum (d.wh.map Prod.snd)+optNum d.sc) s
def RSt.nodes(b:Nat)(s:RSt):List PNode:=Sum.elim (fun d:LetD=>d.e.flat b) (fun d:RuleD=>optNodes b (d.wh.map Prod.snd)++optNodes (b+optNum (d.wh.map Prod.snd)) d.sc) s
def RSt.lets(b:Nat)(s:RSt):List PLet:=Sum.elim (fun d:LetD=>[⟨d.name,layE b d.e⟩]) (fun _:RuleD=>[]) s
def RSt.rules(b:Nat)(s:RSt):List PRule:=Sum.elim (fun _:LetD=>[]) (fun d:RuleD=>[⟨d.wh.isSome,optE b (d.wh.map Prod.snd),d.sc.isSome,optE (b+optNum (d.wh.map Prod.snd)) d.sc⟩]) s
def numS:List RSt→Nat
 | []=>0
 | s :: r=>s.num+numS r
def nodesS:Nat→List RSt→List PNode
 | _,[]=>[]
 | b,s :: r=>s.nodes b++nodesS (b+s.num) r
def letsS:Nat→List RSt→List PLet
 | _,[]=>[]
 | b,s :: r=>s.lets b++letsS (b+s.num) r
def rulesS:Nat→List RSt→List PRule
 | _,[]=>[]
 | b,s :: r=>s.rules b++rulesS (b+s.num) r
theorem numS_append:∀ (a b:List RSt),numS (a++b)=numS a+numS b
 | [],b=>by simp[numS]
 | s :: r,b=>by simp only[List.cons_append,numS,numS_append r b];omega
theorem nodesS_append:∀ (a b:List RSt) (k:Nat),nodesS k (a++b)=nodesS k a++nodesS (k+numS a) b
 | [],b,k=>by simp[nodesS,numS]
 | s :: r,b,k=>by simp only[List.cons_append,nodesS,numS,nodesS_append r b,List.append_assoc,Nat.add_assoc]
theorem letsS_append:∀ (a b:List RSt) (k:Nat),letsS k (a++b)=letsS k a++letsS (k+numS a) b
 | [],b,k=>by simp[letsS,numS]
 | s :: r,b,k=>by simp only[List.cons_append,letsS,numS,letsS_append r b,List.append_assoc,Nat.add_assoc]
theorem rulesS_append:∀ (a b:List RSt) (k:Nat),rulesS k (a++b)=rulesS k a++rulesS (k+numS a) b
 | [],b,k=>by simp[rulesS,numS]
 | s :: r,b,k=>by simp only[List.cons_append,rulesS,numS,rulesS_append r b,List.append_assoc,Nat.add_assoc]
theorem RSt.num_let(kw name eq:RTok)(e:Tr)(semi:RTok):(RSt.letS kw name eq e semi).num=e.num:=rfl
theorem RSt.num_rule(wh:Option (RTok×Tr))(act:RTok)(sc:Option Tr)(semi:RTok):(RSt.rule wh act sc semi).num=optNum (wh.map Prod.snd)+optNum sc:=rfl
theorem RSt.nodes_let(b:Nat)(kw name eq:RTok)(e:Tr)(semi:RTok):(RSt.letS kw name eq e semi).nodes b=e.flat b:=rfl
theorem RSt.nodes_rule(b:Nat)(wh:Option (RTok×Tr))(act:RTok)(sc:Option Tr)(semi:RTok):(RSt.rule wh act sc semi).nodes b=optNodes b (wh.map Prod.snd)++optNodes (b+optNum (wh.map Prod.snd)) sc:=rfl
theorem RSt.lets_let(b:Nat)(kw name eq:RTok)(e:Tr)(semi:RTok):(RSt.letS kw name eq e semi).lets b=[⟨name,layE b e⟩]:=rfl
theorem RSt.lets_rule(b:Nat)(wh:Option (RTok×Tr))(act:RTok)(sc:Option Tr)(semi:RTok):(RSt.rule wh act sc semi).lets b=[]:=rfl
theorem RSt.rules_let(b:Nat)(kw name eq:RTok)(e:Tr)(semi:RTok):(RSt.letS kw name eq e semi).rules b=[]:=rfl
theorem RSt.rules_rule(b:Nat)(wh:Option (RTok×Tr))(act:RTok)(sc:Option Tr)(semi:RTok):(RSt.rule wh act sc semi).rules b=[⟨wh.isSome,optE b (wh.map Prod.snd),sc.isSome,optE (b+optNum (wh.map Prod.snd)) sc⟩]:=rfl
theorem optNodes_len(o:Option Tr)(h:∀ e,o=some e→e.wf)(b:Nat):(optNodes b o).length=optNum o:=by
 cases o with
 | none=>rfl
 | some e=>exact e.flat_len (h e rfl) b
theorem RSt.nodes_len(s:RSt)(h:s.wf)(b:Nat):(s.nodes b).length=s.num:=by
 rcases s.cases with ⟨kw,name,eq,e,semi,rfl⟩ | ⟨wh,act,sc,semi,rfl⟩
 ·exact e.flat_len h.2.2.2.1 b
 ·rw[RSt.nodes_rule,RSt.num_rule,List.length_append,optNodes_len _ _,optNodes_len _ _]
  ·exact fun e he=>h.2.2.1 e he
  ·intro e he
   cases wh with
   | none=>cases he
   | some p=>cases he;exact (h.1 p.1 p.2 rfl).2
theorem nodesS_len:∀ (l:List RSt),(∀ s∈l,s.wf)→∀ b,(nodesS b l).length=numS l
 | [],_,_=>rfl
 | s :: r,h,b=>by
  simp only[nodesS,numS,List.length_append,s.nodes_len (h s (by simp)) b,nodesS_len r (fun x hx=>h x (by simp[hx]))]
def segE(N:List PNode)(e:PExp):List PNode:=(N.drop e.fr).take (e.behind-e.fr)
theorem seg_noExp(N:List PNode):segE N noExp=[]:=by simp[segE,noExp]
theorem seg_lay{N pre post:List PNode}{t:Tr}(ht:t.wf)(hN:N=pre++t.flat pre.length++post):segE N (layE pre.length t)=t.flat pre.length:=by
 subst hN
 simp only[segE,layE]
 rw[List.append_assoc,List.drop_left',Nat.add_sub_cancel_left]
 ·rw[List.take_left' (t.flat_len ht _)]
 ·rfl
def letIx(ls:List PLet)(t:Txt):Nat:=ls.findIdx (fun p=>p.name.text==t)
theorem letIx_le(ls:List PLet)(t:Txt):letIx ls t≤ls.length:=List.findIdx_le_length
theorem letIx_lt(ls:List PLet)(t:Txt)(i:Nat)(hi:i≤ls.length):((ls.take i).map (fun p=>p.name.text)).contains t=decide (letIx ls t<i):=by
 rw[Bool.eq_iff_iff]
 simp only[List.contains_iff_mem,List.mem_map,decide_eq_true_eq]
 constructor
 ·rintro ⟨p,hp,rfl⟩
  obtain ⟨k,hk,rfl⟩:=List.getElem_of_mem hp
  simp only[List.length_take]at hk
  rw[List.getElem_take]
  have:letIx ls ls[k].name.text≤k:=by
   unfold letIx
   apply Nat.le_of_not_lt
   intro hlt
   have:=List.not_of_lt_findIdx hlt
   simp at this
  omega
 ·intro h
  have hl:letIx ls t<ls.length:=by omega
  refine ⟨ls[letIx ls t], ?_, ?_⟩
  ·rw[List.mem_take_iff_getElem]
   exact ⟨letIx ls t,by omega,rfl⟩
  ·have:=List.findIdx_getElem (p:=fun p:PLet=>p.name.text==t) (xs:=ls) (w:=hl)
   exact beq_iff_eq.1 this
def namesE(ls:List PLet)(ahead:Nat):List PNode→Option Nat
 | []=>none
 | n :: r=>if nameT n.tok.text&&decide (ahead≤letIx ls n.tok.text) then some n.tok.at' else namesE ls ahead r
def namesToks(ls:List PLet)(ahead:Nat):List RTok→Option Nat
 | []=>none
 | n :: r=>if nameT n.text&&decide (ahead≤letIx ls n.text) then some n.at' else namesToks ls ahead r
theorem namesE_append(ls:List PLet)(i:Nat):∀ (a b:List PNode),namesE ls i (a++b)=match namesE ls i a with | some p=>some p | none=>namesE ls i b
 | [],b=>rfl
 | n :: r,b=>by
  simp only[List.cons_append,namesE]
  split
  ·rfl
  ·exact namesE_append ls i r b
theorem namesToks_append(ls:List PLet)(i:Nat):∀ (a b:List RTok),namesToks ls i (a++b)=match namesToks ls i a with | some p=>some p | none=>namesToks ls i b
 | [],b=>rfl
 | n :: r,b=>by
  simp only[List.cons_append,namesToks]
  split
  ·rfl
  ·exact namesToks_append ls i r b
theorem un_no_name{t:Txt}(h:unT t=true):nameT t=false:=by
 simp only[unT,Bool.or_eq_true,beq_iff_eq]at h
 rcases h with rfl | rfl <;> decide
theorem bin_no_name{t:Txt}(h:0<bindsT t):nameT t=false:=by
 have hj:=(joint_binds t).2 h
 simp only[jointT,tJoint,List.contains_cons,List.contains_nil,Bool.or_false,Bool.or_eq_true,beq_iff_eq]at hj
 rcases hj with rfl | rfl | rfl | rfl | rfl | rfl | rfl | rfl | rfl | rfl | rfl <;> decide
theorem names_tree(ls:List PLet)(i:Nat)(t:Tr)(h:t.wf):∀ b,namesE ls i (t.flat b)=namesToks ls i t.toks:=by
 refine Tr.ind (P:=fun t=>∀ b,namesE ls i (t.flat b)=namesToks ls i t.toks) t h ?_ ?_ ?_ ?_
 ·intro a ha b
  rw[Tr.flat_leaf,Tr.toks_leaf];rfl
 ·intro op e hw ih b
  rw[Tr.flat_un,Tr.toks_un,namesE_append,ih]
  have:=un_no_name (Tr.wf_un hw).1
  simp only[namesToks,namesE,this]
  cases namesToks ls i e.toks <;> simp
 ·intro op l r hw h1 h2 b
  rw[Tr.flat_bin,Tr.toks_bin,namesE_append,namesE_append,h1,h2,namesToks_append]
  have:=bin_no_name (Tr.wf_bin hw).1
  simp only[namesToks,namesE,this]
  cases namesToks ls i l.toks <;> cases namesToks ls i r.toks <;> simp
 ·intro o e c hw ih b
  have ho:nameT o.text=false:=by rw[(Tr.wf_par hw).1];decide
  have hc:nameT c.text=false:=by rw[(Tr.wf_par hw).2.1];decide
  rw[Tr.flat_par,Tr.toks_par,ih]
  simp only[namesToks,ho,Bool.false_and,Bool.false_eq_true,if_false]
  rw[namesToks_append]
  cases namesToks ls i e.toks <;> simp[namesToks,hc]
theorem names_expr(ls:List PLet)(i:Nat)(hi:i≤ls.length)(late:Txt):∀ (l:List RTok),(∀ x∈l,plainE x.text)→∀ (prev:Txt),prev≠cLet→∀ (rest:List RTok),
  ∃ pv,pv≠cLet∧namesGo ((ls.take i).map (fun p=>p.name.text)) late prev (l++rest)=match namesToks ls i l with | some p=>some p | none=>namesGo ((ls.take i).map (fun p=>p.name.text)) late pv rest
 | [],_,prev,hp,rest=>⟨prev,hp,rfl⟩
 | t :: r,hl,prev,hp,rest=>by
  obtain ⟨h1,h2,_⟩:=hl t (by simp)
  have hs:(t.text==cSemi)=false:=by simpa using h1
  obtain ⟨e1,e2⟩:=thereN_no (there:=(ls.take i).map (fun p=>p.name.text)) (late:=late) (t:=t.text) (.inl hs)
  have hpb:(prev==cLet)=false:=by simpa using hp
  obtain ⟨pv,g1,g3⟩:=names_expr ls i hi late r (fun x hx=>hl x (by simp[hx])) t.text h2 rest
  refine ⟨pv,g1, ?_⟩
  simp only[List.cons_append,namesGo,namesToks,e1,e2,hpb]
  cases hn:nameT t.text
  ·simpa using g3
  ·rw[letIx_lt ls t.text i hi]
   by_cases hx:letIx ls t.text<i
   ·have:¬ i≤letIx ls t.text:=by omega
    simpa[hx,this] using g3
   ·have:i≤letIx ls t.text:=by omega
    simp[hx,this]
def pNamesL(N:List PNode)(ls:List PLet):Nat→List PLet→Option Nat
 | _,[]=>none
 | i,p :: r=>if letIx ls p.name.text<i then some p.name.at' else match namesE ls i (segE N p.val) with
  | some q=>some q
  | none=>pNamesL N ls (i+1) r
def pNamesR(N:List PNode)(ls:List PLet):List PRule→Option Nat
 | []=>none
 | p :: r=>match namesE ls ls.length (segE N p.when) with
  | some q=>some q
  | none=>match namesE ls ls.length (segE N p.score) with
   | some q=>some q
   | none=>pNamesR N ls r
def pNames(N:List PNode)(ls:List PLet)(rs:List PRule):Option Nat:=match pNamesL N ls 0 ls with
 | some p=>some p
 | none=>pNamesR N ls rs
def isLetL'(L:List RSt):Prop:=∀ s∈L,s.isLet=true
def isRuleL'(L:List RSt):Prop:=∀ s∈L,s.isLet=false
theorem lets_len:∀ (L:List RSt),isLetL' L→∀ b,(letsS b L).length=L.length
 | [],_,_=>rfl
 | s :: r,h,b=>by
  rcases s.cases with ⟨kw,name,eq,e,semi,rfl⟩ | ⟨wh,act,sc,semi,rfl⟩
  ·simp only[letsS,RSt.lets_let,List.length_append,List.length_cons,List.length_nil,lets_len r (fun x hx=>h x (by simp[hx]))];omega
  ·have:=h _ List.mem_cons_self;cases this
theorem lets_none:∀ (L:List RSt),isRuleL' L→∀ b,letsS b L=[]
 | [],_,_=>rfl
 | s :: r,h,b=>by
  rcases s.cases with ⟨kw,name,eq,e,semi,rfl⟩ | ⟨wh,act,sc,semi,rfl⟩
  ·have:=h _ List.mem_cons_self;cases this
  ·simp only[letsS,RSt.lets_rule,List.nil_append,lets_none r (fun x hx=>h x (by simp[hx]))]
theorem rules_none:∀ (L:List RSt),isLetL' L→∀ b,rulesS b L=[]
 | [],_,_=>rfl
 | s :: r,h,b=>by
  rcases s.cases with ⟨kw,name,eq,e,semi,rfl⟩ | ⟨wh,act,sc,semi,rfl⟩
  ·simp only[rulesS,RSt.rules_let,List.nil_append,rules_none r (fun x hx=>h x (by simp[hx]))]
  ·have:=h _ List.mem_cons_self;cases this
theorem seg_opt{N pre post:List PNode}{o:Option Tr}(ho:∀ e,o=some e→e.wf)(b:Nat)(hb:b=pre.length)(hN:N=pre++optNodes b o++post):segE N (optE b o)=optNodes b o:=by
 subst hb
 cases o with
 | none=>exact seg_noExp N
 | some t=>exact seg_lay (ho t rfl) hN
theorem names_opt(ls:List PLet)(i:Nat)(o:Option Tr)(ho:∀ e,o=some e→e.wf)(b:Nat):namesE ls i (optNodes b o)=namesToks ls i (optToks o):=by
 cases o with
 | none=>rfl
 | some t=>exact names_tree ls i t (ho t rfl) b
theorem opt_plain(o:Option Tr)(ho:∀ e,o=some e→e.wf):∀ x∈optToks o,plainE x.text:=by
 cases o with
 | none=>intro x hx;cases hx
 | some t=>exact t.plain (ho t rfl)
theorem names_skip{there:List Txt}{late prev:Txt}{t:RTok}{r:List RTok}(h1:nameT t.text=false)(h2:t.text≠cSemi):namesGo there late prev (t :: r)=namesGo there late t.text r:=by
 obtain ⟨e1,e2⟩:=thereN_no (there:=there) (late:=late) (t:=t.text) (.inl (by simpa using h2))
 simp[namesGo,h1,e1,e2]
theorem names_skip0{there:List Txt}{prev:Txt}{t:RTok}{r:List RTok}(h1:nameT t.text=false):namesGo there [] prev (t :: r)=namesGo there [] t.text r:=by
 obtain ⟨e1,e2⟩:=thereN_no (there:=there) (late:=[]) (t:=t.text) (.inr rfl)
 simp[namesGo,h1,e1,e2]
theorem names_rules(N:List PNode)(ls:List PLet):∀ (R:List RSt),isRuleL' R→(∀ s∈R,s.wf)→∀ (pre:List PNode) (prev:Txt),prev≠cLet→N=pre++nodesS pre.length R →
  namesGo (ls.map (fun p=>p.name.text)) [] prev (toksL R)=pNamesR N ls (rulesS pre.length R)
 | [],_,_,_,_,_,_=>rfl
 | s :: r,hr,hw,pre,prev,hp,hN=>by
  rcases s.cases with ⟨kw,name,eq,e,semi,rfl⟩ | ⟨wh,act,sc,semi,rfl⟩
  ·have:=hr _ List.mem_cons_self;cases this
  have hws:=hw _ List.mem_cons_self
  obtain ⟨w1,w2,w3,w4⟩:=hws
  simp only at w1 w2 w3 w4
  have ho1:∀ e,wh.map Prod.snd=some e→e.wf:=by
   intro e he
   cases wh with
   | none=>cases he
   | some p=>cases he;exact (w1 p.1 p.2 rfl).2
  have ho2:∀ e,sc=some e→e.wf:=w3
  have hact:nameT act.text=false:=by rw[w2];split <;> decide
  have hact2:act.text≠cLet:=by rw[w2];split <;> decide
  have hsem:nameT semi.text=false:=by rw[w4];decide
  have hsem2:semi.text≠cLet:=by rw[w4];decide
  rw[rulesS,RSt.rules_rule,List.singleton_append,pNamesR]
  simp only
  have hN1:N=pre++optNodes pre.length (wh.map Prod.snd)++(optNodes (pre.length+optNum (wh.map Prod.snd)) sc++nodesS (pre.length+(RSt.rule wh act sc semi).num) r):=by
   rw[hN,nodesS,RSt.nodes_rule];simp[List.append_assoc]
  have hl1:(pre++optNodes pre.length (wh.map Prod.snd)).length=pre.length+optNum (wh.map Prod.snd):=by rw[List.length_append,optNodes_len _ ho1]
  have hN2:N=(pre++optNodes pre.length (wh.map Prod.snd))++optNodes (pre.length+optNum (wh.map Prod.snd)) sc++nodesS (pre.length+(RSt.rule wh act sc semi).num) r:=by
   rw[hN1];simp[List.append_assoc]
  have hl2:(pre++(RSt.rule wh act sc semi).nodes pre.length).length=pre.length+(RSt.rule wh act sc semi).num:=by rw[List.length_append,RSt.nodes_len _ (hw _ List.mem_cons_self)]
  rw[seg_opt ho1 _ rfl hN1,seg_opt ho2 _ hl1.symm hN2,names_opt ls _ _ ho1,names_opt ls _ _ ho2]
  have ih:=names_rules N ls r (fun x hx=>hr x (by simp[hx])) (fun x hx=>hw x (by simp[hx])) (pre++(RSt.rule wh act sc semi).nodes pre.length) semi.text hsem2 (by rw[hl2,hN,nodesS];simp[List.append_assoc])
  rw[hl2]at ih
  rw[← ih,toksL_cons,RSt.toks,RSt.body_rule]
  have hT:(ls.map (fun p=>p.name.text))=((ls.take ls.length).map (fun p=>p.name.text)):=by rw[List.take_length]
  rw[hT]
  have step2:∀ prev':Txt,prev'≠cLet→namesGo ((ls.take ls.length).map (fun p=>p.name.text)) [] prev' (act :: (optToks sc++(semi :: toksL r)))=match namesToks ls ls.length (optToks sc) with
    | some q=>some q
    | none=>namesGo ((ls.take ls.length).map (fun p=>p.name.text)) [] semi.text (toksL r):=by
   intro prev' hp'
   rw[names_skip0 hact]
   obtain ⟨pv,g1,g2⟩:=names_expr ls ls.length (Nat.le_refl _) [] (optToks sc) (opt_plain sc ho2) act.text hact2 (semi :: toksL r)
   rw[g2]
   cases namesToks ls ls.length (optToks sc) with
   | some q=>rfl
   | none=>simp only;rw[names_skip0 hsem]
  cases wh with
  | none =>
   have:=step2 prev hp
   simpa[whToks,optToks,namesToks,RSt.semi,RSt.rule] using this
  | some p =>
   obtain ⟨k,e⟩:=p
   have hk:k.text=cWhen:=(w1 k e rfl).1
   have hk1:nameT k.text=false:=by rw[hk];decide
   have hk2:k.text≠cLet:=by rw[hk];decide
   obtain ⟨pv,g1,g2⟩:=names_expr ls ls.length (Nat.le_refl _) [] e.toks (e.plain (ho1 e rfl)) k.text hk2 (act :: (optToks sc++(semi :: toksL r)))
   have e1:whToks (some (k,e))++act :: optToks sc++[(RSt.rule (some (k,e)) act sc semi).semi]++toksL r=k :: (e.toks++(act :: (optToks sc++(semi :: toksL r)))):=by simp[whToks,RSt.semi,RSt.rule]
   rw[e1,names_skip0 hk1,g2]
   simp only[Option.map_some,optToks]
   cases namesToks ls ls.length e.toks with
   | some q=>rfl
   | none=>exact step2 pv g1
theorem name_ne_nil{t:Txt}(h:nameT t=true):(t==[])=false:=by
 cases t with
 | nil=>revert h;decide
 | cons a r=>rfl
theorem names_lets(N:List PNode)(ls:List PLet)(R:List RSt)(hR:isRuleL' R)(hRw:∀ s∈R,s.wf):∀ (B A:List RSt),isLetL' A→isLetL' B→(∀ s∈A,s.wf)→(∀ s∈B,s.wf)→ls=letsS 0 (A++B)→N=nodesS 0 (A++B++R)→∀ prev:Txt,prev≠cLet →
  namesGo ((ls.take A.length).map (fun p=>p.name.text)) [] prev (toksL (B++R))=match pNamesL N ls A.length (letsS (numS A) B) with
   | some p=>some p
   | none=>pNamesR N ls (rulesS (numS (A++B)) R)
 | [],A,hA,_,hAw,_,hls,hN,prev,hp=>by
  have hlen:ls.length=A.length:=by rw[hls,List.append_nil,lets_len A hA]
  rw[← hlen,List.take_length,List.nil_append]
  simp only[letsS,pNamesL,List.append_nil]
  have hl:(nodesS 0 A).length=numS A:=nodesS_len A hAw 0
  have:=names_rules N ls R hR hRw (nodesS 0 A) prev hp (by rw[hN,List.append_nil,nodesS_append,hl,Nat.zero_add])
  rw[hl]at this
  exact this
 | s :: B,A,hA,hB,hAw,hBw,hls,hN,prev,hp=>by
  rcases s.cases with ⟨kw,name,eq,e,semi,rfl⟩ | ⟨wh,act,sc,semi,rfl⟩
  rotate_left
  ·have:=hB _ List.mem_cons_self;cases this
  obtain ⟨w1,w2,w3,w4,w5⟩:=hBw _ List.mem_cons_self
  simp only at w1 w2 w3 w4 w5
  have hi:A.length+1≤ls.length:=by rw[hls,letsS_append,List.length_append,lets_len A hA,lets_len _ hB];simp
  have hAl:(letsS 0 A).length=A.length:=lets_len A hA 0
  have hgi:ls[A.length]?=some ⟨name,layE (numS A) e⟩:=by
   rw[hls,letsS_append,List.getElem?_append_right (by omega),hAl,Nat.sub_self,letsS,RSt.lets_let]
   simp
  have htk:(ls.take (A.length+1)).map (fun p=>p.name.text)=(ls.take A.length).map (fun p=>p.name.text)++[name.text]:=by
   rw[List.take_add_one,hgi];simp
  have kw1:nameT kw.text=false:=by rw[w1];decide
  have kw2:kw.text≠cSemi:=by rw[w1];decide
  have eq1:nameT eq.text=false:=by rw[w3];decide
  have eq2:eq.text≠cSemi:=by rw[w3];decide
  have eq3:eq.text≠cLet:=by rw[w3];decide
  have sm1:nameT semi.text=false:=by rw[w5];decide
  have sm2:semi.text≠cLet:=by rw[w5];decide
  have hn0:(nodesS 0 A).length=numS A:=nodesS_len A hAw 0
  have hseg:segE N (layE (numS A) e)=e.flat (numS A):=by
   rw[← hn0]
   refine seg_lay (post:=nodesS (numS A+e.num) (B++R)) w4 ?_
   rw[hN,List.append_assoc,nodesS_append,hn0,Nat.zero_add,List.cons_append,nodesS,RSt.nodes_let,RSt.num_let];simp[List.append_assoc]
  have ih:=names_lets N ls R hR hRw B (A++[.letS kw name eq e semi]) (by intro x hx;simp at hx;rcases hx with hx | rfl;exact hA x hx;rfl) (fun x hx=>hB x (by simp[hx])) (by intro x hx;simp at hx;rcases hx with hx | rfl;exact hAw x hx;exact ⟨w1,w2,w3,w4,w5⟩) (fun x hx=>hBw x (by simp[hx])) (by rw[hls];simp) (by rw[hN];simp) semi.text sm2
  rw[List.length_append,List.length_cons,List.length_nil,htk,numS_append]at ih
  have hnum:numS [RSt.letS kw name eq e semi]=e.num:=by simp[numS,RSt.num_let]
  rw[hnum]at ih
  rw[letsS,RSt.lets_let,RSt.num_let,List.singleton_append,pNamesL]
  simp only
  rw[hseg,names_tree ls _ e w4]
  have e1:toksL (RSt.letS kw name eq e semi :: B++R)=kw :: name :: eq :: (e.toks++(semi :: toksL (B++R))):=by
   rw[List.cons_append,toksL_cons,RSt.toks,RSt.body_let];simp[RSt.semi,RSt.letS]
  rw[e1,names_skip kw1 kw2,namesGo]
  have hs2:(name.text==cSemi)=false:=name_not_semi w2
  obtain ⟨t1,t2⟩:=thereN_no (there:=(ls.take A.length).map (fun p=>p.name.text)) (late:=[]) (t:=name.text) (.inl hs2)
  rw[if_pos w2,t1,t2,letIx_lt ls name.text A.length (by omega)]
  have kwb:(kw.text==cLet)=true:=by rw[w1];decide
  rw[kwb]
  by_cases hx:letIx ls name.text<A.length
  ·simp[hx]
  ·have hd:(decide (letIx ls name.text<A.length)==true)=false:=by simp[hx]
   rw[hd,if_neg (by simp),if_pos rfl,if_neg hx,names_skip eq1 eq2]
   obtain ⟨pv,g1,g2⟩:=names_expr ls A.length (by omega) name.text e.toks (e.plain w4) eq.text eq3 (semi :: toksL (B++R))
   rw[g2]
   cases namesToks ls A.length e.toks with
   | some q=>rfl
   | none =>
    simp only
    obtain ⟨u1,u2⟩:=thereN_semi (there:=(ls.take A.length).map (fun p=>p.name.text)) (late:=name.text) (t:=semi.text) (by rw[w5];rfl) (name_ne_nil w2)
    rw[namesGo,if_neg (by simp[sm1]),u1,u2,ih]
    simp
theorem names_same(L R:List RSt)(hL:isLetL' L)(hR:isRuleL' R)(hw:∀ s∈L++R,s.wf) :
  namesGo [] [] [] (toksL (L++R))=pNames (nodesS 0 (L++R)) (letsS 0 (L++R)) (rulesS 0 (L++R)):=by
 have h1:letsS 0 (L++R)=letsS 0 ([]++L):=by rw[letsS_append,lets_none R hR,List.append_nil,List.nil_append]
 have h2:rulesS 0 (L++R)=rulesS (numS L) R:=by rw[rulesS_append,rules_none L hL,List.nil_append,Nat.zero_add]
 have:=names_lets (nodesS 0 (L++R)) (letsS 0 (L++R)) R hR (fun s hs=>hw s (by simp[hs])) L [] (fun s hs=>by cases hs) hL (fun s hs=>by cases hs) (fun s hs=>hw s (by simp[hs])) h1 rfl [] (by decide)
 simp only[List.length_nil,List.take_zero,List.map_nil]at this
 rw[this,pNames,h2]
 congr 1
 rw[h1]
 rfl
end Go.Proofs.YtpcjadaeolkngaaGreatDoor
