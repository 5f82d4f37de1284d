/-
  What the program's reader may find at a place where a LET or a RULE is wanted: plain.
-/
import Derived.Test.YtgfnkeiigjholaaGreatDoorQ11
set_option linter.unusedVariables false
set_option linter.unusedSimpArgs false
namespace Go.Proofs.YtgfnkeiigjholaaGreatDoor
open Go.Deep
theorem no_joint{a:RTok}{rest r:List RTok}(hs:stops 1 rest)(e:rest=a :: r):jointT a.text=false:=by
 have h1:=hs a r e
 cases hj:jointT a.text with
 | false=>rfl
 | true=>have:=(joint_binds _).1 hj;omega
def RuleAt(p:Spot):Prop:=(p.next=0∨p.next=6)∧p.opn=0
theorem rule_step{p:Spot}(hp:RuleAt p){t:Txt}(h:p.next=0→t≠cLet):stepS p t=ruleS p t true:=by
 obtain ⟨h1 | h1,h2⟩:=hp
 ·have:=h h1
  simp[stepS,h1,this]
 ·simp[stepS,h1]
theorem let_one{t:Txt}(h:t=cLet):stepS ⟨0,0,0⟩ t=(⟨1,0,0⟩,true):=by subst h;rfl
theorem let_two{t:Txt}(h:nameT t=true):stepS ⟨1,0,0⟩ t=(⟨2,0,0⟩,true):=by simp[stepS,h]
theorem let_two_bad{t:Txt}(h:nameT t=false):(stepS ⟨1,0,0⟩ t).2=false:=by simp[stepS,h]
theorem let_three{t:Txt}(h:t=cEq):stepS ⟨2,0,0⟩ t=(⟨3,0,0⟩,true):=by subst h;rfl
theorem let_three_bad{t:Txt}(h:t≠cEq):(stepS ⟨2,0,0⟩ t).2=false:=by simp[stepS,h]
theorem let_end{t:Txt}(h:t=cSemi):stepS ⟨4,0,0⟩ t=(⟨0,0,0⟩,true):=by subst h;rfl
theorem let_end_bad{t:Txt}(hj:jointT t=false)(h:t≠cSemi):(stepS ⟨4,0,0⟩ t).2=false:=by simp[stepS,afterS,hj,h]
theorem score_end{t:Txt}(h:t=cSemi):stepS ⟨4,2,0⟩ t=(⟨6,2,0⟩,true):=by subst h;rfl
theorem score_end_bad{t:Txt}(hj:jointT t=false)(h:t≠cSemi):(stepS ⟨4,2,0⟩ t).2=false:=by simp[stepS,afterS,hj,h]
theorem rej_end{x:Nat}{t:Txt}(h:t=cSemi):stepS ⟨5,x,0⟩ t=(⟨6,x,0⟩,true):=by subst h;rfl
theorem rej_end_bad{x:Nat}{t:Txt}(h:t≠cSemi):(stepS ⟨5,x,0⟩ t).2=false:=by simp[stepS,h]
theorem when_rule{t:Txt}(hj:jointT t=false):stepS ⟨4,1,0⟩ t=ruleS ⟨4,1,0⟩ t false:=by simp[stepS,afterS,hj]
structure GotS(p:Spot)(l:List RTok)(s:RSt)(rest:List RTok)(q:Spot):Prop where
 eq:l=s.toks++rest
 wf:s.wf
 go:goS p s.toks=.ok q
theorem let_got{kw name eq semi:RTok}{r rest:List RTok}{e:Tr}(h1:kw.text=cLet)(h2:nameT name.text=true)(h3:eq.text=cEq)(g:GotO 0 r e (semi :: rest))(h4:semi.text=cSemi) :
  GotS ⟨0,0,0⟩ (kw :: name :: eq :: r) (.letS kw name eq e semi) rest ⟨0,0,0⟩:=by
 refine ⟨?_,⟨h1,h2,h3,g.wf,h4⟩, ?_⟩
 ·rw[g.eq,RSt.toks,RSt.body_let];simp[RSt.letS,RSt.semi]
 ·simp only[RSt.toks,RSt.body_let,List.cons_append]
  rw[goS_cons (let_one h1),goS_cons (let_two h2),goS_cons (let_three h3),goS_ok (g.go 0)]
  exact goS_cons (let_end h4)
theorem let_bad_name{kw:RTok}{l:List RTok}(h1:kw.text=cLet)(h:∀ a r,l=a :: r→nameT a.text=false):BadS ⟨0,0,0⟩ (kw :: l) 1 :=
 BadS.one (let_one h1) (BadS.here (by simp) fun a r e=>let_two_bad (h a r e))
theorem let_bad_eq{kw name:RTok}{l:List RTok}(h1:kw.text=cLet)(h2:nameT name.text=true)(h:∀ a r,l=a :: r→a.text≠cEq):BadS ⟨0,0,0⟩ (kw :: name :: l) 2 :=
 BadS.one (let_one h1) (BadS.one (let_two h2) (BadS.here (by simp) fun a r e=>let_three_bad (h a r e)))
theorem let_bad_expr{kw name eq:RTok}{l:List RTok}{k:Nat}(h1:kw.text=cLet)(h2:nameT name.text=true)(h3:eq.text=cEq)(h:BadV 0 l k):BadS ⟨0,0,0⟩ (kw :: name :: eq :: l) (k+3) :=
 BadS.one (let_one h1) (BadS.one (let_two h2) (BadS.one (let_three h3) (h 0)))
theorem let_bad_end{kw name eq:RTok}{l rest:List RTok}{e:Tr}(h1:kw.text=cLet)(h2:nameT name.text=true)(h3:eq.text=cEq)(g:GotO 0 l e rest)(hs:stops 1 rest)(h:∀ a r,rest=a :: r→a.text≠cSemi):BadS ⟨0,0,0⟩ (kw :: name :: eq :: l) (e.toks.length+3):=by
 refine BadS.one (let_one h1) (BadS.one (let_two h2) (BadS.one (let_three h3) ?_))
 rw[g.eq]
 exact (BadS.here (p:=⟨4,0,0⟩) (by simp) fun a r e=>let_end_bad (no_joint hs e) (h a r e)).behind (g.go 0)
theorem ruleS_score{p:Spot}{t:Txt}{b:Bool}(h:t=cScore)(ho:p.opn=0):ruleS p t b=(⟨3,2,0⟩,true):=by
 subst h;simp[ruleS,ho,cScore,cWhen]
theorem ruleS_rej{p:Spot}{t:Txt}{b:Bool}(h:t=cReject)(ho:p.opn=0):ruleS p t b=(⟨5,p.expr,0⟩,true):=by
 subst h;simp[ruleS,ho,cScore,cWhen,cReject]
theorem ruleS_when{p:Spot}{t:Txt}(h:t=cWhen)(ho:p.opn=0):ruleS p t true=(⟨3,1,0⟩,true):=by
 subst h;simp[ruleS,ho]
theorem ruleS_bad{p:Spot}{t:Txt}{b:Bool}(h1:b=true→t≠cWhen)(h2:t≠cScore)(h3:t≠cReject):(ruleS p t b).2=false:=by
 cases b with
 | false=>simp[ruleS,h2,h3]
 | true=>simp[ruleS,h2,h3,h1 rfl]
structure Acts(p:Spot)(b:Bool)(l:List RTok):Prop where
 opn:p.opn=0
 nx:∀ a r,l=a :: r→stepS p a.text=ruleS p a.text b
theorem acts_bad_score{p:Spot}{b:Bool}{act:RTok}{r:List RTok}{k:Nat}(A:Acts p b (act :: r))(h1:act.text=cScore)(g:BadV 0 r k):BadS p (act :: r) (k+1) :=
 BadS.one ((A.nx act r rfl).trans (ruleS_score h1 A.opn)) (g 2)
theorem acts_bad_here{p:Spot}{b:Bool}{l:List RTok}(A:Acts p b l)(hp:l=[]→p.next≠6)(h:∀ a r,l=a :: r→(b=true→a.text≠cWhen)∧a.text≠cScore∧a.text≠cReject):BadS p l 0 :=
 BadS.here2 hp fun a r e=>by rw[A.nx a r e];exact ruleS_bad (h a r e).1 (h a r e).2.1 (h a r e).2.2
theorem acts_first{p:Spot}{l:List RTok}(hp:RuleAt p)(h:p.next=0→∀ a r,l=a :: r→a.text≠cLet):Acts p true l :=
 ⟨hp.2,fun a r e=>rule_step hp fun h0=>h h0 a r e⟩
theorem acts_when{rest:List RTok}(hs:stops 1 rest):Acts ⟨4,1,0⟩ false rest:=⟨rfl,fun a r e=>when_rule (no_joint hs e)⟩
theorem when_go{p:Spot}{w:RTok}{r rest:List RTok}{e:Tr}(A:Acts p true (w :: r))(h:w.text=cWhen)(g:GotO 0 r e rest):goS p (w :: e.toks)=.ok ⟨4,1,0⟩:=by
 rw[goS_cons ((A.nx w r rfl).trans (ruleS_when h A.opn))];exact g.go 1
theorem when_bad{p:Spot}{w:RTok}{r:List RTok}{k:Nat}(A:Acts p true (w :: r))(h:w.text=cWhen)(g:BadV 0 r k):BadS p (w :: r) (k+1) :=
 BadS.one ((A.nx w r rfl).trans (ruleS_when h A.opn)) (g 1)
structure PExp where
 place:Nat
 fr:Nat
 behind:Nat
structure PLet where
 name:RTok
 val:PExp
structure PRule where
 hw:Bool
 when:PExp
 hs:Bool
 score:PExp
def noExp:PExp:=⟨0,0,0⟩
def layE(b:Nat)(t:Tr):PExp:=⟨firstAt t,b,b+t.num⟩
def optNum:Option Tr→Nat
 | none=>0
 | some t=>t.num
def optNodes(b:Nat):Option Tr→List PNode
 | none=>[]
 | some t=>t.flat b
def optE(b:Nat):Option Tr→PExp
 | none=>noExp
 | some t=>layE b t
def RSt.num(s:RSt):Nat:=Sum.elim (fun d:LetD=>d.e.num) (fun d:RuleD=>optNum (d.wh.map Prod.snd)+optNum d.sc) s
def RSt.nodes(b:Nat)(s:RSt):List PNode:=Sum.elim (fun d:LetD=>d.e.flat b) (fun d:RuleD=>optNodes b (d.wh.map Prod.snd)++optNodes (b+optNum (d.wh.map Prod.snd)) d.sc) s
def RSt.lets(b:Nat)(s:RSt):List PLet:=Sum.elim (fun d:LetD=>[⟨d.name,layE b d.e⟩]) (fun _:RuleD=>[]) s
def RSt.rules(b:Nat)(s:RSt):List PRule:=Sum.elim (fun _:LetD=>[]) (fun d:RuleD=>[⟨d.wh.isSome,optE b (d.wh.map Prod.snd),d.sc.isSome,optE (b+optNum (d.wh.map Prod.snd)) d.sc⟩]) s
def numS:List RSt→Nat
 | []=>0
 | s :: r=>s.num+numS r
def nodesS:Nat→List RSt→List PNode
 | _,[]=>[]
 | b,s :: r=>s.nodes b++nodesS (b+s.num) r
def letsS:Nat→List RSt→List PLet
 | _,[]=>[]
 | b,s :: r=>s.lets b++letsS (b+s.num) r
def rulesS:Nat→List RSt→List PRule
 | _,[]=>[]
 | b,s :: r=>s.rules b++rulesS (b+s.num) r
theorem numS_append:∀ (a b:List RSt),numS (a++b)=numS a+numS b
 | [],b=>by simp[numS]
 | s :: r,b=>by simp only[List.cons_append,numS,numS_append r b];omega
theorem nodesS_append:∀ (a b:List RSt) (k:Nat),nodesS k (a++b)=nodesS k a++nodesS (k+numS a) b
 | [],b,k=>by simp[nodesS,numS]
 | s :: r,b,k=>by simp only[List.cons_append,nodesS,numS,nodesS_append r b,List.append_assoc,Nat.add_assoc]
theorem letsS_append:∀ (a b:List RSt) (k:Nat),letsS k (a++b)=letsS k a++letsS (k+numS a) b
 | [],b,k=>by simp[letsS,numS]
 | s :: r,b,k=>by simp only[List.cons_append,letsS,numS,letsS_append r b,List.append_assoc,Nat.add_assoc]
theorem rulesS_append:∀ (a b:List RSt) (k:Nat),rulesS k (a++b)=rulesS k a++rulesS (k+numS a) b
 | [],b,k=>by simp[rulesS,numS]
 | s :: r,b,k=>by simp only[List.cons_append,rulesS,numS,rulesS_append r b,List.append_assoc,Nat.add_assoc]
theorem RSt.num_let(kw name eq:RTok)(e:Tr)(semi:RTok):(RSt.letS kw name eq e semi).num=e.num:=rfl
theorem RSt.num_rule(wh:Option (RTok×Tr))(act:RTok)(sc:Option Tr)(semi:RTok):(RSt.rule wh act sc semi).num=optNum (wh.map Prod.snd)+optNum sc:=rfl
theorem RSt.nodes_let(b:Nat)(kw name eq:RTok)(e:Tr)(semi:RTok):(RSt.letS kw name eq e semi).nodes b=e.flat b:=rfl
theorem RSt.nodes_rule(b:Nat)(wh:Option (RTok×Tr))(act:RTok)(sc:Option Tr)(semi:RTok):(RSt.rule wh act sc semi).nodes b=optNodes b (wh.map Prod.snd)++optNodes (b+optNum (wh.map Prod.snd)) sc:=rfl
theorem RSt.lets_let(b:Nat)(kw name eq:RTok)(e:Tr)(semi:RTok):(RSt.letS kw name eq e semi).lets b=[⟨name,layE b e⟩]:=rfl
theorem RSt.lets_rule(b:Nat)(wh:Option (RTok×Tr))(act:RTok)(sc:Option Tr)(semi:RTok):(RSt.rule wh act sc semi).lets b=[]:=rfl
theorem RSt.rules_let(b:Nat)(kw name eq:RTok)(e:Tr)(semi:RTok):(RSt.letS kw name eq e semi).rules b=[]:=rfl
theorem RSt.rules_rule(b:Nat)(wh:Option (RTok×Tr))(act:RTok)(sc:Option Tr)(semi:RTok):(RSt.rule wh act sc semi).rules b=[⟨wh.isSome,optE b (wh.map Prod.snd),sc.isSome,optE (b+optNum (wh.map Prod.snd)) sc⟩]:=rfl
theorem optNodes_len(o:Option Tr)(h:∀ e,o=some e→e.wf)(b:Nat):(optNodes b o).length=optNum o:=by
 cases o with
 | none=>rfl
 | some e=>exact e.flat_len (h e rfl) b
theorem RSt.nodes_len(s:RSt)(h:s.wf)(b:Nat):(s.nodes b).length=s.num:=by
 rcases s.cases with ⟨kw,name,eq,e,semi,rfl⟩ | ⟨wh,act,sc,semi,rfl⟩
 ·exact e.flat_len h.2.2.2.1 b
 ·rw[RSt.nodes_rule,RSt.num_rule,List.length_append,optNodes_len _ _,optNodes_len _ _]
  ·exact fun e he=>h.2.2.1 e he
  ·intro e he
   cases wh with
   | none=>cases he
   | some p=>cases he;exact (h.1 p.1 p.2 rfl).2
theorem nodesS_len:∀ (l:List RSt),(∀ s∈l,s.wf)→∀ b,(nodesS b l).length=numS l
 | [],_,_=>rfl
 | s :: r,h,b=>by
  simp only[nodesS,numS,List.length_append,s.nodes_len (h s (by simp)) b,nodesS_len r (fun x hx=>h x (by simp[hx]))]
def segE(N:List PNode)(e:PExp):List PNode:=(N.drop e.fr).take (e.behind-e.fr)
def letIx(ls:List PLet)(t:Txt):Nat:=ls.findIdx (fun p=>p.name.text==t)
def isLetL'(L:List RSt):Prop:=∀ s∈L,s.isLet=true
def isRuleL'(L:List RSt):Prop:=∀ s∈L,s.isLet=false
theorem lets_len:∀ (L:List RSt),isLetL' L→∀ b,(letsS b L).length=L.length
 | [],_,_=>rfl
 | s :: r,h,b=>by
  rcases s.cases with ⟨kw,name,eq,e,semi,rfl⟩ | ⟨wh,act,sc,semi,rfl⟩
  ·simp only[letsS,RSt.lets_let,List.length_append,List.length_cons,List.length_nil,lets_len r (fun x hx=>h x (by simp[hx]))];omega
  ·have:=h _ List.mem_cons_self;cases this
theorem lets_none:∀ (L:List RSt),isRuleL' L→∀ b,letsS b L=[]
 | [],_,_=>rfl
 | s :: r,h,b=>by
  rcases s.cases with ⟨kw,name,eq,e,semi,rfl⟩ | ⟨wh,act,sc,semi,rfl⟩
  ·have:=h _ List.mem_cons_self;cases this
  ·simp only[letsS,RSt.lets_rule,List.nil_append,lets_none r (fun x hx=>h x (by simp[hx]))]
theorem rules_none:∀ (L:List RSt),isLetL' L→∀ b,rulesS b L=[]
 | [],_,_=>rfl
 | s :: r,h,b=>by
  rcases s.cases with ⟨kw,name,eq,e,semi,rfl⟩ | ⟨wh,act,sc,semi,rfl⟩
  ·simp only[rulesS,RSt.rules_let,List.nil_append,rules_none r (fun x hx=>h x (by simp[hx]))]
  ·have:=h _ List.mem_cons_self;cases this
def kindOne(k:Nat):Nat :=
 if k=1∨k=15∨k=16∨k=18∨k=19∨k=20 then 1
 else if k=10∨k=11 then 2
 else if k=12∨k=13∨k=14∨k=17∨k=21 then 3
 else 0
def kindUn(op a:Nat):Nat:=if op=28∧a=1 then 1 else if op=9∧a=2 then 2 else 0
def kindBin(op a b:Nat):Nat :=
 if a≠b then 0
 else if op=23∨op=24 then 2
 else if op=25∨op=26 then (if a=1 then 2 else 0)
 else if op=7∨op=8 then (if a=2 then 2 else 0)
 else if op=27∨op=28∨op=29∨op=30∨op=31 then (if a=1 then 1 else 0)
 else 0
def kindAt(ks:List Nat)(e:PExp):Nat:=ks.getD (e.behind-1) 0
def nodeK(ls:List PLet)(ks:List Nat)(n:PNode):Nat :=
 if n.ops=1 then kindUn (kindP n.tok.text) (ks.getD n.left 0)
 else if n.ops=2 then kindBin (kindP n.tok.text) (ks.getD n.left 0) (ks.getD n.right 0)
 else if kindP n.tok.text=2 then (match ls[letIx ls n.tok.text]? with | some p=>kindAt ks p.val | none=>0)
 else kindOne (kindP n.tok.text)
def failK(f:Option Nat)(bad:Bool)(p:Nat):Option Nat:=match f with
 | some q=>some q
 | none=>if bad then some p else none
def lookGo(ls:List PLet):List Nat→Option Nat→List PNode→List Nat×Option Nat
 | ks,f,[]=>(ks,f)
 | ks,f,n :: r=>lookGo ls (ks++[nodeK ls ks n]) (failK f (nodeK ls ks n==0) n.tok.at') r
abbrev KSt:=List Nat×Option Nat
def lookFor(ls:List PLet)(N:List PNode)(want:Nat)(e:PExp)(st:KSt):KSt :=
 ((lookGo ls st.1 st.2 (segE N e)).1,failK (lookGo ls st.1 st.2 (segE N e)).2 (decide (kindAt (lookGo ls st.1 st.2 (segE N e)).1 e≠want)) e.place)
def RSt.may(s:RSt):Prop:=∀ x∈s.body,mayT x.text=true
end Go.Proofs.YtgfnkeiigjholaaGreatDoor
