/-
  Plain lists of bytes: the words of the language, the document's tokens.
-/
import Derived.Laws.Strings
import Derived.Deep.Trees
set_option linter.unusedVariables false
set_option linter.unusedSimpArgs false
namespace Go.Proofs.YtpcjadaeolkngaaGreatDoor
abbrev Txt:=List UInt8
def bsOf(t:Txt):ByteArray:=⟨t.toArray⟩
theorem bsOf_toList(t:Txt):(bsOf t).toList=t:=by rw[ByteArray.toList_eq];rfl
theorem bsOf_of(b:ByteArray):bsOf b.toList=b:=by rw[ByteArray.toList_eq];cases b;simp[bsOf]
theorem bsOf_size(t:Txt):(bsOf t).size=t.length:=by simp[bsOf,ByteArray.size]
theorem toList_length(b:ByteArray):b.toList.length=b.size:=by rw[ByteArray.toList_eq];rfl
theorem extract_bsOf(b:ByteArray)(i k:Nat):b.extract i k=bsOf ((b.toList.drop i).take (k-i)):=by
 apply ByteArray.ext
 simp[bsOf,ByteArray.toList_eq,ByteArray.data_extract]
 rw[← Array.toList_inj]
 simp[Array.toList_extract,List.extract]
theorem getElem_toList(b:ByteArray)(i:Nat)(h:i<b.size):b.toList[i]?=some b[i]:=by
 rw[ByteArray.toList_eq];simp only[Array.getElem?_toList]
 exact Array.getElem?_eq_getElem h
def tLeaf:List Txt:=[[116,114,117,101],[102,97,108,115,101],[100,114,121],[99,111,108,100],[115,97,102,101],[115,105,122,101],[115,112,101,101,100],[110,101,101,100],[122,111,110,101],[99,97,112],[117,115,101,100],[104,97,115]]
def tOwn:List Txt:=[[108,101,116],[119,104,101,110],[115,99,111,114,101],[114,101,106,101,99,116],[97,110,100],[111,114],[110,111,116]]
def tJoint:List Txt:=[[111,114],[97,110,100],[61],[33,61],[60],[60,61],[43],[45],[42],[47],[37]]
def tSign:List Txt:=[[59],[61],[33,61],[60],[60,61],[43],[45],[42],[47],[37],[40],[41]]
def isDig(c:UInt8):Bool:=48≤c&&c≤57
def isLet(c:UInt8):Bool:=97≤c&&c≤122
def leafT(t:Txt):Bool:=tLeaf.contains t
def ownT(t:Txt):Bool:=tOwn.contains t
def jointT(t:Txt):Bool:=tJoint.contains t
def signT(t:Txt):Bool:=tSign.contains t
def headC(t:Txt):UInt8:=t.headD 0
def nameT(t:Txt):Bool:=isLet (headC t)&&!leafT t&&!ownT t
def sameC(a b:UInt8):Bool:=(isDig a&&isDig b)||(isLet a&&isLet b)||((a==60||a==33)&&b==61)
def mayT(t:Txt):Bool:=if isDig (headC t) then decide (t.length≤18) else if isLet (headC t) then decide (t.length≤8) else signT t
def runLen:Txt→Nat
 | []=>0
 | [_]=>1
 | a :: b :: r=>if sameC a b then runLen (b :: r)+1 else 1
theorem runLen_pos(a:UInt8)(r:Txt):1≤runLen (a :: r):=by
 cases r with
 | nil=>simp[runLen]
 | cons b r=>simp only[runLen];split <;> omega
theorem runLen_le:∀ t:Txt,runLen t≤t.length
 | []=>by simp[runLen]
 | [_]=>by simp[runLen]
 | a :: b :: r=>by
  have:=runLen_le (b :: r)
  simp only[runLen,List.length_cons]at this ⊢
  split <;> omega
structure RTok where
 text:Txt
 at':Nat
def blankC(c:UInt8):Bool:=c==32||c==10
def toksRF:Nat→Txt→Nat→Except Nat (List RTok)
 | _,[],_=>.ok []
 | 0,_ :: _,_=>.ok []
 | n+1,c :: r,pos =>
  if blankC c then toksRF n r (pos+1)
  else if mayT ((c :: r).take (runLen (c :: r))) then
   match toksRF n ((c :: r).drop (runLen (c :: r))) (pos+runLen (c :: r)) with
   | .ok l=>.ok (⟨(c :: r).take (runLen (c :: r)),pos⟩ :: l)
   | .error e=>.error e
  else .error pos
def toksR(s:Txt)(pos:Nat):Except Nat (List RTok):=toksRF s.length s pos
theorem toksRF_more:∀ (n m:Nat) (s:Txt) (pos:Nat),s.length≤n→s.length≤m→toksRF n s pos=toksRF m s pos
 | 0,0,[],_,_,_=>rfl
 | 0,_+1,[],_,_,_=>rfl
 | _+1,0,[],_,_,_=>rfl
 | _+1,_+1,[],_,_,_=>rfl
 | 0,_,c :: r,_,h,_=>by simp at h
 | _+1,0,c :: r,_,_,h=>by simp at h
 | n+1,m+1,c :: r,pos,h1,h2=>by
  have hp:=runLen_pos c r
  have h1':r.length≤n:=by simpa using h1
  have h2':r.length≤m:=by simpa using h2
  simp only[toksRF]
  rw[toksRF_more n m r (pos+1) h1' h2',toksRF_more n m ((c :: r).drop (runLen (c :: r))) (pos+runLen (c :: r)) (by rw[List.length_drop,List.length_cons];omega) (by rw[List.length_drop,List.length_cons];omega)]
theorem toksR_nil(pos:Nat):toksR [] pos=.ok []:=rfl
theorem toksR_cons(c:UInt8)(r:Txt)(pos:Nat):toksR (c :: r) pos=if blankC c then toksR r (pos+1)
  else if mayT ((c :: r).take (runLen (c :: r))) then
   match toksR ((c :: r).drop (runLen (c :: r))) (pos+runLen (c :: r)) with
   | .ok l=>.ok (⟨(c :: r).take (runLen (c :: r)),pos⟩ :: l)
   | .error e=>.error e
  else .error pos:=by
 have hp:=runLen_pos c r
 unfold toksR
 rw[List.length_cons,toksRF,toksRF_more r.length ((c :: r).drop (runLen (c :: r))).length _ _ (by rw[List.length_drop,List.length_cons];omega) (Nat.le_refl _)]
theorem beq_decide_u8(c:UInt8)(n:Nat)(hn:n<256):((c.toNat:Int)==(n:Int))=(c==(UInt8.ofNat n)):=by
 rw[Bool.eq_iff_iff]
 simp only[beq_iff_eq]
 constructor
 ·intro h
  apply UInt8.toNat_inj.1
  simp only[UInt8.toNat_ofNat']
  omega
 ·intro h
  subst h
  simp only[UInt8.toNat_ofNat']
  omega
def preR(acc:List RTok):Except Nat (List RTok)→Except Nat (List RTok)
 | .ok l=>.ok (acc++l)
 | .error e=>.error e
theorem preR_nil(x:Except Nat (List RTok)):preR [] x=x:=by cases x <;> rfl
theorem preR_app(a b:List RTok)(x:Except Nat (List RTok)):preR a (preR b x)=preR (a++b) x:=by cases x <;> simp[preR]
theorem drop_cons(s:ByteArray)(p:Nat)(hp:p<s.size):s.toList.drop p=s[p] :: s.toList.drop (p+1):=by
 have:=getElem_toList s p hp
 rw[List.getElem?_eq_some_iff]at this
 obtain ⟨h,e⟩:=this
 rw[List.drop_eq_getElem_cons h,e]
theorem blankC_int(c:UInt8):blankC c=((c.toNat:Int)==32||(c.toNat:Int)==10):=by
 unfold blankC
 rw[show ((c.toNat:Int)==32)=(c==32) from beq_decide_u8 c 32 (by omega),show ((c.toNat:Int)==10)=(c==10) from beq_decide_u8 c 10 (by omega)]
theorem isDig_int(c:UInt8):isDig c=(decide ((48:Int)≤c.toNat)&&decide ((c.toNat:Int)≤57)):=by
 unfold isDig;rw[Bool.eq_iff_iff];simp[UInt8.le_iff_toNat_le];omega
theorem isLet_int(c:UInt8):isLet c=(decide ((97:Int)≤c.toNat)&&decide ((c.toNat:Int)≤122)):=by
 unfold isLet;rw[Bool.eq_iff_iff];simp[UInt8.le_iff_toNat_le];omega
structure Spot where
 next:Nat
 expr:Nat
 opn:Nat
def cWhen:Txt:=[119,104,101,110]
def cScore:Txt:=[115,99,111,114,101]
def cReject:Txt:=[114,101,106,101,99,116]
def cLet:Txt:=[108,101,116]
def cNot:Txt:=[110,111,116]
def cAnd:Txt:=[97,110,100]
def cOr:Txt:=[111,114]
def cMinus:Txt:=[45]
def cOpen:Txt:=[40]
def cClose:Txt:=[41]
def cSemi:Txt:=[59]
def cEq:Txt:=[61]
def ruleS(p:Spot)(t:Txt)(when:Bool):Spot×Bool :=
 if t==cWhen&&when then (⟨3,1,p.opn⟩,true)
 else if t==cScore then (⟨3,2,p.opn⟩,true)
 else if t==cReject then (⟨5,p.expr,p.opn⟩,true)
 else (p,false)
def valueS(p:Spot)(t:Txt):Spot×Bool :=
 if t==cMinus||t==cNot then (p,true)
 else if t==cOpen then (⟨p.next,p.expr,p.opn+1⟩,decide (p.opn+1≤8))
 else (⟨4,p.expr,p.opn⟩,leafT t||nameT t||isDig (headC t))
def afterS(p:Spot)(t:Txt):Spot×Bool :=
 if jointT t then (⟨3,p.expr,p.opn⟩,true)
 else if p.opn>0 then (⟨p.next,p.expr,p.opn-1⟩,t==cClose)
 else if p.expr=1 then ruleS p t false
 else if p.expr=0 then (⟨0,p.expr,p.opn⟩,t==cSemi)
 else (⟨6,p.expr,p.opn⟩,t==cSemi)
def stepS(p:Spot)(t:Txt):Spot×Bool :=
 if p.next=0 then (if t==cLet then (⟨1,p.expr,p.opn⟩,true) else ruleS p t true)
 else if p.next=1 then (⟨2,p.expr,p.opn⟩,nameT t)
 else if p.next=2 then (⟨3,0,p.opn⟩,t==cEq)
 else if p.next=3 then valueS p t
 else if p.next=4 then afterS p t
 else if p.next=5 then (⟨6,p.expr,p.opn⟩,t==cSemi)
 else ruleS p t true
def goS:Spot→List RTok→Except Nat Spot
 | p,[]=>.ok p
 | p,t :: r=>if (stepS p t.text).2 then goS (stepS p t.text).1 r else .error t.at'
abbrev Toked:=Except (Int×Nat) (List RTok)
abbrev Toked.fine(l:List RTok):Toked:=.ok l
abbrev Toked.bad(e:Int)(place:Nat):Toked:=.error (e,place)
def tokened(s:Txt):Toked :=
 if s.length>400 then Toked.bad 1 0
 else match toksR s 0 with
  | .error p=>Toked.bad 2 p
  | .ok l=>match goS ⟨0,0,0⟩ l with
   | .error p=>Toked.bad 3 p
   | .ok q=>if q.next=6 then Toked.fine l else Toked.bad 3 s.length
open Go.Deep
def cNeq:Txt:=[33,61]
def cLess:Txt:=[60]
def cMost:Txt:=[60,61]
def cPlus:Txt:=[43]
def cTimes:Txt:=[42]
def cDiv:Txt:=[47]
def cMod:Txt:=[37]
def bindsT(t:Txt):Nat :=
 if t==cOr then 1
 else if t==cAnd then 2
 else if t==cEq||t==cNeq||t==cLess||t==cMost then 3
 else if t==cPlus||t==cMinus then 4
 else if t==cTimes||t==cDiv||t==cMod then 5
 else 0
theorem bindsT_le(t:Txt):bindsT t≤5:=by
 unfold bindsT
 split
 ·omega
 ·split
  ·omega
  ·split
   ·omega
   ·split
    ·omega
    ·split <;> omega
theorem joint_binds(t:Txt):jointT t=true↔0<bindsT t:=by
 unfold jointT tJoint bindsT cOr cAnd cEq cNeq cLess cMost cPlus cMinus cTimes cDiv cMod
 simp only[List.contains_cons,List.contains_nil,Bool.or_false,Bool.or_eq_true,beq_iff_eq]
 constructor
 ·rintro (rfl | rfl | rfl | rfl | rfl | rfl | rfl | rfl | rfl | rfl | rfl) <;> decide
 ·intro h
  refine Decidable.byContradiction fun hn=>?_
  simp only[not_or]at hn
  obtain ⟨n1,n2,n3,n4,n5,n6,n7,n8,n9,n10,n11⟩:=hn
  simp[n1,n2,n3,n4,n5,n6,n7,n8,n9,n10,n11]at h
def Tr:Type:=BT (RTok×RTok)
def Tr.leaf(t:RTok):Tr:=BT.node 0 0 (t,t) .nil .nil
def Tr.un(op:RTok)(e:Tr):Tr:=BT.node 1 0 (op,op) e .nil
def Tr.bin(op:RTok)(l r:Tr):Tr:=BT.node 2 0 (op,op) l r
def Tr.par(o:RTok)(e:Tr)(c:RTok):Tr:=BT.node 3 0 (o,c) e .nil
def toksB:BT (RTok×RTok)→List RTok
 | .nil=>[⟨[],0⟩]
 | .node 0 _ a _ _=>[a.1]
 | .node 1 _ a e _=>a.1 :: toksB e
 | .node 2 _ a l r=>toksB l++a.1 :: toksB r
 | .node _ _ a e _=>a.1 :: (toksB e++[a.2])
def Tr.toks(t:Tr):List RTok:=toksB t
def levelB:BT (RTok×RTok)→Nat
 | .node 2 _ a _ _=>bindsT a.1.text
 | _=>6
def Tr.level(t:Tr):Nat:=levelB t
theorem Tr.toks_leaf(t:RTok):(Tr.leaf t).toks=[t]:=rfl
theorem Tr.toks_un(op:RTok)(e:Tr):(Tr.un op e).toks=op :: e.toks:=rfl
theorem Tr.toks_bin(op:RTok)(l r:Tr):(Tr.bin op l r).toks=l.toks++op :: r.toks:=rfl
theorem Tr.toks_par(o:RTok)(e:Tr)(c:RTok):(Tr.par o e c).toks=o :: (e.toks++[c]):=rfl
theorem Tr.level_bin(op:RTok)(l r:Tr):(Tr.bin op l r).level=bindsT op.text:=rfl
theorem Tr.level_leaf(t:RTok):(Tr.leaf t).level=6:=rfl
theorem Tr.level_un(op:RTok)(e:Tr):(Tr.un op e).level=6:=rfl
theorem Tr.level_par(o:RTok)(e:Tr)(c:RTok):(Tr.par o e c).level=6:=rfl
def singleT(t:Txt):Bool:=leafT t||nameT t||isDig (headC t)
def unT(t:Txt):Bool:=t==cMinus||t==cNot
def wfB:BT (RTok×RTok)→Prop
 | .nil=>False
 | .node 0 o a l r=>(o=0∧a.2=a.1∧l=.nil∧r=.nil)∧singleT a.1.text=true∧a.1.text≠cOpen∧a.1.text≠cClose∧unT a.1.text=false∧bindsT a.1.text=0
 | .node 1 o a e r=>(o=0∧a.2=a.1∧r=.nil)∧unT a.1.text=true∧levelB e=6∧wfB e
 | .node 2 o a l r=>(o=0∧a.2=a.1)∧0<bindsT a.1.text∧a.1.text≠cOpen∧a.1.text≠cClose∧bindsT a.1.text≤levelB l∧bindsT a.1.text<levelB r∧wfB l∧wfB r
 | .node 3 o a e r=>(o=0∧r=.nil)∧a.1.text=cOpen∧a.2.text=cClose∧wfB e
 | .node (_+4) _ _ _ _=>False
def Tr.wf(t:Tr):Prop:=wfB t
theorem Tr.wf_leaf{t:RTok}(h:(Tr.leaf t).wf):singleT t.text=true∧t.text≠cOpen∧t.text≠cClose∧unT t.text=false∧bindsT t.text=0:=h.2
theorem Tr.wf_un{op:RTok}{e:Tr}(h:(Tr.un op e).wf):unT op.text=true∧e.level=6∧e.wf:=h.2
theorem Tr.wf_bin{op:RTok}{l r:Tr}(h:(Tr.bin op l r).wf):0<bindsT op.text∧op.text≠cOpen∧op.text≠cClose∧bindsT op.text≤l.level∧bindsT op.text<r.level∧l.wf∧r.wf:=h.2
theorem Tr.wf_par{o c:RTok}{e:Tr}(h:(Tr.par o e c).wf):o.text=cOpen∧c.text=cClose∧e.wf:=h.2
theorem indB{P:Tr→Prop}(h1:∀ t,(Tr.leaf t).wf→P (.leaf t))(h2:∀ op e,(Tr.un op e).wf→P e→P (.un op e))(h3:∀ op l r,(Tr.bin op l r).wf→P l→P r→P (.bin op l r))(h4:∀ o e c,(Tr.par o e c).wf→P e→P (.par o e c)) :
  ∀ t:BT (RTok×RTok),wfB t→P t
 | .nil,h=>h.elim
 | .node 0 o a l r,h=>by
  obtain ⟨a1,a2⟩:=a
  have hh:=h
  obtain ⟨⟨rfl,e,rfl,rfl⟩,_⟩:=h
  simp only at e
  subst e
  exact h1 _ hh
 | .node 1 o a e r,h=>by
  obtain ⟨a1,a2⟩:=a
  have hh:=h
  obtain ⟨⟨rfl,e',rfl⟩,_,_,he⟩:=h
  simp only at e'
  subst e'
  exact h2 _ _ hh (indB h1 h2 h3 h4 e he)
 | .node 2 o a l r,h=>by
  obtain ⟨a1,a2⟩:=a
  have hh:=h
  obtain ⟨⟨rfl,e'⟩,_,_,_,_,_,hl,hr⟩:=h
  simp only at e'
  subst e'
  exact h3 _ _ _ hh (indB h1 h2 h3 h4 l hl) (indB h1 h2 h3 h4 r hr)
 | .node 3 o a e r,h=>by
  obtain ⟨a1,a2⟩:=a
  have hh:=h
  obtain ⟨⟨rfl,rfl⟩,_,_,he⟩:=h
  exact h4 _ _ _ hh (indB h1 h2 h3 h4 e he)
 | .node (_+4) _ _ _ _,h=>h.elim
theorem Tr.ind{P:Tr→Prop}(t:Tr)(h:t.wf)(h1:∀ t,(Tr.leaf t).wf→P (.leaf t))(h2:∀ op e,(Tr.un op e).wf→P e→P (.un op e))(h3:∀ op l r,(Tr.bin op l r).wf→P l→P r→P (.bin op l r))(h4:∀ o e c,(Tr.par o e c).wf→P e→P (.par o e c)):P t:=indB h1 h2 h3 h4 t h
theorem Tr.cases(t:Tr)(h:t.wf):(∃ a,t=.leaf a)∨(∃ op e,t=.un op e)∨(∃ op l r,t=.bin op l r)∨(∃ o e c,t=.par o e c) :=
 Tr.ind (P:=fun t=>(∃ a,t=.leaf a)∨(∃ op e,t=.un op e)∨(∃ op l r,t=.bin op l r)∨(∃ o e c,t=.par o e c)) t h (fun a _=>.inl ⟨a,rfl⟩) (fun op e _ _=>.inr (.inl ⟨op,e,rfl⟩)) (fun op l r _ _ _=>.inr (.inr (.inl ⟨op,l,r,rfl⟩))) (fun o e c _ _=>.inr (.inr (.inr ⟨o,e,c,rfl⟩)))
theorem levelB_le:∀ t:BT (RTok×RTok),levelB t≤6
 | .nil=>Nat.le_refl _
 | .node 0 _ _ _ _=>Nat.le_refl _
 | .node 1 _ _ _ _=>Nat.le_refl _
 | .node 2 _ a _ _=>by have:=bindsT_le a.1.text;simp only[levelB];omega
 | .node (_+3) _ _ _ _=>Nat.le_refl _
theorem Tr.level_le(t:Tr):t.level≤6:=levelB_le t
theorem toksB_pos:∀ t:BT (RTok×RTok),1≤(toksB t).length
 | .nil=>by simp[toksB]
 | .node 0 _ _ _ _=>by simp[toksB]
 | .node 1 _ _ _ _=>by simp[toksB]
 | .node 2 _ _ _ _=>by simp[toksB];omega
 | .node (_+3) _ _ _ _=>by simp[toksB]
theorem Tr.toks_pos(t:Tr):1≤t.toks.length:=toksB_pos t
def rootGo:Nat→Int→Nat→Int→Bool→List RTok→Int
 | _,best,_,_,_,[]=>best
 | i,best,bb,op,wants,t :: r =>
  if t.text==cOpen then rootGo (i+1) best bb (op+1) true r
  else if t.text==cClose then rootGo (i+1) best bb (op-1) false r
  else if wants&&unT t.text then rootGo (i+1) best bb op wants r
  else if 0<bindsT t.text then
   (if op=0∧(best<0∨bindsT t.text≤bb) then rootGo (i+1) i (bindsT t.text) op true r else rootGo (i+1) best bb op true r)
  else rootGo (i+1) best bb op false r
def rootR(l:List RTok):Int:=rootGo 0 (-1) 0 0 true l
def updB:BT (RTok×RTok)→Nat→Int×Nat→Int×Nat
 | .node 2 _ a l r,i,b =>
  updB r (i+(toksB l).length+1) (if (updB l i b).1<0∨bindsT a.1.text≤(updB l i b).2 then ((i+(toksB l).length:Nat),bindsT a.1.text) else updB l i b)
 | _,_,b=>b
def Tr.upd(t:Tr)(i:Nat)(b:Int×Nat):Int×Nat:=updB t i b
theorem Tr.upd_leaf(t:RTok)(i:Nat)(b:Int×Nat):(Tr.leaf t).upd i b=b:=rfl
theorem Tr.upd_un(op:RTok)(e:Tr)(i:Nat)(b:Int×Nat):(Tr.un op e).upd i b=b:=rfl
theorem Tr.upd_par(o:RTok)(e:Tr)(c:RTok)(i:Nat)(b:Int×Nat):(Tr.par o e c).upd i b=b:=rfl
theorem Tr.upd_bin(op:RTok)(l r:Tr)(i:Nat)(b:Int×Nat):(Tr.bin op l r).upd i b=r.upd (i+l.toks.length+1) (if (l.upd i b).1<0∨bindsT op.text≤(l.upd i b).2 then ((i+l.toks.length:Nat),bindsT op.text) else l.upd i b):=rfl
theorem scan_in(t:Tr)(h:t.wf):∀ (i:Nat) (best:Int) (bb:Nat) (op:Int) (r:List RTok),0<op →
  rootGo i best bb op true (t.toks++r)=rootGo (i+t.toks.length) best bb op false r:=by
 refine Tr.ind (P:=fun t=>∀ (i:Nat) (best:Int) (bb:Nat) (op:Int) (r:List RTok),0<op→rootGo i best bb op true (t.toks++r)=rootGo (i+t.toks.length) best bb op false r) t h ?_ ?_ ?_ ?_
 ·intro t h i best bb op r hop
  obtain ⟨h1,h2,h3,h4,h5⟩:=Tr.wf_leaf h
  simp[Tr.toks_leaf,rootGo,h2,h3,h4,h5]
 ·intro o e h ih i best bb op r hop
  obtain ⟨h1,h2,h3⟩:=Tr.wf_un h
  have ho:o.text≠cOpen∧o.text≠cClose:=by
   unfold unT at h1
   simp at h1
   rcases h1 with h1 | h1 <;> rw[h1] <;> decide
  simp only[Tr.toks_un,List.cons_append,rootGo,h1,Bool.and_self,List.length_cons]
  rw[if_neg (by simpa using ho.1),if_neg (by simpa using ho.2),if_pos trivial,ih _ _ _ _ _ hop]
  congr 1;omega
 ·intro o l r h ihl ihr i best bb op rest hop
  obtain ⟨h1,h2,h3,h4,h5,h6,h7⟩:=Tr.wf_bin h
  simp only[Tr.toks_bin,List.append_assoc,List.cons_append,List.length_append,List.length_cons]
  rw[ihl _ _ _ _ _ hop]
  simp only[rootGo]
  rw[if_neg (by simpa using h2),if_neg (by simpa using h3),if_neg (by simp),if_pos h1,if_neg (by omega),ihr _ _ _ _ _ hop]
  congr 1;omega
 ·intro o e c h ih i best bb op r hop
  obtain ⟨h1,h2,h3⟩:=Tr.wf_par h
  simp only[Tr.toks_par,List.cons_append,List.append_assoc,List.nil_append,rootGo,h1,beq_self_eq_true,if_true]
  rw[ih _ _ _ _ _ (by omega)]
  simp only[rootGo,h2]
  rw[if_neg (by decide),if_pos (by decide)]
  simp only[List.length_cons,List.length_append,List.length_nil]
  congr 1 <;> omega
theorem upd_unit(e:Tr)(h:e.wf)(hl:e.level=6)(j:Nat)(b:Int×Nat):e.upd j b=b:=by
 rcases e.cases h with ⟨a,rfl⟩ | ⟨op,e,rfl⟩ | ⟨op,l,r,rfl⟩ | ⟨o,e,c,rfl⟩
 ·rfl
 ·rfl
 ·rw[Tr.level_bin]at hl;have:=bindsT_le op.text;omega
 ·rfl
theorem scan_at(t:Tr)(h:t.wf):∀ (i:Nat) (best:Int) (bb:Nat) (r:List RTok),
  rootGo i best bb 0 true (t.toks++r)=rootGo (i+t.toks.length) (t.upd i (best,bb)).1 (t.upd i (best,bb)).2 0 false r:=by
 refine Tr.ind (P:=fun t=>∀ (i:Nat) (best:Int) (bb:Nat) (r:List RTok),rootGo i best bb 0 true (t.toks++r)=rootGo (i+t.toks.length) (t.upd i (best,bb)).1 (t.upd i (best,bb)).2 0 false r) t h ?_ ?_ ?_ ?_
 ·intro t h i best bb r
  obtain ⟨h1,h2,h3,h4,h5⟩:=Tr.wf_leaf h
  simp[Tr.toks_leaf,rootGo,h2,h3,h4,h5,Tr.upd_leaf]
 ·intro o e h ih i best bb r
  obtain ⟨h1,h2,h3⟩:=Tr.wf_un h
  have ho:o.text≠cOpen∧o.text≠cClose:=by
   unfold unT at h1
   simp at h1
   rcases h1 with h1 | h1 <;> rw[h1] <;> decide
  simp only[Tr.toks_un,List.cons_append,rootGo,h1,Bool.and_self,List.length_cons]
  rw[if_neg (by simpa using ho.1),if_neg (by simpa using ho.2),if_pos trivial,ih _ _ _ _,upd_unit e h3 h2,Tr.upd_un]
  congr 1;omega
 ·intro o l r h ihl ihr i best bb rest
  obtain ⟨h1,h2,h3,h4,h5,h6,h7⟩:=Tr.wf_bin h
  simp only[Tr.toks_bin,List.append_assoc,List.cons_append,List.length_append,List.length_cons]
  rw[ihl]
  simp only[rootGo]
  rw[if_neg (by simpa using h2),if_neg (by simpa using h3),if_neg (by simp),if_pos h1]
  simp only[Tr.upd_bin,true_and]
  split
  ·rw[ihr];congr 1;omega
  ·rw[ihr];congr 1;omega
 ·intro o e c h ih i best bb r
  obtain ⟨h1,h2,h3⟩:=Tr.wf_par h
  simp only[Tr.toks_par,List.cons_append,List.append_assoc,List.nil_append,rootGo,h1,beq_self_eq_true,if_true]
  rw[scan_in e h3 _ _ _ _ _ (by omega)]
  simp only[rootGo,h2]
  rw[if_neg (by decide),if_pos (by decide)]
  simp only[List.length_cons,List.length_append,List.length_nil,Tr.upd_par]
  congr 1 <;> omega
theorem upd_keep(t:Tr)(h:t.wf):∀ (i:Nat) (best:Int) (bb:Nat),0≤best→bb<t.level→t.upd i (best,bb)=(best,bb):=by
 refine Tr.ind (P:=fun t=>∀ (i:Nat) (best:Int) (bb:Nat),0≤best→bb<t.level→t.upd i (best,bb)=(best,bb)) t h ?_ ?_ ?_ ?_
 ·intro t _ i best bb _ _;rfl
 ·intro o e _ _ i best bb _ _;rfl
 ·intro o l r h ihl ihr i best bb hb hlt
  obtain ⟨h1,h2,h3,h4,h5,h6,h7⟩:=Tr.wf_bin h
  rw[Tr.level_bin]at hlt
  rw[Tr.upd_bin,ihl i best bb hb (by omega),if_neg (by simp;omega),ihr _ _ _ hb (by omega)]
 ·intro o e c _ _ i best bb _ _;rfl
def isBinB:BT (RTok×RTok)→Bool
 | .node 2 _ _ _ _=>true
 | _=>false
def Tr.isBin(t:Tr):Bool:=isBinB t
theorem upd_bin_new(op:RTok)(l r:Tr)(h:(Tr.bin op l r).wf)(i:Nat):(Tr.bin op l r).upd i (-1,0)=(((i+l.toks.length:Nat):Int),bindsT op.text)∧True:=by
 refine ⟨?_,trivial⟩
 obtain ⟨h1,h2,h3,h4,h5,h6,h7⟩:=Tr.wf_bin h
 have key:∀ t:Tr,t.wf→∀ i,(t.upd i (-1,0)).1<0∨(t.upd i (-1,0)).2=t.level:=by
  intro t ht
  refine Tr.ind (P:=fun t=>∀ i,(t.upd i (-1,0)).1<0∨(t.upd i (-1,0)).2=t.level) t ht ?_ ?_ ?_ ?_
  ·intro t _ i;left;show (-1:Int)<0;decide
  ·intro o e _ _ i;left;show (-1:Int)<0;decide
  ·intro o l r h ihl _ i
   obtain ⟨g1,g2,g3,g4,g5,g6,g7⟩:=Tr.wf_bin h
   right
   rw[Tr.upd_bin,if_pos,upd_keep r g7 _ _ _ (by omega) g5]
   ·rfl
   ·rcases ihl i with h' | h'
    ·exact .inl h'
    ·right;rw[h'];exact g4
  ·intro o e c _ _ i;left;show (-1:Int)<0;decide
 rw[Tr.upd_bin,if_pos,upd_keep r h7 _ _ _ (by omega) h5]
 rcases key l h6 i with h' | h'
 ·exact .inl h'
 ·right;rw[h'];exact h4
theorem root_bin(op:RTok)(l r:Tr)(h:(Tr.bin op l r).wf):rootR (Tr.bin op l r).toks=l.toks.length:=by
 have:=scan_at _ h 0 (-1) 0 []
 rw[List.append_nil]at this
 unfold rootR
 rw[this,rootGo,(upd_bin_new op l r h 0).1]
 simp
theorem root_none(t:Tr)(h:t.wf)(hb:t.isBin=false):rootR t.toks=-1:=by
 have:=scan_at _ h 0 (-1) 0 []
 rw[List.append_nil]at this
 unfold rootR
 rw[this,rootGo]
 rcases t.cases h with ⟨a,rfl⟩ | ⟨op,e,rfl⟩ | ⟨op,l,r,rfl⟩ | ⟨o,e,c,rfl⟩
 ·rfl
 ·rfl
 ·cases hb
 ·rfl
def cTrue:Txt:=[116,114,117,101]
def cFalse:Txt:=[102,97,108,115,101]
def tClass:List Txt:=[[100,114,121],[99,111,108,100],[115,97,102,101],[110,101,101,100],[104,97,115]]
def classT(t:Txt):Bool:=tClass.contains t
def madeT(op:Txt)(a b:Nat):Nat :=
 if op==cAnd||op==cOr||op==cNot then (if a=2∧b=2 then 2 else 0)
 else if op==cEq||op==cNeq then (if a=b then 2 else 0)
 else if a≠1∨b≠1 then 0
 else if op==cLess||op==cMost then 2
 else 1
def leafKindT(t:Txt):Nat:=if t==cTrue||t==cFalse then 2 else if classT t then 3 else 1
def knownT:List (Txt×Nat)→Txt→Nat
 | [],_=>0
 | (n,k) :: r,t=>if n==t then k else knownT r t
def kindB(c:List (Txt×Nat)):BT (RTok×RTok)→Except Nat Nat
 | .nil=>.ok 0
 | .node 0 _ a _ _=>.ok (if nameT a.1.text then knownT c a.1.text else leafKindT a.1.text)
 | .node 1 _ a e _=>match kindB c e with
  | .error p=>.error p
  | .ok b=>if madeT a.1.text b b=0 then .error a.1.at' else .ok (madeT a.1.text b b)
 | .node 2 _ a l r=>match kindB c l with
  | .error p=>.error p
  | .ok x=>match kindB c r with
   | .error p=>.error p
   | .ok b=>if madeT a.1.text x b=0 then .error a.1.at' else .ok (madeT a.1.text x b)
 | .node (_+3) _ _ e _=>kindB c e
def kindT(c:List (Txt×Nat))(t:Tr):Except Nat Nat:=kindB c t
theorem kindT_leaf(c:List (Txt×Nat))(t:RTok):kindT c (.leaf t)=.ok (if nameT t.text then knownT c t.text else leafKindT t.text):=rfl
theorem kindT_un(c:List (Txt×Nat))(op:RTok)(e:Tr):kindT c (.un op e)=match kindT c e with
  | .error p=>.error p
  | .ok b=>if madeT op.text b b=0 then .error op.at' else .ok (madeT op.text b b):=rfl
theorem kindT_bin(c:List (Txt×Nat))(op:RTok)(l r:Tr):kindT c (.bin op l r)=match kindT c l with
  | .error p=>.error p
  | .ok a=>match kindT c r with
   | .error p=>.error p
   | .ok b=>if madeT op.text a b=0 then .error op.at' else .ok (madeT op.text a b):=rfl
theorem kindT_par(c:List (Txt×Nat))(o:RTok)(e:Tr)(cl:RTok):kindT c (.par o e cl)=kindT c e:=rfl
def thereN(there:List Txt)(late:Txt)(t:Txt):List Txt:=if t==cSemi&&!(late==[]) then there++[late] else there
def lateN(late:Txt)(t:Txt):Txt:=if t==cSemi&&!(late==[]) then [] else late
def namesGo:List Txt→Txt→Txt→List RTok→Option Nat
 | _,_,_,[]=>none
 | there,late,prev,t :: r =>
  if nameT t.text then
   if ((thereN there late t.text).contains t.text)==(prev==cLet) then some t.at'
   else namesGo (thereN there late t.text) (if prev==cLet then t.text else lateN late t.text) t.text r
  else namesGo (thereN there late t.text) (lateN late t.text) t.text r
theorem name_not_semi{t:Txt}(h:nameT t=true):(t==cSemi)=false:=by
 cases hs:(t==cSemi)
 ·rfl
 ·have:t=cSemi:=by simpa using hs
  subst this
  revert h;decide
theorem thereN_semi{there:List Txt}{late t:Txt}(h:(t==cSemi)=true)(hl:(late==[])=false):thereN there late t=there++[late]∧lateN late t=[]:=by simp[thereN,lateN,h,hl]
theorem thereN_no{there:List Txt}{late t:Txt}(h:(t==cSemi)=false∨(late==[])=true):thereN there late t=there∧lateN late t=late:=by
 rcases h with h | h
 ·simp[thereN,lateN,h]
 ·simp[thereN,lateN,h]
structure LetD where
 kw:RTok
 name:RTok
 eq:RTok
 e:Tr
 semi:RTok
structure RuleD where
 wh:Option (RTok×Tr)
 act:RTok
 sc:Option Tr
 semi:RTok
def RSt:Type:=Sum LetD RuleD
def RSt.letS(kw name eq:RTok)(e:Tr)(semi:RTok):RSt:=Sum.inl ⟨kw,name,eq,e,semi⟩
def RSt.rule(wh:Option (RTok×Tr))(act:RTok)(sc:Option Tr)(semi:RTok):RSt:=Sum.inr ⟨wh,act,sc,semi⟩
theorem RSt.cases(s:RSt):(∃ kw name eq e semi,s=.letS kw name eq e semi)∨(∃ wh act sc semi,s=.rule wh act sc semi):=by
 rcases s with ⟨kw,name,eq,e,semi⟩ | ⟨wh,act,sc,semi⟩
 ·exact .inl ⟨kw,name,eq,e,semi,rfl⟩
 ·exact .inr ⟨wh,act,sc,semi,rfl⟩
def optToks:Option Tr→List RTok
 | none=>[]
 | some e=>e.toks
def whToks:Option (RTok×Tr)→List RTok
 | none=>[]
 | some (k,e)=>k :: e.toks
def RSt.body(s:RSt):List RTok:=Sum.elim (fun d:LetD=>d.kw :: d.name :: d.eq :: d.e.toks) (fun d:RuleD=>whToks d.wh++d.act :: optToks d.sc) s
def RSt.semi(s:RSt):RTok:=Sum.elim LetD.semi RuleD.semi s
theorem RSt.body_let(kw name eq:RTok)(e:Tr)(semi:RTok):(RSt.letS kw name eq e semi).body=kw :: name :: eq :: e.toks:=rfl
theorem RSt.body_rule(wh:Option (RTok×Tr))(act:RTok)(sc:Option Tr)(semi:RTok):(RSt.rule wh act sc semi).body=whToks wh++act :: optToks sc:=rfl
def RSt.toks(s:RSt):List RTok:=s.body++[s.semi]
def toksL(l:List RSt):List RTok:=l.flatMap RSt.toks
def RSt.isLet(s:RSt):Bool:=Sum.elim (fun _:LetD=>true) (fun _:RuleD=>false) s
def RSt.wf(s:RSt):Prop:=Sum.elim (fun d:LetD=>d.kw.text=cLet∧nameT d.name.text=true∧d.eq.text=cEq∧d.e.wf∧d.semi.text=cSemi) (fun d:RuleD=>(∀ k e,d.wh=some (k,e)→k.text=cWhen∧e.wf)∧d.act.text=(if d.sc.isSome then cScore else cReject)∧(∀ e,d.sc=some e→e.wf)∧d.semi.text=cSemi) s
theorem toksL_append(a b:List RSt):toksL (a++b)=toksL a++toksL b:=by simp[toksL]
theorem toksL_cons(a:RSt)(b:List RSt):toksL (a :: b)=a.toks++toksL b:=by simp[toksL]
theorem RSt.body_pos(s:RSt):1≤s.body.length:=by
 rcases s.cases with ⟨kw,name,eq,e,semi,rfl⟩ | ⟨wh,act,sc,semi,rfl⟩
 ·simp[RSt.body_let]
 ·simp[RSt.body_rule];omega
theorem RSt.toks_length(s:RSt):s.toks.length=s.body.length+1:=by simp[RSt.toks]
def plainE(t:Txt):Prop:=t≠cSemi∧t≠cLet∧t≠cWhen∧t≠cScore∧t≠cReject
theorem single_plain{t:Txt}(h:singleT t=true):plainE t:=by
 refine ⟨?_, ?_, ?_, ?_, ?_⟩ <;> (intro e;subst e;revert h;decide)
theorem un_plain{t:Txt}(h:unT t=true):plainE t:=by
 refine ⟨?_, ?_, ?_, ?_, ?_⟩ <;> (intro e;subst e;revert h;decide)
theorem bin_plain{t:Txt}(h:0<bindsT t):plainE t:=by
 refine ⟨?_, ?_, ?_, ?_, ?_⟩ <;> (intro e;subst e;revert h;decide)
theorem Tr.plain(t:Tr)(h:t.wf):∀ x∈t.toks,plainE x.text:=by
 refine Tr.ind (P:=fun t=>∀ x∈t.toks,plainE x.text) t h ?_ ?_ ?_ ?_
 ·intro a h x hx;simp[Tr.toks_leaf]at hx;subst hx;exact single_plain (Tr.wf_leaf h).1
 ·intro op e h ih x hx
  simp only[Tr.toks_un,List.mem_cons]at hx
  rcases hx with rfl | hx
  ·exact un_plain (Tr.wf_un h).1
  ·exact ih x hx
 ·intro op l r h ihl ihr x hx
  simp only[Tr.toks_bin,List.mem_append,List.mem_cons]at hx
  rcases hx with hx | rfl | hx
  ·exact ihl x hx
  ·exact bin_plain (Tr.wf_bin h).1
  ·exact ihr x hx
 ·intro o e c h ih x hx
  simp only[Tr.toks_par,List.mem_cons,List.mem_append,List.mem_nil_iff,or_false]at hx
  rcases hx with rfl | hx | rfl
  ·rw[(Tr.wf_par h).1];refine ⟨?_, ?_, ?_, ?_, ?_⟩ <;> decide
  ·exact ih x hx
  ·rw[(Tr.wf_par h).2.1];refine ⟨?_, ?_, ?_, ?_, ?_⟩ <;> decide
theorem RSt.body_no_semi(s:RSt)(h:s.wf):∀ x∈s.body,x.text≠cSemi:=by
 intro x hx
 rcases s.cases with ⟨kw,name,eq,e,semi,rfl⟩ | ⟨wh,act,sc,semi,rfl⟩
 ·simp only[RSt.body_let,List.mem_cons]at hx
  rcases hx with rfl | rfl | rfl | hx
  ·rw[h.1];decide
  ·intro e';have:=name_not_semi h.2.1;rw[e']at this;revert this;decide
  ·rw[h.2.2.1];decide
  ·exact (e.plain h.2.2.2.1 x hx).1
 ·simp only[RSt.body_rule,List.mem_append,List.mem_cons]at hx
  rcases hx with hx | rfl | hx
  ·cases wh with
   | none=>simp[whToks]at hx
   | some p =>
    obtain ⟨k,e⟩:=p
    simp only[whToks,List.mem_cons]at hx
    rcases hx with rfl | hx
    ·rw[(h.1 x e rfl).1];decide
    ·exact (e.plain (h.1 k e rfl).2 x hx).1
  ·rw[h.2.1];split <;> decide
  ·cases sc with
   | none=>simp[optToks]at hx
   | some e=>exact (e.plain (h.2.2.1 e rfl) x hx).1
theorem RSt.semi_text(s:RSt)(h:s.wf):s.semi.text=cSemi:=by
 rcases s.cases with ⟨kw,name,eq,e,semi,rfl⟩ | ⟨wh,act,sc,semi,rfl⟩
 ·exact h.2.2.2.2
 ·exact h.2.2.2
def partFold:List (Txt×Nat)→Nat→Txt→Nat
 | [],k,_=>k
 | (n,s) :: r,k,t=>partFold r (if n==t then s else k) t
def partOne(ps:List (Txt×Nat))(t:Txt):Nat:=partFold ps (if t==cOpen||t==cClose then 0 else 1) t
def partsGo(ps:List (Txt×Nat)):Nat→List RTok→Nat
 | n,[]=>n
 | n,t :: r=>if n+partOne ps t.text>150 then 151 else partsGo ps (n+partOne ps t.text) r
def sizesGo:List (Txt×Nat)→List RSt→List (Txt×Nat)
 | ps,[]=>ps
 | ps,s :: r=>sizesGo (Sum.elim (fun d:LetD=>ps++[(d.name.text,partsGo ps 0 d.e.toks)]) (fun _:RuleD=>ps) s) r
def rulePartsGo(ps:List (Txt×Nat)):List RSt→Nat
 | []=>0
 | s :: r=>Sum.elim (fun _:LetD=>0) (fun d:RuleD=>partsGo ps 0 (optToks (d.wh.map Prod.snd))+partsGo ps 0 (optToks d.sc)) s+rulePartsGo ps r
theorem sizesGo_let(ps:List (Txt×Nat))(kw name eq:RTok)(e:Tr)(semi:RTok)(r:List RSt):sizesGo ps (.letS kw name eq e semi :: r)=sizesGo (ps++[(name.text,partsGo ps 0 e.toks)]) r:=rfl
theorem rulePartsGo_rule(ps:List (Txt×Nat))(wh:Option (RTok×Tr))(act:RTok)(sc:Option Tr)(semi:RTok)(r:List RSt):rulePartsGo ps (.rule wh act sc semi :: r)=partsGo ps 0 (optToks (wh.map Prod.snd))+partsGo ps 0 (optToks sc)+rulePartsGo ps r:=rfl
def bigT(lets rules:List RSt):Bool:=decide (rulePartsGo (sizesGo [] lets) rules>150)
end Go.Proofs.YtpcjadaeolkngaaGreatDoor
