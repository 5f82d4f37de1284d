/-
  The kinds of values of a policy: the document's look and the program's agree: plain.
-/
import Derived.Test.YtpcjadaeolkngaaGreatDoorJ02
set_option linter.unusedVariables false
set_option linter.unusedSimpArgs false
namespace Go.Proofs.YtpcjadaeolkngaaGreatDoor
open Go.Deep
def kindOne(k:Nat):Nat :=
 if k=1∨k=15∨k=16∨k=18∨k=19∨k=20 then 1
 else if k=10∨k=11 then 2
 else if k=12∨k=13∨k=14∨k=17∨k=21 then 3
 else 0
def kindUn(op a:Nat):Nat:=if op=28∧a=1 then 1 else if op=9∧a=2 then 2 else 0
def kindBin(op a b:Nat):Nat :=
 if a≠b then 0
 else if op=23∨op=24 then 2
 else if op=25∨op=26 then (if a=1 then 2 else 0)
 else if op=7∨op=8 then (if a=2 then 2 else 0)
 else if op=27∨op=28∨op=29∨op=30∨op=31 then (if a=1 then 1 else 0)
 else 0
def kindAt(ks:List Nat)(e:PExp):Nat:=ks.getD (e.behind-1) 0
def nodeK(ls:List PLet)(ks:List Nat)(n:PNode):Nat :=
 if n.ops=1 then kindUn (kindP n.tok.text) (ks.getD n.left 0)
 else if n.ops=2 then kindBin (kindP n.tok.text) (ks.getD n.left 0) (ks.getD n.right 0)
 else if kindP n.tok.text=2 then (match ls[letIx ls n.tok.text]? with | some p=>kindAt ks p.val | none=>0)
 else kindOne (kindP n.tok.text)
def failK(f:Option Nat)(bad:Bool)(p:Nat):Option Nat:=match f with
 | some q=>some q
 | none=>if bad then some p else none
def lookGo(ls:List PLet):List Nat→Option Nat→List PNode→List Nat×Option Nat
 | ks,f,[]=>(ks,f)
 | ks,f,n :: r=>lookGo ls (ks++[nodeK ls ks n]) (failK f (nodeK ls ks n==0) n.tok.at') r
theorem failK_some(q:Nat)(b:Bool)(p:Nat):failK (some q) b p=some q:=rfl
theorem lookGo_append(ls:List PLet):∀ (a b:List PNode) (ks:List Nat) (f:Option Nat),lookGo ls ks f (a++b)=lookGo ls (lookGo ls ks f a).1 (lookGo ls ks f a).2 b
 | [],b,ks,f=>rfl
 | n :: r,b,ks,f=>by simp only[List.cons_append,lookGo,lookGo_append ls r b]
theorem lookGo_some(ls:List PLet):∀ (l:List PNode) (ks:List Nat) (q:Nat),(lookGo ls ks (some q) l).2=some q∧∃ ks',ks'.length=l.length∧(lookGo ls ks (some q) l).1=ks++ks'
 | [],ks,q=>⟨rfl,[],rfl,by simp[lookGo]⟩
 | n :: r,ks,q=>by
  obtain ⟨h1,ks',h2,h3⟩:=lookGo_some ls r (ks++[nodeK ls ks n]) q
  refine ⟨h1,nodeK ls ks n :: ks',by simp[h2], ?_⟩
  simp only[lookGo,failK_some];rw[h3];simp
theorem getD_left{a b:List Nat}{i:Nat}(h:i<a.length):(a++b).getD i 0=a.getD i 0:=by
 simp only[List.getD_eq_getElem?_getD,List.getElem?_append_left h]
theorem getD_last(a:List Nat)(x:Nat)(i:Nat)(h:i=a.length):(a++[x]).getD i 0=x:=by
 subst h;simp[List.getD_eq_getElem?_getD]
theorem kind_single{t:Txt}(hm:mayT t=true)(hs:singleT t=true)(hn:nameT t=false):kindP t≠2∧kindOne (kindP t)=leafKindT t∧leafKindT t≠0:=by
 have K:=kindOf t hm
 have h2:kindP t≠2:=fun h=>by rw[K.kname.1 h]at hn;cases hn
 refine ⟨h2, ?_⟩
 rcases kind_cases t hm with ⟨hd,hk⟩ | ⟨_,_,hk⟩ | ⟨k,hk,rfl,hk2⟩ | ⟨k,hk,rfl,hk2⟩
 ·rw[hk]
  have hh:48≤headC t∧headC t≤57:=by simpa[isDig] using hd
  have n1:∀ u:Txt,¬ (48≤headC u∧headC u≤57)→t≠u:=fun u hu e=>hu (by rw[← e];exact hh)
  have a1:(t==cTrue)=false:=by simpa using n1 cTrue (by decide)
  have a2:(t==cFalse)=false:=by simpa using n1 cFalse (by decide)
  have a3:classT t=false:=by
   simp only[classT,tClass,List.contains_cons,List.contains_nil,Bool.or_false,Bool.or_eq_false_iff,beq_eq_false_iff_ne]
   exact ⟨n1 _ (by decide),n1 _ (by decide),n1 _ (by decide),n1 _ (by decide),n1 _ (by decide)⟩
  simp[leafKindT,a1,a2,a3,kindOne]
 ·exact absurd hk h2
 ·have:∀ k (hk:k<19),singleT (tWords[k]'hk)=true→kindOne (3+k)=leafKindT (tWords[k]'hk)∧leafKindT (tWords[k]'hk)≠0:=by decide
  rw[hk2]
  exact this k hk hs
 ·have:∀ k (hk:k<12),singleT (tSign[k]'hk)=false:=by decide
  rw[this k hk]at hs
  cases hs
theorem kind_un{t:Txt}(hm:mayT t=true)(hu:unT t=true)(a:Nat):kindUn (kindP t) a=madeT t a a:=by
 simp only[unT,Bool.or_eq_true,beq_iff_eq]at hu
 rcases hu with rfl | rfl
 ·rw[show kindP cMinus=28 by decide]
  by_cases h:a=1
  ·subst h;decide
  ·simp[kindUn,madeT,h,show (cMinus==cAnd)=false by decide,show (cMinus==cOr)=false by decide,show (cMinus==cNot)=false by decide,show (cMinus==cEq)=false by decide,show (cMinus==cNeq)=false by decide]
 ·rw[show kindP cNot=9 by decide]
  by_cases h:a=2
  ·subst h;decide
  ·simp[kindUn,madeT,h]
theorem kind_bin{t:Txt}(hb:0<bindsT t)(a b:Nat):kindBin (kindP t) a b=madeT t a b:=by
 have hj:=(joint_binds t).2 hb
 simp only[jointT,tJoint,List.contains_cons,List.contains_nil,Bool.or_false,Bool.or_eq_true,beq_iff_eq]at hj
 rcases hj with rfl | rfl | rfl | rfl | rfl | rfl | rfl | rfl | rfl | rfl | rfl
 all_goals
  simp only[kindBin,madeT,show kindP [111,114]=8 by decide,show kindP [97,110,100]=7 by decide,show kindP [61]=23 by decide,show kindP [33,61]=24 by decide,show kindP [60]=25 by decide,show kindP [60,61]=26 by decide,show kindP [43]=27 by decide,show kindP [45]=28 by decide,show kindP [42]=29 by decide,show kindP [47]=30 by decide,show kindP [37]=31 by decide]
  simp[cAnd,cOr,cNot,cEq,cNeq,cLess,cMost]
  repeat' split
  all_goals omega
def Scoped(ls:List PLet)(ks:List Nat)(c:List (Txt×Nat))(x:Txt):Prop:=∃ p,ls[letIx ls x]?=some p∧1≤p.val.behind∧p.val.behind≤ks.length∧kindAt ks p.val=knownT c x∧knownT c x≠0
theorem Scoped.more{ls:List PLet}{ks:List Nat}{c:List (Txt×Nat)}{x:Txt}(h:Scoped ls ks c x)(ks':List Nat):Scoped ls (ks++ks') c x:=by
 obtain ⟨p,h1,h2,h3,h4,h5⟩:=h
 refine ⟨p,h1,h2,by simp;omega, ?_,h5⟩
 unfold kindAt at h4 ⊢
 rw[getD_left (by omega)]
 exact h4
def Looked(ls:List PLet)(c:List (Txt×Nat))(ks:List Nat)(l:List PNode)(n:Nat):Except Nat Nat→Prop
 | .ok k=>k≠0∧∃ ks',ks'.length=n∧lookGo ls ks none l=(ks++ks',none)∧(ks++ks').getD (ks.length+n-1) 0=k
 | .error p=>∃ ks',ks'.length=n∧lookGo ls ks none l=(ks++ks',some p)
theorem look_tree(ls:List PLet)(c:List (Txt×Nat))(t:Tr)(h:t.wf):∀ ks,(∀ x∈t.toks,mayT x.text=true)→(∀ x∈t.toks,nameT x.text=true→Scoped ls ks c x.text)→Looked ls c ks (t.flat ks.length) t.num (kindT c t):=by
 refine Tr.ind (P:=fun t=>∀ ks,(∀ x∈t.toks,mayT x.text=true)→(∀ x∈t.toks,nameT x.text=true→Scoped ls ks c x.text)→Looked ls c ks (t.flat ks.length) t.num (kindT c t)) t h ?_ ?_ ?_ ?_
 ·intro a ha ks hm hn
  rw[kindT_leaf,Tr.flat_leaf,Tr.num_leaf]
  have hma:=hm a (by simp[Tr.toks_leaf])
  have hs:=(Tr.wf_leaf ha).1
  cases hna:nameT a.text with
  | true =>
   obtain ⟨p,g1,g2,g3,g4,g5⟩:=hn a (by simp[Tr.toks_leaf]) hna
   have hk:kindP a.text=2:=(kindOf _ hma).kname.2 hna
   have hv:nodeK ls ks ⟨a,0,0,0⟩=knownT c a.text:=by simp only[nodeK,hk];simp[g1,g4]
   simp only[if_true,Looked]
   refine ⟨g5,[knownT c a.text],rfl, ?_,getD_last _ _ _ (by omega)⟩
   simp[lookGo,hv,failK,g5]
  | false =>
   obtain ⟨g1,g2,g3⟩:=kind_single hma hs hna
   have hv:nodeK ls ks ⟨a,0,0,0⟩=leafKindT a.text:=by simp only[nodeK,g2];simp[g1]
   simp only[Looked,Bool.false_eq_true,if_false]
   refine ⟨g3,[leafKindT a.text],rfl, ?_,getD_last _ _ _ (by omega)⟩
   simp[lookGo,hv,failK,g3]
 ·intro op e hw ih ks hm hn
  have hu:=(Tr.wf_un hw).1
  have hpos:=e.num_pos (Tr.wf_un hw).2.2
  have hmo:=hm op (by simp[Tr.toks_un])
  have ih':=ih ks (fun x hx=>hm x (by simp[Tr.toks_un,hx])) (fun x hx=>hn x (by simp[Tr.toks_un,hx]))
  rw[kindT_un,Tr.flat_un,Tr.num_un]
  cases hk:kindT c e with
  | error p =>
   rw[hk]at ih'
   obtain ⟨ks',g1,g2⟩:=ih'
   refine ⟨ks'++[nodeK ls (ks++ks') ⟨op,1,ks.length+e.num-1,0⟩],by simp[g1], ?_⟩
   rw[lookGo_append,g2]
   simp[lookGo,failK]
  | ok k =>
   rw[hk]at ih'
   obtain ⟨hk0,ks',g1,g2,g3⟩:=ih'
   have hv:nodeK ls (ks++ks') ⟨op,1,ks.length+e.num-1,0⟩=madeT op.text k k:=by simp only[nodeK,if_true,g3];exact kind_un hmo hu k
   have hlook:lookGo ls ks none (e.flat ks.length++[⟨op,1,ks.length+e.num-1,0⟩])=(ks++(ks'++[madeT op.text k k]),if madeT op.text k k=0 then some op.at' else none):=by
    rw[lookGo_append,g2]
    simp only[lookGo,hv,failK]
    simp
   simp only
   by_cases hz:madeT op.text k k=0
   ·rw[if_pos hz]at hlook ⊢
    exact ⟨_,by simp[g1],hlook⟩
   ·rw[if_neg hz]at hlook ⊢
    refine ⟨hz,_,by simp[g1],hlook, ?_⟩
    rw[← List.append_assoc]
    exact getD_last _ _ _ (by simp[g1])
 ·intro op l r hw h1 h2 ks hm hn
  obtain ⟨w1,_,_,_,_,w6,w7⟩:=Tr.wf_bin hw
  have hpl:=l.num_pos w6
  have hpr:=r.num_pos w7
  have i1:=h1 ks (fun x hx=>hm x (by simp[Tr.toks_bin,hx])) (fun x hx=>hn x (by simp[Tr.toks_bin,hx]))
  rw[kindT_bin,Tr.flat_bin,Tr.num_bin]
  cases hk:kindT c l with
  | error p =>
   rw[hk]at i1
   obtain ⟨ks',g1,g2⟩:=i1
   obtain ⟨s1,ks2,s2,s3⟩:=lookGo_some ls (r.flat (ks.length+l.num)++[⟨op,2,ks.length+l.num-1,ks.length+l.num+r.num-1⟩]) (ks++ks') p
   refine ⟨ks'++ks2,by simp[g1,s2,r.flat_len w7];omega, ?_⟩
   rw[List.append_assoc,lookGo_append,g2]
   refine Prod.ext ?_ s1
   rw[s3];simp
  | ok x =>
   rw[hk]at i1
   obtain ⟨hx0,ks',g1,g2,g3⟩:=i1
   have hlen:(ks++ks').length=ks.length+l.num:=by simp[g1]
   have i2:=h2 (ks++ks') (fun x hx=>hm x (by simp[Tr.toks_bin,hx])) (fun x hx hx2=>(hn x (by simp[Tr.toks_bin,hx]) hx2).more ks')
   rw[hlen]at i2
   simp only
   cases hk2:kindT c r with
   | error p =>
    rw[hk2]at i2
    obtain ⟨ks2,q1,q2⟩:=i2
    refine ⟨ks'++ks2++[nodeK ls (ks++ks'++ks2) ⟨op,2,ks.length+l.num-1,ks.length+l.num+r.num-1⟩],by simp[g1,q1,Nat.add_assoc], ?_⟩
    rw[List.append_assoc,lookGo_append,g2]
    simp only
    rw[lookGo_append,q2]
    simp[lookGo,failK]
   | ok b =>
    rw[hk2]at i2
    obtain ⟨hb0,ks2,q1,q2,q3⟩:=i2
    rw[hlen]at q3
    have e1:(ks++ks'++ks2).getD (ks.length+l.num-1) 0=x:=by rw[getD_left (by rw[hlen];omega)];exact g3
    have hv:nodeK ls (ks++ks'++ks2) ⟨op,2,ks.length+l.num-1,ks.length+l.num+r.num-1⟩=madeT op.text x b:=by
     have:¬ (2=1):=by omega
     simp only[nodeK,if_true,if_neg this,e1,q3]
     exact kind_bin w1 x b
    have hlook:lookGo ls ks none (l.flat ks.length++r.flat (ks.length+l.num)++[⟨op,2,ks.length+l.num-1,ks.length+l.num+r.num-1⟩])=(ks++(ks'++ks2++[madeT op.text x b]),if madeT op.text x b=0 then some op.at' else none):=by
     rw[List.append_assoc,lookGo_append,g2]
     simp only
     rw[lookGo_append,q2]
     simp only[lookGo,hv,failK]
     simp
    simp only
    by_cases hz:madeT op.text x b=0
    ·rw[if_pos hz]at hlook ⊢
     exact ⟨_,by simp[g1,q1,Nat.add_assoc],hlook⟩
    ·rw[if_neg hz]at hlook ⊢
     refine ⟨hz,_,by simp[g1,q1,Nat.add_assoc],hlook, ?_⟩
     rw[← List.append_assoc]
     exact getD_last _ _ _ (by simp[g1,q1])
 ·intro o e cl hw ih ks hm hn
  rw[kindT_par,Tr.flat_par,Tr.num_par]
  exact ih ks (fun x hx=>hm x (by simp[Tr.toks_par,hx])) (fun x hx=>hn x (by simp[Tr.toks_par,hx]))
abbrev KSt:=List Nat×Option Nat
def lookFor(ls:List PLet)(N:List PNode)(want:Nat)(e:PExp)(st:KSt):KSt :=
 ((lookGo ls st.1 st.2 (segE N e)).1,failK (lookGo ls st.1 st.2 (segE N e)).2 (decide (kindAt (lookGo ls st.1 st.2 (segE N e)).1 e≠want)) e.place)
def kindsL(ls:List PLet)(N:List PNode):KSt→List PLet→KSt
 | st,[]=>st
 | st,p :: r=>kindsL ls N (lookGo ls st.1 st.2 (segE N p.val)) r
def whenK(ls:List PLet)(N:List PNode)(p:PRule)(st:KSt):KSt:=if p.hw then lookFor ls N 2 p.when st else st
def scoreK(ls:List PLet)(N:List PNode)(p:PRule)(st:KSt):KSt:=if p.hs then lookFor ls N 1 p.score st else st
def kindsR(ls:List PLet)(N:List PNode):KSt→List PRule→KSt
 | st,[]=>st
 | st,p :: r=>kindsR ls N (scoreK ls N p (whenK ls N p st)) r
def pKinds(N:List PNode)(ls:List PLet)(rs:List PRule):Option Nat:=(kindsR ls N (kindsL ls N ([],none) ls) rs).2
theorem lookFor_some(ls:List PLet)(N:List PNode)(want:Nat)(e:PExp)(ks:List Nat)(q:Nat):(lookFor ls N want e (ks,some q)).2=some q:=by
 simp only[lookFor,(lookGo_some ls (segE N e) ks q).1,failK_some]
theorem some_pair{st:KSt}{q:Nat}(h:st.2=some q):st=(st.1,some q):=by rw[← h]
theorem whenK_some(ls:List PLet)(N:List PNode)(p:PRule)(st:KSt)(q:Nat)(h:st.2=some q):(whenK ls N p st).2=some q:=by
 unfold whenK;split
 ·rw[some_pair h];exact lookFor_some ..
 ·exact h
theorem scoreK_some(ls:List PLet)(N:List PNode)(p:PRule)(st:KSt)(q:Nat)(h:st.2=some q):(scoreK ls N p st).2=some q:=by
 unfold scoreK;split
 ·rw[some_pair h];exact lookFor_some ..
 ·exact h
theorem kindsR_some(ls:List PLet)(N:List PNode)(q:Nat):∀ (l:List PRule) (st:KSt),st.2=some q→(kindsR ls N st l).2=some q
 | [],st,h=>h
 | p :: r,st,h=>kindsR_some ls N q r _ (scoreK_some ls N p _ q (whenK_some ls N p st q h))
theorem kindsL_some(ls:List PLet)(N:List PNode)(q:Nat):∀ (l:List PLet) (st:KSt),st.2=some q→(kindsL ls N st l).2=some q
 | [],st,h=>h
 | p :: r,st,h=>kindsL_some ls N q r _ (by rw[h];exact (lookGo_some ls _ _ q).1)
theorem knownT_at(x:Txt)(k:Nat):∀ (c:List (Txt×Nat)) (j:Nat),c[j]?=some (x,k)→(∀ i,i<j→∀ q,c[i]?=some q→q.1≠x)→knownT c x=k
 | [],j,h,_=>by simp at h
 | (n,v) :: r,0,h,_=>by
  simp only[List.getElem?_cons_zero,Option.some.injEq,Prod.mk.injEq]at h
  simp[knownT,h.1,h.2]
 | (n,v) :: r,j+1,h,h2=>by
  have h0:n≠x:=h2 0 (by omega) (n,v) rfl
  have hb:(n==x)=false:=by simpa using h0
  simp only[knownT,hb]
  simp only[List.getElem?_cons_succ]at h
  exact knownT_at x k r j h fun i hi q hq=>h2 (i+1) (by omega) q (by simpa using hq)
structure ScopeOk(ls:List PLet)(ks:List Nat)(c:List (Txt×Nat))(i:Nat):Prop where
 len:c.length=i
 at':∀ j,j<i→∃ p,ls[j]?=some p∧c[j]?=some (p.name.text,kindAt ks p.val)∧kindAt ks p.val≠0∧1≤p.val.behind∧p.val.behind≤ks.length
theorem ScopeOk.inScope{ls:List PLet}{ks:List Nat}{c:List (Txt×Nat)}{i:Nat}(h:ScopeOk ls ks c i){x:Txt}(hx:letIx ls x<i):Scoped ls ks c x:=by
 obtain ⟨p,h1,h2,h3,h4,h5⟩:=h.at' _ hx
 have hlt:letIx ls x<ls.length:=by
  rw[List.getElem?_eq_some_iff]at h1;exact h1.1
 have hnm:p.name.text=x:=by
  have:=List.findIdx_getElem (p:=fun p:PLet=>p.name.text==x) (xs:=ls) (w:=hlt)
  rw[List.getElem?_eq_some_iff]at h1
  obtain ⟨_,h1'⟩:=h1
  have e:ls[ls.findIdx (fun p=>p.name.text==x)]=p:=h1'
  rw[e]at this
  exact beq_iff_eq.1 this
 have hk:knownT c x=kindAt ks p.val:=by
  refine knownT_at x _ c (letIx ls x) (by rw[h2,hnm]) fun j hj q hq=>?_
  obtain ⟨p',g1,g2,_⟩:=h.at' j (by omega)
  rw[g2]at hq
  cases hq
  simp only
  have:=List.not_of_lt_findIdx (p:=fun p:PLet=>p.name.text==x) (xs:=ls) (i:=j) hj
  rw[List.getElem?_eq_some_iff]at g1
  obtain ⟨_,g1'⟩:=g1
  rw[g1']at this
  simpa using this
 exact ⟨p,h1,h4,h5,hk.symm,by rw[hk];exact h3⟩
theorem ScopeOk.more{ls:List PLet}{ks:List Nat}{c:List (Txt×Nat)}{i:Nat}(h:ScopeOk ls ks c i)(ks':List Nat):ScopeOk ls (ks++ks') c i:=by
 refine ⟨h.len,fun j hj=>?_⟩
 obtain ⟨p,h1,h2,h3,h4,h5⟩:=h.at' j hj
 have e:kindAt (ks++ks') p.val=kindAt ks p.val:=getD_left (by omega)
 exact ⟨p,h1,by rw[e];exact h2,by rw[e];exact h3,h4,by simp;omega⟩
theorem names_none(ls:List PLet)(i:Nat):∀ (l:List RTok),namesToks ls i l=none→∀ x∈l,nameT x.text=true→letIx ls x.text<i
 | [],_,x,hx,_=>by cases hx
 | t :: r,h,x,hx,hn=>by
  simp only[namesToks]at h
  split at h
  ·cases h
  ·rename_i hc
   simp only[List.mem_cons]at hx
   rcases hx with rfl | hx
   ·simp only[hn,Bool.true_and,decide_eq_true_eq]at hc;omega
   ·exact names_none ls i r h x hx hn
def RSt.may(s:RSt):Prop:=∀ x∈s.body,mayT x.text=true
theorem look_for{ls:List PLet}{N pre post:List PNode}{ks:List Nat}{c:List (Txt×Nat)}{e:Tr}{want:Nat}(hw:e.wf)(hm:∀ x∈e.toks,mayT x.text=true)(hk:ks.length=pre.length)(hN:N=pre++e.flat pre.length++post)(hs:∀ x∈e.toks,nameT x.text=true→Scoped ls ks c x.text) :
  match exprK c want (some e) with
  | some p=>(lookFor ls N want (layE pre.length e) (ks,none)).2=some p
  | none=>∃ ks',ks'.length=e.num∧lookFor ls N want (layE pre.length e) (ks,none)=(ks++ks',none):=by
 have h:=look_tree ls c e hw ks hm hs
 rw[hk]at h
 have hseg:=seg_lay hw hN
 simp only[exprK]
 cases hc:kindT c e with
 | error p =>
  rw[hc]at h
  obtain ⟨ks',h1,h2⟩:=h
  simp only[lookFor,hseg,h2,failK_some]
 | ok k =>
  rw[hc]at h
  obtain ⟨hk0,ks',h1,h2,h3⟩:=h
  have ha:kindAt (ks++ks') (layE pre.length e)=k:=by rw[← h3,hk];rfl
  by_cases hkw:k=want
  ·subst hkw
   simp only[if_true]
   exact ⟨ks',h1,by simp[lookFor,hseg,h2,ha,failK]⟩
  ·simp only[if_neg hkw]
   show failK (lookGo ls ks none (segE N (layE pre.length e))).2 (decide (kindAt (lookGo ls ks none (segE N (layE pre.length e))).1 (layE pre.length e)≠want)) (firstAt e)=_
   rw[hseg,h2]
   simp[failK,ha,hkw]
theorem kinds_rules(N:List PNode)(ls:List PLet)(c:List (Txt×Nat)):∀ (R:List RSt),isRuleL' R→(∀ s∈R,s.wf∧s.may)→∀ (pre:List PNode) (ks:List Nat),ks.length=pre.length→ScopeOk ls ks c ls.length→N=pre++nodesS pre.length R→pNamesR N ls (rulesS pre.length R)=none →
  (kindsR ls N (ks,none) (rulesS pre.length R)).2=rulesK c R
 | [],_,_,_,_,_,_,_,_=>rfl
 | s :: r,hr,hw,pre,ks,hk,hsc,hN,hnm=>by
  rcases s.cases with ⟨kw,name,eq,e,semi,rfl⟩ | ⟨wh,act,sc,semi,rfl⟩
  ·have:=hr _ List.mem_cons_self;cases this
  obtain ⟨⟨w1,w2,w3,w4⟩,hmay⟩:=hw _ List.mem_cons_self
  simp only at w1 w2 w3 w4
  have ho1:∀ e,wh.map Prod.snd=some e→e.wf:=by
   intro e he
   cases wh with
   | none=>cases he
   | some p=>cases he;exact (w1 p.1 p.2 rfl).2
  have ho2:∀ e,sc=some e→e.wf:=w3
  have hN1:N=pre++optNodes pre.length (wh.map Prod.snd)++(optNodes (pre.length+optNum (wh.map Prod.snd)) sc++nodesS (pre.length+(RSt.rule wh act sc semi).num) r):=by
   rw[hN,nodesS,RSt.nodes_rule];simp[List.append_assoc]
  have hl1:(pre++optNodes pre.length (wh.map Prod.snd)).length=pre.length+optNum (wh.map Prod.snd):=by rw[List.length_append,optNodes_len _ ho1]
  have hN2:N=(pre++optNodes pre.length (wh.map Prod.snd))++optNodes (pre.length+optNum (wh.map Prod.snd)) sc++nodesS (pre.length+(RSt.rule wh act sc semi).num) r:=by
   rw[hN1];simp[List.append_assoc]
  have hl2:(pre++(RSt.rule wh act sc semi).nodes pre.length).length=pre.length+(RSt.rule wh act sc semi).num:=by rw[List.length_append,RSt.nodes_len _ (hw _ List.mem_cons_self).1]
  rw[rulesS,RSt.rules_rule,List.singleton_append,pNamesR]at hnm
  simp only at hnm
  rw[seg_opt ho1 _ rfl hN1,seg_opt ho2 _ hl1.symm hN2,names_opt ls _ _ ho1,names_opt ls _ _ ho2]at hnm
  have hn1:namesToks ls ls.length (optToks (wh.map Prod.snd))=none:=by
   cases h:namesToks ls ls.length (optToks (wh.map Prod.snd)) with
   | none=>rfl
   | some q=>rw[h]at hnm;cases hnm
  rw[hn1]at hnm
  simp only at hnm
  have hn2:namesToks ls ls.length (optToks sc)=none:=by
   cases h:namesToks ls ls.length (optToks sc) with
   | none=>rfl
   | some q=>rw[h]at hnm;cases hnm
  rw[hn2]at hnm
  simp only at hnm
  have hm1:∀ e,wh.map Prod.snd=some e→∀ x∈e.toks,mayT x.text=true:=by
   intro e he x hx
   cases wh with
   | none=>cases he
   | some p=>cases he;exact hmay x (by rw[RSt.body_rule];simp[whToks,hx])
  have hm2:∀ e,sc=some e→∀ x∈e.toks,mayT x.text=true:=by
   intro e he x hx
   subst he
   exact hmay x (by rw[RSt.body_rule];simp[optToks,hx])
  rw[rulesS,RSt.rules_rule,List.singleton_append,kindsR,rulesK_rule]
    -- behind the `when`
  have step1:match exprK c 2 (wh.map Prod.snd) with
    | some p=>(whenK ls N ⟨wh.isSome,optE pre.length (wh.map Prod.snd),sc.isSome,optE (pre.length+optNum (wh.map Prod.snd)) sc⟩ (ks,none)).2=some p
    | none=>∃ ks',ks'.length=optNum (wh.map Prod.snd)∧whenK ls N ⟨wh.isSome,optE pre.length (wh.map Prod.snd),sc.isSome,optE (pre.length+optNum (wh.map Prod.snd)) sc⟩ (ks,none)=(ks++ks',none):=by
   cases wh with
   | none=>exact ⟨[],rfl,by simp[whenK]⟩
   | some p =>
    obtain ⟨k,e⟩:=p
    have:=look_for (want:=2) (ho1 e rfl) (hm1 e rfl) hk hN1 (fun x hx hx2=>hsc.inScope (names_none ls _ _ hn1 x hx hx2))
    simp only[whenK,Option.isSome_some,if_true]
    exact this
  cases hx1:exprK c 2 (wh.map Prod.snd) with
  | some p =>
   rw[hx1]at step1
   exact kindsR_some ls N p _ _ (scoreK_some ls N _ _ p step1)
  | none =>
   rw[hx1]at step1
   obtain ⟨ks1,g1,g2⟩:=step1
   simp only
   rw[g2]
   have hk1:(ks++ks1).length=(pre++optNodes pre.length (wh.map Prod.snd)).length:=by rw[hl1];simp[g1,hk]
   have step2:match exprK c 1 sc with
     | some p=>(scoreK ls N ⟨wh.isSome,optE pre.length (wh.map Prod.snd),sc.isSome,optE (pre.length+optNum (wh.map Prod.snd)) sc⟩ (ks++ks1,none)).2=some p
     | none=>∃ ks',ks'.length=optNum sc∧scoreK ls N ⟨wh.isSome,optE pre.length (wh.map Prod.snd),sc.isSome,optE (pre.length+optNum (wh.map Prod.snd)) sc⟩ (ks++ks1,none)=(ks++ks1++ks',none):=by
    cases sc with
    | none=>exact ⟨[],rfl,by simp[scoreK]⟩
    | some e =>
     rw[← hl1]at hN2 ⊢
     have:=look_for (want:=1) (ho2 e rfl) (hm2 e rfl) hk1 hN2 (fun x hx hx2=>(hsc.inScope (names_none ls _ _ hn2 x hx hx2)).more ks1)
     simp only[scoreK,Option.isSome_some,if_true]
     exact this
   cases hx2:exprK c 1 sc with
   | some p =>
    rw[hx2]at step2
    exact kindsR_some ls N p _ _ step2
   | none =>
    rw[hx2]at step2
    obtain ⟨ks2,g3,g4⟩:=step2
    simp only
    rw[g4]
    have ih:=kinds_rules N ls c r (fun x hx=>hr x (by simp[hx])) (fun x hx=>hw x (by simp[hx])) (pre++(RSt.rule wh act sc semi).nodes pre.length) (ks++ks1++ks2) (by rw[hl2,RSt.num_rule];simp[hk,g1,g3,Nat.add_assoc]) ((hsc.more ks1).more ks2) (by rw[hl2,hN,nodesS];simp[List.append_assoc]) (by rw[hl2];exact hnm)
    rw[hl2]at ih
    exact ih
theorem kinds_lets(N:List PNode)(ls:List PLet)(R:List RSt)(hR:isRuleL' R)(hRw:∀ s∈R,s.wf∧s.may):∀ (B A:List RSt),isLetL' A→isLetL' B→(∀ s∈A,s.wf)→(∀ s∈B,s.wf∧s.may)→ls=letsS 0 (A++B)→N=nodesS 0 (A++B++R)→∀ (ks:List Nat) (c:List (Txt×Nat)),ks.length=numS A→ScopeOk ls ks c A.length→pNamesL N ls A.length (letsS (numS A) B)=none→pNamesR N ls (rulesS (numS (A++B)) R)=none →
  (kindsR ls N (kindsL ls N (ks,none) (letsS (numS A) B)) (rulesS (numS (A++B)) R)).2=match letsK c B with
   | .error p=>some p
   | .ok c'=>rulesK c' R
 | [],A,hA,_,hAw,_,hls,hN,ks,c,hk,hsc,_,hn=>by
  have hlen:ls.length=A.length:=by rw[hls,List.append_nil,lets_len A hA]
  have hl:(nodesS 0 A).length=numS A:=nodesS_len A hAw 0
  simp only[letsS,kindsL,letsK,List.append_nil]at hn ⊢
  have:=kinds_rules N ls c R hR hRw (nodesS 0 A) ks (by rw[hl,hk]) (by rw[hlen];exact hsc) (by rw[hN,List.append_nil,nodesS_append,hl,Nat.zero_add]) (by rw[hl];exact hn)
  rw[hl]at this
  exact this
 | s :: B,A,hA,hB,hAw,hBw,hls,hN,ks,c,hk,hsc,hn1,hn2=>by
  rcases s.cases with ⟨kw,name,eq,e,semi,rfl⟩ | ⟨wh,act,sc,semi,rfl⟩
  rotate_left
  ·have:=hB _ List.mem_cons_self;cases this
  obtain ⟨⟨w1,w2,w3,w4,w5⟩,hmay⟩:=hBw _ List.mem_cons_self
  simp only at w1 w2 w3 w4 w5
  have hme:∀ x∈e.toks,mayT x.text=true:=fun x hx=>hmay x (by rw[RSt.body_let];simp[hx])
  have hAl:(letsS 0 A).length=A.length:=lets_len A hA 0
  have hgi:ls[A.length]?=some ⟨name,layE (numS A) e⟩:=by
   rw[hls,letsS_append,List.getElem?_append_right (by omega),hAl,Nat.sub_self,letsS,RSt.lets_let]
   simp
  have hn0:(nodesS 0 A).length=numS A:=nodesS_len A hAw 0
  have hseg:segE N (layE (numS A) e)=e.flat (numS A):=by
   rw[← hn0]
   refine seg_lay (post:=nodesS (numS A+e.num) (B++R)) w4 ?_
   rw[hN,List.append_assoc,nodesS_append,hn0,Nat.zero_add,List.cons_append,nodesS,RSt.nodes_let,RSt.num_let];simp[List.append_assoc]
  rw[letsS,RSt.lets_let,RSt.num_let,List.singleton_append,pNamesL]at hn1
  simp only at hn1
  rw[hseg,names_tree ls _ e w4]at hn1
  split at hn1
  ·cases hn1
  have hnt:namesToks ls A.length e.toks=none:=by
   cases h:namesToks ls A.length e.toks with
   | none=>rfl
   | some q=>rw[h]at hn1;cases hn1
  rw[hnt]at hn1
  simp only at hn1
  rw[letsS,RSt.lets_let,RSt.num_let,List.singleton_append,kindsL,letsK_let]
  simp only
  rw[hseg]
  have hL:=look_tree ls c e w4 ks hme (fun x hx hx2=>hsc.inScope (names_none ls _ _ hnt x hx hx2))
  rw[hk]at hL
  cases hc:kindT c e with
  | error p =>
   rw[hc]at hL
   obtain ⟨ks',g1,g2⟩:=hL
   rw[g2]
   exact kindsR_some ls N p _ _ (kindsL_some ls N p _ _ rfl)
  | ok k =>
   rw[hc]at hL
   obtain ⟨hk0,ks',g1,g2,g3⟩:=hL
   rw[g2]
   simp only
   have hpos:=e.num_pos w4
   have hka:kindAt (ks++ks') (layE (numS A) e)=k:=by rw[← g3,hk];rfl
   have hnum:numS (A++[RSt.letS kw name eq e semi])=numS A+e.num:=by rw[numS_append];simp[numS,RSt.num_let]
   have ih:=kinds_lets N ls R hR hRw B (A++[.letS kw name eq e semi]) (by intro x hx;simp at hx;rcases hx with hx | rfl;exact hA x hx;rfl) (fun x hx=>hB x (by simp[hx])) (by intro x hx;simp at hx;rcases hx with hx | rfl;exact hAw x hx;exact ⟨w1,w2,w3,w4,w5⟩) (fun x hx=>hBw x (by simp[hx])) (by rw[hls];simp) (by rw[hN];simp) (ks++ks') (c++[(name.text,k)]) (by rw[hnum];simp[hk,g1]) ?_ (by rw[hnum];simpa using hn1) (by rw[List.append_assoc];exact hn2)
   ·rw[hnum,List.append_assoc]at ih
    exact ih
   ·refine ⟨by simp[hsc.len],fun j hj=>?_⟩
    simp only[List.length_append,List.length_cons,List.length_nil]at hj
    by_cases hj2:j<A.length
    ·obtain ⟨p,q1,q2,q3,q4,q5⟩:=(hsc.more ks').at' j hj2
     exact ⟨p,q1,by rw[List.getElem?_append_left (by rw[hsc.len];omega)];exact q2,q3,q4,q5⟩
    ·have:j=A.length:=by omega
     subst this
     refine ⟨_,hgi, ?_,by rw[hka];exact hk0,by simp[layE];omega,by simp[layE,hk,g1]⟩
     rw[hka,List.getElem?_append_right (by rw[hsc.len];omega),hsc.len,Nat.sub_self]
     rfl
theorem kinds_same(L R:List RSt)(hL:isLetL' L)(hR:isRuleL' R)(hw:∀ s∈L++R,s.wf∧s.may)(hn:pNames (nodesS 0 (L++R)) (letsS 0 (L++R)) (rulesS 0 (L++R))=none) :
  pKinds (nodesS 0 (L++R)) (letsS 0 (L++R)) (rulesS 0 (L++R))=wrongT L R:=by
 have h1:letsS 0 (L++R)=letsS 0 ([]++L):=by rw[letsS_append,lets_none R hR,List.append_nil,List.nil_append]
 have h2:rulesS 0 (L++R)=rulesS (numS L) R:=by rw[rulesS_append,rules_none L hL,List.nil_append,Nat.zero_add]
 unfold pNames at hn
 cases hp:pNamesL (nodesS 0 (L++R)) (letsS 0 (L++R)) 0 (letsS 0 (L++R)) with
 | some q=>rw[hp]at hn;cases hn
 | none =>
  rw[hp]at hn
  simp only at hn
  have:=kinds_lets (nodesS 0 (L++R)) (letsS 0 (L++R)) R hR (fun s hs=>hw s (by simp[hs])) L [] (fun s hs=>by cases hs) hL (fun s hs=>by cases hs) (fun s hs=>hw s (by simp[hs])) h1 rfl [] [] rfl ⟨rfl,fun j hj=>by cases hj⟩ (by rw[h1]at hp;rw[h1];exact hp) (by rw[h2]at hn;exact hn)
  rw[wrongT,pKinds,h2]
  have e4:letsS (numS []) L=letsS 0 (L++R):=by rw[h1];rfl
  rw[e4]at this
  refine Eq.trans ?_ (this.trans ?_)
  ·rfl
  ·cases letsK [] L <;> rfl
end Go.Proofs.YtpcjadaeolkngaaGreatDoor
