/-
  What the program's reader may find at a place where an EXPR is wanted: a tree, or the first token that can't stand there: plain.
-/
import Derived.Test.YtgfnkeiigjholaaGreatDoorQ10
set_option linter.unusedVariables false
set_option linter.unusedSimpArgs false
namespace Go.Proofs.YtgfnkeiigjholaaGreatDoor
open Go.Deep
structure PNode where
 tok:RTok
 ops:Nat
 left:Nat
 right:Nat
def numB:BT (RTok×RTok)→Nat
 | .nil=>0
 | .node 0 _ a _ _=>1
 | .node 1 _ a e _=>numB e+1
 | .node 2 _ a l r=>numB l+numB r+1
 | .node _ _ a e _=>numB e
def flatB:Nat→BT (RTok×RTok)→List PNode
 | _,.nil=>[]
 | _,.node 0 _ a _ _=>[⟨a.1,0,0,0⟩]
 | b,.node 1 _ a e _=>flatB b e++[⟨a.1,1,b+numB e-1,0⟩]
 | b,.node 2 _ a l r=>flatB b l++flatB (b+numB l) r++[⟨a.1,2,b+numB l-1,b+numB l+numB r-1⟩]
 | b,.node _ _ a e _=>flatB b e
def Tr.num(t:Tr):Nat:=numB t
def Tr.flat(b:Nat)(t:Tr):List PNode:=flatB b t
theorem Tr.num_leaf(t:RTok):(Tr.leaf t).num=1:=rfl
theorem Tr.num_un(op:RTok)(e:Tr):(Tr.un op e).num=e.num+1:=rfl
theorem Tr.num_bin(op:RTok)(l r:Tr):(Tr.bin op l r).num=l.num+r.num+1:=rfl
theorem Tr.num_par(o:RTok)(e:Tr)(c:RTok):(Tr.par o e c).num=e.num:=rfl
theorem Tr.flat_leaf(b:Nat)(t:RTok):(Tr.leaf t).flat b=[⟨t,0,0,0⟩]:=rfl
theorem Tr.flat_un(b:Nat)(op:RTok)(e:Tr):(Tr.un op e).flat b=e.flat b++[⟨op,1,b+e.num-1,0⟩]:=rfl
theorem Tr.flat_bin(b:Nat)(op:RTok)(l r:Tr):(Tr.bin op l r).flat b=l.flat b++r.flat (b+l.num)++[⟨op,2,b+l.num-1,b+l.num+r.num-1⟩]:=rfl
theorem Tr.flat_par(b:Nat)(o:RTok)(e:Tr)(c:RTok):(Tr.par o e c).flat b=e.flat b:=rfl
theorem Tr.num_pos(t:Tr)(h:t.wf):1≤t.num:=by
 refine Tr.ind (P:=fun t=>1≤t.num) t h ?_ ?_ ?_ ?_
 ·intro t _;rw[Tr.num_leaf];omega
 ·intro op e _ _;rw[Tr.num_un];omega
 ·intro op l r _ _ _;rw[Tr.num_bin];omega
 ·intro o e c _ he;rw[Tr.num_par];exact he
theorem Tr.num_le(t:Tr)(h:t.wf):t.num≤t.toks.length:=by
 refine Tr.ind (P:=fun t=>t.num≤t.toks.length) t h ?_ ?_ ?_ ?_
 ·intro t _;rw[Tr.num_leaf,Tr.toks_leaf];simp
 ·intro op e _ he;rw[Tr.num_un,Tr.toks_un];simp;omega
 ·intro op l r _ h1 h2;rw[Tr.num_bin,Tr.toks_bin];simp;omega
 ·intro o e c _ he;rw[Tr.num_par,Tr.toks_par];simp;omega
theorem Tr.flat_len(t:Tr)(h:t.wf):∀ b,(t.flat b).length=t.num:=by
 refine Tr.ind (P:=fun t=>∀ b,(t.flat b).length=t.num) t h ?_ ?_ ?_ ?_
 ·intro t _ b;rfl
 ·intro op e _ he b;rw[Tr.flat_un,Tr.num_un,List.length_append,he];rfl
 ·intro op l r _ h1 h2 b;rw[Tr.flat_bin,Tr.num_bin,List.length_append,List.length_append,h1,h2];rfl
 ·intro o e c _ he b;rw[Tr.flat_par,Tr.num_par,he]
theorem goS_append:∀ (a b:List RTok) (p:Spot),goS p (a++b)=match goS p a with | .ok q=>goS q b | .error e=>.error e
 | [],b,p=>rfl
 | t :: r,b,p=>by
  simp only[List.cons_append,goS]
  split
  ·exact goS_append r b _
  ·rfl
theorem goS_ok{a b:List RTok}{p q:Spot}(h:goS p a=.ok q):goS p (a++b)=goS q b:=by rw[goS_append,h]
theorem goS_cons{t:RTok}{r:List RTok}{p q:Spot}(h:stepS p t.text=(q,true)):goS p (t :: r)=goS q r:=by simp only[goS,h,if_true]
structure BadS(p:Spot)(l:List RTok)(k:Nat):Prop where
 le:k≤l.length
 ex:∃ q,goS p (l.take k)=.ok q∧(l.length≤k→q.next≠6)∧∀ h:k<l.length,(stepS q l[k].text).2=false
theorem BadS.here2{p:Spot}{l:List RTok}(hp:l=[]→p.next≠6)(h:∀ a r,l=a :: r→(stepS p a.text).2=false):BadS p l 0:=by
 refine ⟨Nat.zero_le _,p,rfl,fun hl=>hp (List.eq_nil_of_length_eq_zero (by omega)),fun hl=>?_⟩
 cases l with
 | nil=>cases hl
 | cons a r=>exact h a r rfl
theorem BadS.here{p:Spot}{l:List RTok}(hp:p.next≠6)(h:∀ a r,l=a :: r→(stepS p a.text).2=false):BadS p l 0:=BadS.here2 (fun _=>hp) h
theorem BadS.behind{p q:Spot}{a b:List RTok}{k:Nat}(h:goS p a=.ok q)(hb:BadS q b k):BadS p (a++b) (a.length+k):=by
 obtain ⟨h1,q',h2,h3,h4⟩:=hb
 refine ⟨by simp;omega,q', ?_,fun hh=>h3 (by simp at hh;omega),fun hl=>?_⟩
 ·rw[List.take_length_add_append,goS_ok h];exact h2
 ·rw[List.getElem_append_right (by omega)]
  have:=h4 (by simp at hl;omega)
  simpa using this
theorem BadS.one{p q:Spot}{t:RTok}{b:List RTok}{k:Nat}(h:stepS p t.text=(q,true))(hb:BadS q b k):BadS p (t :: b) (k+1):=by
 have:=BadS.behind (a:=[t]) (p:=p) (q:=q) (by rw[goS_cons h];rfl) hb
 rw[show k+1=[t].length+k by simp;omega]
 exact this
structure GotO(d:Nat)(l:List RTok)(t:Tr)(rest:List RTok):Prop where
 eq:l=t.toks++rest
 wf:t.wf
 go:∀ x,goS ⟨3,x,d⟩ t.toks=.ok ⟨4,x,d⟩
def stops(least:Nat)(rest:List RTok):Prop:=∀ a r,rest=a :: r→bindsT a.text<least∨bindsT a.text=0
def BadV(d:Nat)(l:List RTok)(k:Nat):Prop:=∀ x,BadS ⟨3,x,d⟩ l k
theorem value_leaf{a:RTok}(hm:mayT a.text=true)(hs:singleT a.text=true)(x d:Nat):stepS ⟨3,x,d⟩ a.text=(⟨4,x,d⟩,true):=by
 have K:=kindOf _ hm
 have h1:singleK (kindP a.text)=true:=by rw[K.single];exact hs
 have n1:a.text≠cMinus:=fun e=>by rw[K.kminus.2 e]at h1;cases h1
 have n2:a.text≠cNot:=fun e=>by rw[K.knot.2 e]at h1;cases h1
 have n3:a.text≠cOpen:=fun e=>by rw[K.kopen.2 e]at h1;cases h1
 unfold singleT at hs
 simp[stepS,valueS,n1,n2,n3,hs]
theorem leaf_wf{a:RTok}(hm:mayT a.text=true)(hs:singleT a.text=true):(Tr.leaf a).wf:=by
 have K:=kindOf _ hm
 have h1:singleK (kindP a.text)=true:=by rw[K.single];exact hs
 have n1:a.text≠cMinus:=fun e=>by rw[K.kminus.2 e]at h1;cases h1
 have n2:a.text≠cNot:=fun e=>by rw[K.knot.2 e]at h1;cases h1
 have n3:a.text≠cOpen:=fun e=>by rw[K.kopen.2 e]at h1;cases h1
 have n4:a.text≠cClose:=fun e=>by rw[K.kclose.2 e]at h1;cases h1
 refine ⟨⟨rfl,rfl,rfl,rfl⟩,hs,n3,n4,by simp[unT,n1,n2], ?_⟩
 rw[← K.binds]
 unfold singleK at h1
 simp only[Bool.or_eq_true,Bool.and_eq_true,decide_eq_true_eq]at h1
 unfold bindK
 split;omega
 split;omega
 split;omega
 split;omega
 split;omega
 rfl
theorem GotO.leaf{a:RTok}{r:List RTok}(hm:mayT a.text=true)(hs:singleT a.text=true)(d:Nat):GotO d (a :: r) (Tr.leaf a) r :=
 ⟨rfl,leaf_wf hm hs,fun x=>by rw[Tr.toks_leaf,goS_cons (value_leaf hm hs x d)];rfl⟩
theorem value_un{a:RTok}(hu:unT a.text=true)(x d:Nat):stepS ⟨3,x,d⟩ a.text=(⟨3,x,d⟩,true):=by
 unfold unT at hu
 simp only[stepS,valueS,hu,if_true]
 rfl
theorem GotO.un{op:RTok}{r rest:List RTok}{d:Nat}{t:Tr}(hu:unT op.text=true)(h:GotO d r t rest)(hl:t.level=6):GotO d (op :: r) (Tr.un op t) rest :=
 ⟨by rw[h.eq];rfl,⟨⟨rfl,rfl,rfl⟩,hu,hl,h.wf⟩,fun x=>by rw[Tr.toks_un,goS_cons (value_un hu x d)];exact h.go x⟩
theorem BadV.un{op:RTok}{r:List RTok}{d k:Nat}(hu:unT op.text=true)(h:BadV d r k):BadV d (op :: r) (k+1):=fun x=>BadS.one (value_un hu x d) (h x)
theorem value_open{a:RTok}(ho:a.text=cOpen)(x d:Nat)(hd:d<8):stepS ⟨3,x,d⟩ a.text=(⟨3,x,d+1⟩,true):=by
 have:d+1≤8:=hd
 simp[stepS,valueS,ho,cOpen,cMinus,cNot,this]
theorem after_close{a:RTok}(hc:a.text=cClose)(x d:Nat):stepS ⟨4,x,d+1⟩ a.text=(⟨4,x,d⟩,true):=by
 simp[stepS,afterS,hc,show jointT cClose=false by decide]
theorem GotO.par{o c:RTok}{r rest:List RTok}{d:Nat}{t:Tr}(ho:o.text=cOpen)(hc:c.text=cClose)(hd:d<8)(h:GotO (d+1) r t (c :: rest)):GotO d (o :: r) (Tr.par o t c) rest :=
 ⟨by rw[h.eq,Tr.toks_par];simp,⟨⟨rfl,rfl⟩,ho,hc,h.wf⟩,fun x=>by rw[Tr.toks_par,goS_cons (value_open ho x d hd),goS_ok (h.go x),goS_cons (after_close hc x d)];rfl⟩
theorem BadV.par{o:RTok}{r:List RTok}{d k:Nat}(ho:o.text=cOpen)(hd:d<8)(h:BadV (d+1) r k):BadV d (o :: r) (k+1):=fun x=>BadS.one (value_open ho x d hd) (h x)
theorem BadV.close{o:RTok}{r rest:List RTok}{d:Nat}{t:Tr}(ho:o.text=cOpen)(hd:d<8)(h:GotO (d+1) r t rest)(hs:stops 1 rest)(hc:∀ a r',rest=a :: r'→a.text≠cClose):BadV d (o :: r) (t.toks.length+1):=by
 intro x
 refine BadS.one (value_open ho x d hd) ?_
 rw[h.eq]
 have:=BadS.behind (h.go x) (BadS.here (p:=⟨4,x,d+1⟩) (l:=rest) (by simp) fun a r' e=>?_)
 ·exact this
 ·have h1:=hs a r' e
  have h2:jointT a.text=false:=by
   cases hj:jointT a.text with
   | false=>rfl
   | true=>have:=(joint_binds _).1 hj;omega
  simp[stepS,afterS,h2]
  exact hc a r' e
theorem BadV.none{l:List RTok}{d:Nat}(h:∀ a r,l=a :: r→mayT a.text=true∧singleT a.text=false∧unT a.text=false∧(a.text=cOpen→8≤d)):BadV d l 0:=by
 intro x
 refine BadS.here (by simp) fun a r e=>?_
 obtain ⟨h0,h1,h2,h3⟩:=h a r e
 unfold singleT at h1
 unfold unT at h2
 by_cases ho:a.text=cOpen
 ·have:=h3 ho
  simp[stepS,valueS,ho,cOpen,cMinus,cNot]
  omega
 ·simp at h1 h2
  simp[stepS,valueS,h1,h2,ho]
theorem after_joint{a:RTok}(hj:0<bindsT a.text)(x d:Nat):stepS ⟨4,x,d⟩ a.text=(⟨3,x,d⟩,true):=by
 simp[stepS,afterS,(joint_binds a.text).2 hj]
theorem BadV.right{l r:List RTok}{op:RTok}{d k:Nat}{t:Tr}(h:GotO d l t (op :: r))(hj:0<bindsT op.text)(hb:BadV d r k):BadV d l (t.toks.length+(k+1)):=by
 intro x
 rw[h.eq]
 exact BadS.behind (h.go x) (BadS.one (after_joint hj x d) (hb x))
theorem GotO.bin{l r rest:List RTok}{op:RTok}{d:Nat}{t u:Tr}(hm:mayT op.text=true)(h:GotO d l t (op :: r))(hj:0<bindsT op.text)(hl:bindsT op.text≤t.level)(g:GotO d r u rest)(hr:bindsT op.text<u.level):GotO d l (Tr.bin op t u) rest:=by
 have K:=kindOf _ hm
 have n3:op.text≠cOpen:=fun e=>by rw[e]at hj;revert hj;decide
 have n4:op.text≠cClose:=fun e=>by rw[e]at hj;revert hj;decide
 refine ⟨by rw[h.eq,g.eq,Tr.toks_bin];simp,⟨⟨rfl,rfl⟩,hj,n3,n4,hl,hr,h.wf,g.wf⟩,fun x=>?_⟩
 rw[Tr.toks_bin,goS_ok (h.go x),goS_cons (after_joint hj x d)]
 exact g.go x
end Go.Proofs.YtgfnkeiigjholaaGreatDoor
