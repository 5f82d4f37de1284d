/-
  Expressions as trees that keep their brackets: their tokens, and what the document's root and inside find in them.
-/
import Derived.Test.YtgfnkeiigjholaaGreatDoorQ03
import Derived.Deep.Trees
import Derived.Test.YtgfnkeiigjholaaGreatDoorQ04
set_option linter.unusedVariables false
set_option linter.unusedSimpArgs false
namespace Go.Proofs.YtgfnkeiigjholaaGreatDoor
open Go.Deep
def cNeq:Txt:=[33,61]
def cLess:Txt:=[60]
def cMost:Txt:=[60,61]
def cPlus:Txt:=[43]
def cTimes:Txt:=[42]
def cDiv:Txt:=[47]
def cMod:Txt:=[37]
def bindsT(t:Txt):Nat :=
 if t==cOr then 1
 else if t==cAnd then 2
 else if t==cEq||t==cNeq||t==cLess||t==cMost then 3
 else if t==cPlus||t==cMinus then 4
 else if t==cTimes||t==cDiv||t==cMod then 5
 else 0
theorem bindsT_le(t:Txt):bindsT t≤5:=by
 unfold bindsT
 split
 ·omega
 ·split
  ·omega
  ·split
   ·omega
   ·split
    ·omega
    ·split <;> omega
theorem joint_binds(t:Txt):jointT t=true↔0<bindsT t:=by
 unfold jointT tJoint bindsT cOr cAnd cEq cNeq cLess cMost cPlus cMinus cTimes cDiv cMod
 simp only[List.contains_cons,List.contains_nil,Bool.or_false,Bool.or_eq_true,beq_iff_eq]
 constructor
 ·rintro (rfl | rfl | rfl | rfl | rfl | rfl | rfl | rfl | rfl | rfl | rfl) <;> decide
 ·intro h
  refine Decidable.byContradiction fun hn=>?_
  simp only[not_or]at hn
  obtain ⟨n1,n2,n3,n4,n5,n6,n7,n8,n9,n10,n11⟩:=hn
  simp[n1,n2,n3,n4,n5,n6,n7,n8,n9,n10,n11]at h
def Tr:Type:=BT (RTok×RTok)
def Tr.leaf(t:RTok):Tr:=BT.node 0 0 (t,t) .nil .nil
def Tr.un(op:RTok)(e:Tr):Tr:=BT.node 1 0 (op,op) e .nil
def Tr.bin(op:RTok)(l r:Tr):Tr:=BT.node 2 0 (op,op) l r
def Tr.par(o:RTok)(e:Tr)(c:RTok):Tr:=BT.node 3 0 (o,c) e .nil
def toksB:BT (RTok×RTok)→List RTok
 | .nil=>[⟨[],0⟩]
 | .node 0 _ a _ _=>[a.1]
 | .node 1 _ a e _=>a.1 :: toksB e
 | .node 2 _ a l r=>toksB l++a.1 :: toksB r
 | .node _ _ a e _=>a.1 :: (toksB e++[a.2])
def Tr.toks(t:Tr):List RTok:=toksB t
def levelB:BT (RTok×RTok)→Nat
 | .node 2 _ a _ _=>bindsT a.1.text
 | _=>6
def Tr.level(t:Tr):Nat:=levelB t
theorem Tr.toks_leaf(t:RTok):(Tr.leaf t).toks=[t]:=rfl
theorem Tr.toks_un(op:RTok)(e:Tr):(Tr.un op e).toks=op :: e.toks:=rfl
theorem Tr.toks_bin(op:RTok)(l r:Tr):(Tr.bin op l r).toks=l.toks++op :: r.toks:=rfl
theorem Tr.toks_par(o:RTok)(e:Tr)(c:RTok):(Tr.par o e c).toks=o :: (e.toks++[c]):=rfl
theorem Tr.level_bin(op:RTok)(l r:Tr):(Tr.bin op l r).level=bindsT op.text:=rfl
theorem Tr.level_leaf(t:RTok):(Tr.leaf t).level=6:=rfl
theorem Tr.level_un(op:RTok)(e:Tr):(Tr.un op e).level=6:=rfl
theorem Tr.level_par(o:RTok)(e:Tr)(c:RTok):(Tr.par o e c).level=6:=rfl
def singleT(t:Txt):Bool:=leafT t||nameT t||isDig (headC t)
def unT(t:Txt):Bool:=t==cMinus||t==cNot
def wfB:BT (RTok×RTok)→Prop
 | .nil=>False
 | .node 0 o a l r=>(o=0∧a.2=a.1∧l=.nil∧r=.nil)∧singleT a.1.text=true∧a.1.text≠cOpen∧a.1.text≠cClose∧unT a.1.text=false∧bindsT a.1.text=0
 | .node 1 o a e r=>(o=0∧a.2=a.1∧r=.nil)∧unT a.1.text=true∧levelB e=6∧wfB e
 | .node 2 o a l r=>(o=0∧a.2=a.1)∧0<bindsT a.1.text∧a.1.text≠cOpen∧a.1.text≠cClose∧bindsT a.1.text≤levelB l∧bindsT a.1.text<levelB r∧wfB l∧wfB r
 | .node 3 o a e r=>(o=0∧r=.nil)∧a.1.text=cOpen∧a.2.text=cClose∧wfB e
 | .node (_+4) _ _ _ _=>False
def Tr.wf(t:Tr):Prop:=wfB t
theorem Tr.wf_leaf{t:RTok}(h:(Tr.leaf t).wf):singleT t.text=true∧t.text≠cOpen∧t.text≠cClose∧unT t.text=false∧bindsT t.text=0:=h.2
theorem Tr.wf_un{op:RTok}{e:Tr}(h:(Tr.un op e).wf):unT op.text=true∧e.level=6∧e.wf:=h.2
theorem Tr.wf_bin{op:RTok}{l r:Tr}(h:(Tr.bin op l r).wf):0<bindsT op.text∧op.text≠cOpen∧op.text≠cClose∧bindsT op.text≤l.level∧bindsT op.text<r.level∧l.wf∧r.wf:=h.2
theorem Tr.wf_par{o c:RTok}{e:Tr}(h:(Tr.par o e c).wf):o.text=cOpen∧c.text=cClose∧e.wf:=h.2
theorem indB{P:Tr→Prop}(h1:∀ t,(Tr.leaf t).wf→P (.leaf t))(h2:∀ op e,(Tr.un op e).wf→P e→P (.un op e))(h3:∀ op l r,(Tr.bin op l r).wf→P l→P r→P (.bin op l r))(h4:∀ o e c,(Tr.par o e c).wf→P e→P (.par o e c)) :
  ∀ t:BT (RTok×RTok),wfB t→P t
 | .nil,h=>h.elim
 | .node 0 o a l r,h=>by
  obtain ⟨a1,a2⟩:=a
  have hh:=h
  obtain ⟨⟨rfl,e,rfl,rfl⟩,_⟩:=h
  simp only at e
  subst e
  exact h1 _ hh
 | .node 1 o a e r,h=>by
  obtain ⟨a1,a2⟩:=a
  have hh:=h
  obtain ⟨⟨rfl,e',rfl⟩,_,_,he⟩:=h
  simp only at e'
  subst e'
  exact h2 _ _ hh (indB h1 h2 h3 h4 e he)
 | .node 2 o a l r,h=>by
  obtain ⟨a1,a2⟩:=a
  have hh:=h
  obtain ⟨⟨rfl,e'⟩,_,_,_,_,_,hl,hr⟩:=h
  simp only at e'
  subst e'
  exact h3 _ _ _ hh (indB h1 h2 h3 h4 l hl) (indB h1 h2 h3 h4 r hr)
 | .node 3 o a e r,h=>by
  obtain ⟨a1,a2⟩:=a
  have hh:=h
  obtain ⟨⟨rfl,rfl⟩,_,_,he⟩:=h
  exact h4 _ _ _ hh (indB h1 h2 h3 h4 e he)
 | .node (_+4) _ _ _ _,h=>h.elim
theorem Tr.ind{P:Tr→Prop}(t:Tr)(h:t.wf)(h1:∀ t,(Tr.leaf t).wf→P (.leaf t))(h2:∀ op e,(Tr.un op e).wf→P e→P (.un op e))(h3:∀ op l r,(Tr.bin op l r).wf→P l→P r→P (.bin op l r))(h4:∀ o e c,(Tr.par o e c).wf→P e→P (.par o e c)):P t:=indB h1 h2 h3 h4 t h
theorem Tr.cases(t:Tr)(h:t.wf):(∃ a,t=.leaf a)∨(∃ op e,t=.un op e)∨(∃ op l r,t=.bin op l r)∨(∃ o e c,t=.par o e c) :=
 Tr.ind (P:=fun t=>(∃ a,t=.leaf a)∨(∃ op e,t=.un op e)∨(∃ op l r,t=.bin op l r)∨(∃ o e c,t=.par o e c)) t h (fun a _=>.inl ⟨a,rfl⟩) (fun op e _ _=>.inr (.inl ⟨op,e,rfl⟩)) (fun op l r _ _ _=>.inr (.inr (.inl ⟨op,l,r,rfl⟩))) (fun o e c _ _=>.inr (.inr (.inr ⟨o,e,c,rfl⟩)))
theorem levelB_le:∀ t:BT (RTok×RTok),levelB t≤6
 | .nil=>Nat.le_refl _
 | .node 0 _ _ _ _=>Nat.le_refl _
 | .node 1 _ _ _ _=>Nat.le_refl _
 | .node 2 _ a _ _=>by have:=bindsT_le a.1.text;simp only[levelB];omega
 | .node (_+3) _ _ _ _=>Nat.le_refl _
theorem Tr.level_le(t:Tr):t.level≤6:=levelB_le t
theorem toksB_pos:∀ t:BT (RTok×RTok),1≤(toksB t).length
 | .nil=>by simp[toksB]
 | .node 0 _ _ _ _=>by simp[toksB]
 | .node 1 _ _ _ _=>by simp[toksB]
 | .node 2 _ _ _ _=>by simp[toksB];omega
 | .node (_+3) _ _ _ _=>by simp[toksB]
theorem Tr.toks_pos(t:Tr):1≤t.toks.length:=toksB_pos t
def rootGo:Nat→Int→Nat→Int→Bool→List RTok→Int
 | _,best,_,_,_,[]=>best
 | i,best,bb,op,wants,t :: r =>
  if t.text==cOpen then rootGo (i+1) best bb (op+1) true r
  else if t.text==cClose then rootGo (i+1) best bb (op-1) false r
  else if wants&&unT t.text then rootGo (i+1) best bb op wants r
  else if 0<bindsT t.text then
   (if op=0∧(best<0∨bindsT t.text≤bb) then rootGo (i+1) i (bindsT t.text) op true r else rootGo (i+1) best bb op true r)
  else rootGo (i+1) best bb op false r
def rootR(l:List RTok):Int:=rootGo 0 (-1) 0 0 true l
def updB:BT (RTok×RTok)→Nat→Int×Nat→Int×Nat
 | .node 2 _ a l r,i,b =>
  updB r (i+(toksB l).length+1) (if (updB l i b).1<0∨bindsT a.1.text≤(updB l i b).2 then ((i+(toksB l).length:Nat),bindsT a.1.text) else updB l i b)
 | _,_,b=>b
def Tr.upd(t:Tr)(i:Nat)(b:Int×Nat):Int×Nat:=updB t i b
theorem Tr.upd_leaf(t:RTok)(i:Nat)(b:Int×Nat):(Tr.leaf t).upd i b=b:=rfl
theorem Tr.upd_un(op:RTok)(e:Tr)(i:Nat)(b:Int×Nat):(Tr.un op e).upd i b=b:=rfl
theorem Tr.upd_par(o:RTok)(e:Tr)(c:RTok)(i:Nat)(b:Int×Nat):(Tr.par o e c).upd i b=b:=rfl
theorem Tr.upd_bin(op:RTok)(l r:Tr)(i:Nat)(b:Int×Nat):(Tr.bin op l r).upd i b=r.upd (i+l.toks.length+1) (if (l.upd i b).1<0∨bindsT op.text≤(l.upd i b).2 then ((i+l.toks.length:Nat),bindsT op.text) else l.upd i b):=rfl
theorem scan_in(t:Tr)(h:t.wf):∀ (i:Nat) (best:Int) (bb:Nat) (op:Int) (r:List RTok),0<op →
  rootGo i best bb op true (t.toks++r)=rootGo (i+t.toks.length) best bb op false r:=by
 refine Tr.ind (P:=fun t=>∀ (i:Nat) (best:Int) (bb:Nat) (op:Int) (r:List RTok),0<op→rootGo i best bb op true (t.toks++r)=rootGo (i+t.toks.length) best bb op false r) t h ?_ ?_ ?_ ?_
 ·intro t h i best bb op r hop
  obtain ⟨h1,h2,h3,h4,h5⟩:=Tr.wf_leaf h
  simp[Tr.toks_leaf,rootGo,h2,h3,h4,h5]
 ·intro o e h ih i best bb op r hop
  obtain ⟨h1,h2,h3⟩:=Tr.wf_un h
  have ho:o.text≠cOpen∧o.text≠cClose:=by
   unfold unT at h1
   simp at h1
   rcases h1 with h1 | h1 <;> rw[h1] <;> decide
  simp only[Tr.toks_un,List.cons_append,rootGo,h1,Bool.and_self,List.length_cons]
  rw[if_neg (by simpa using ho.1),if_neg (by simpa using ho.2),if_pos trivial,ih _ _ _ _ _ hop]
  congr 1;omega
 ·intro o l r h ihl ihr i best bb op rest hop
  obtain ⟨h1,h2,h3,h4,h5,h6,h7⟩:=Tr.wf_bin h
  simp only[Tr.toks_bin,List.append_assoc,List.cons_append,List.length_append,List.length_cons]
  rw[ihl _ _ _ _ _ hop]
  simp only[rootGo]
  rw[if_neg (by simpa using h2),if_neg (by simpa using h3),if_neg (by simp),if_pos h1,if_neg (by omega),ihr _ _ _ _ _ hop]
  congr 1;omega
 ·intro o e c h ih i best bb op r hop
  obtain ⟨h1,h2,h3⟩:=Tr.wf_par h
  simp only[Tr.toks_par,List.cons_append,List.append_assoc,List.nil_append,rootGo,h1,beq_self_eq_true,if_true]
  rw[ih _ _ _ _ _ (by omega)]
  simp only[rootGo,h2]
  rw[if_neg (by decide),if_pos (by decide)]
  simp only[List.length_cons,List.length_append,List.length_nil]
  congr 1 <;> omega
theorem upd_unit(e:Tr)(h:e.wf)(hl:e.level=6)(j:Nat)(b:Int×Nat):e.upd j b=b:=by
 rcases e.cases h with ⟨a,rfl⟩ | ⟨op,e,rfl⟩ | ⟨op,l,r,rfl⟩ | ⟨o,e,c,rfl⟩
 ·rfl
 ·rfl
 ·rw[Tr.level_bin]at hl;have:=bindsT_le op.text;omega
 ·rfl
theorem scan_at(t:Tr)(h:t.wf):∀ (i:Nat) (best:Int) (bb:Nat) (r:List RTok),
  rootGo i best bb 0 true (t.toks++r)=rootGo (i+t.toks.length) (t.upd i (best,bb)).1 (t.upd i (best,bb)).2 0 false r:=by
 refine Tr.ind (P:=fun t=>∀ (i:Nat) (best:Int) (bb:Nat) (r:List RTok),rootGo i best bb 0 true (t.toks++r)=rootGo (i+t.toks.length) (t.upd i (best,bb)).1 (t.upd i (best,bb)).2 0 false r) t h ?_ ?_ ?_ ?_
 ·intro t h i best bb r
  obtain ⟨h1,h2,h3,h4,h5⟩:=Tr.wf_leaf h
  simp[Tr.toks_leaf,rootGo,h2,h3,h4,h5,Tr.upd_leaf]
 ·intro o e h ih i best bb r
  obtain ⟨h1,h2,h3⟩:=Tr.wf_un h
  have ho:o.text≠cOpen∧o.text≠cClose:=by
   unfold unT at h1
   simp at h1
   rcases h1 with h1 | h1 <;> rw[h1] <;> decide
  simp only[Tr.toks_un,List.cons_append,rootGo,h1,Bool.and_self,List.length_cons]
  rw[if_neg (by simpa using ho.1),if_neg (by simpa using ho.2),if_pos trivial,ih _ _ _ _,upd_unit e h3 h2,Tr.upd_un]
  congr 1;omega
 ·intro o l r h ihl ihr i best bb rest
  obtain ⟨h1,h2,h3,h4,h5,h6,h7⟩:=Tr.wf_bin h
  simp only[Tr.toks_bin,List.append_assoc,List.cons_append,List.length_append,List.length_cons]
  rw[ihl]
  simp only[rootGo]
  rw[if_neg (by simpa using h2),if_neg (by simpa using h3),if_neg (by simp),if_pos h1]
  simp only[Tr.upd_bin,true_and]
  split
  ·rw[ihr];congr 1;omega
  ·rw[ihr];congr 1;omega
 ·intro o e c h ih i best bb r
  obtain ⟨h1,h2,h3⟩:=Tr.wf_par h
  simp only[Tr.toks_par,List.cons_append,List.append_assoc,List.nil_append,rootGo,h1,beq_self_eq_true,if_true]
  rw[scan_in e h3 _ _ _ _ _ (by omega)]
  simp only[rootGo,h2]
  rw[if_neg (by decide),if_pos (by decide)]
  simp only[List.length_cons,List.length_append,List.length_nil,Tr.upd_par]
  congr 1 <;> omega
theorem upd_keep(t:Tr)(h:t.wf):∀ (i:Nat) (best:Int) (bb:Nat),0≤best→bb<t.level→t.upd i (best,bb)=(best,bb):=by
 refine Tr.ind (P:=fun t=>∀ (i:Nat) (best:Int) (bb:Nat),0≤best→bb<t.level→t.upd i (best,bb)=(best,bb)) t h ?_ ?_ ?_ ?_
 ·intro t _ i best bb _ _;rfl
 ·intro o e _ _ i best bb _ _;rfl
 ·intro o l r h ihl ihr i best bb hb hlt
  obtain ⟨h1,h2,h3,h4,h5,h6,h7⟩:=Tr.wf_bin h
  rw[Tr.level_bin]at hlt
  rw[Tr.upd_bin,ihl i best bb hb (by omega),if_neg (by simp;omega),ihr _ _ _ hb (by omega)]
 ·intro o e c _ _ i best bb _ _;rfl
def isBinB:BT (RTok×RTok)→Bool
 | .node 2 _ _ _ _=>true
 | _=>false
def Tr.isBin(t:Tr):Bool:=isBinB t
theorem upd_bin_new(op:RTok)(l r:Tr)(h:(Tr.bin op l r).wf)(i:Nat):(Tr.bin op l r).upd i (-1,0)=(((i+l.toks.length:Nat):Int),bindsT op.text)∧True:=by
 refine ⟨?_,trivial⟩
 obtain ⟨h1,h2,h3,h4,h5,h6,h7⟩:=Tr.wf_bin h
 have key:∀ t:Tr,t.wf→∀ i,(t.upd i (-1,0)).1<0∨(t.upd i (-1,0)).2=t.level:=by
  intro t ht
  refine Tr.ind (P:=fun t=>∀ i,(t.upd i (-1,0)).1<0∨(t.upd i (-1,0)).2=t.level) t ht ?_ ?_ ?_ ?_
  ·intro t _ i;left;show (-1:Int)<0;decide
  ·intro o e _ _ i;left;show (-1:Int)<0;decide
  ·intro o l r h ihl _ i
   obtain ⟨g1,g2,g3,g4,g5,g6,g7⟩:=Tr.wf_bin h
   right
   rw[Tr.upd_bin,if_pos,upd_keep r g7 _ _ _ (by omega) g5]
   ·rfl
   ·rcases ihl i with h' | h'
    ·exact .inl h'
    ·right;rw[h'];exact g4
  ·intro o e c _ _ i;left;show (-1:Int)<0;decide
 rw[Tr.upd_bin,if_pos,upd_keep r h7 _ _ _ (by omega) h5]
 rcases key l h6 i with h' | h'
 ·exact .inl h'
 ·right;rw[h'];exact h4
theorem root_bin(op:RTok)(l r:Tr)(h:(Tr.bin op l r).wf):rootR (Tr.bin op l r).toks=l.toks.length:=by
 have:=scan_at _ h 0 (-1) 0 []
 rw[List.append_nil]at this
 unfold rootR
 rw[this,rootGo,(upd_bin_new op l r h 0).1]
 simp
theorem root_none(t:Tr)(h:t.wf)(hb:t.isBin=false):rootR t.toks=-1:=by
 have:=scan_at _ h 0 (-1) 0 []
 rw[List.append_nil]at this
 unfold rootR
 rw[this,rootGo]
 rcases t.cases h with ⟨a,rfl⟩ | ⟨op,e,rfl⟩ | ⟨op,l,r,rfl⟩ | ⟨o,e,c,rfl⟩
 ·rfl
 ·rfl
 ·cases hb
 ·rfl
open Go.RowKit
set_option maxHeartbeats 1000000 in
theorem binds_any(t:ByteArray)(w:World) :
  Calls Tryz.prog 141 #[.string t] w fun e w'=>e=.returned (.int .i64 (bindsT t.toList))∧w'=w:=by
 go_enter Tryz.func141,Tryz.ntmps141
 go_wp2
 all_goals go_ret
 all_goals exact ⟨ret_int (by simp_all [bindsT,cOr,cAnd,cEq,cNeq,cLess,cMost,cPlus,cMinus,cTimes,cDiv,cMod]),rfl⟩
end Go.Proofs.YtgfnkeiigjholaaGreatDoor
