/-
  Trees with brackets anywhere: what is left without them; equal tokens and equal rests make equal trees; plain.
-/
import Derived.Test.YtgfnkeiigjholaaGreatDoorQ11
set_option linter.unusedVariables false
set_option linter.unusedSimpArgs false
namespace Go.Proofs.YtgfnkeiigjholaaGreatDoor
open Go.Deep
def coreB:BT (RTok×RTok)→BT Txt
 | .nil=>.nil
 | .node 0 _ a _ _=>.node 0 0 a.1.text .nil .nil
 | .node 1 _ a e _=>.node 1 0 a.1.text (coreB e) .nil
 | .node 2 _ a l r=>.node 2 0 a.1.text (coreB l) (coreB r)
 | .node _ _ _ e _=>coreB e
def Tr.core(t:Tr):BT Txt:=coreB t
theorem core_leaf(a:RTok):(Tr.leaf a).core=.node 0 0 a.text .nil .nil:=rfl
theorem core_un(op:RTok)(e:Tr):(Tr.un op e).core=.node 1 0 op.text e.core .nil:=rfl
theorem core_bin(op:RTok)(l r:Tr):(Tr.bin op l r).core=.node 2 0 op.text l.core r.core:=rfl
theorem core_par(o:RTok)(e:Tr)(c:RTok):(Tr.par o e c).core=e.core:=rfl
def noBr(t:Txt):Prop:=t≠cOpen∧t≠cClose
def bkB:BT (RTok×RTok)→Prop
 | .nil=>False
 | .node 0 o a l r=>(o=0∧a.2=a.1∧l=.nil∧r=.nil)∧noBr a.1.text
 | .node 1 o a e r=>(o=0∧a.2=a.1∧r=.nil)∧noBr a.1.text∧bkB e
 | .node 2 o a l r=>(o=0∧a.2=a.1)∧noBr a.1.text∧bkB l∧bkB r
 | .node 3 o a e r=>(o=0∧r=.nil)∧(a.1.text=cOpen∧a.2.text=cClose)∧bkB e
 | .node (_+4) _ _ _ _=>False
def Tr.bk(t:Tr):Prop:=bkB t
theorem indK{P:Tr→Prop}(h1:∀ t,(Tr.leaf t).bk→P (.leaf t))(h2:∀ op e,(Tr.un op e).bk→P e→P (.un op e))(h3:∀ op l r,(Tr.bin op l r).bk→P l→P r→P (.bin op l r))(h4:∀ o e c,(Tr.par o e c).bk→P e→P (.par o e c)) :
  ∀ t:BT (RTok×RTok),bkB t→P t
 | .nil,h=>h.elim
 | .node 0 o a l r,h=>by
  obtain ⟨a1,a2⟩:=a
  have hh:=h
  obtain ⟨⟨rfl,e,rfl,rfl⟩,_⟩:=h
  simp only at e
  subst e
  exact h1 _ hh
 | .node 1 o a e r,h=>by
  obtain ⟨a1,a2⟩:=a
  have hh:=h
  obtain ⟨⟨rfl,e',rfl⟩,_,he⟩:=h
  simp only at e'
  subst e'
  exact h2 _ _ hh (indK h1 h2 h3 h4 e he)
 | .node 2 o a l r,h=>by
  obtain ⟨a1,a2⟩:=a
  have hh:=h
  obtain ⟨⟨rfl,e'⟩,_,hl,hr⟩:=h
  simp only at e'
  subst e'
  exact h3 _ _ _ hh (indK h1 h2 h3 h4 l hl) (indK h1 h2 h3 h4 r hr)
 | .node 3 o a e r,h=>by
  obtain ⟨a1,a2⟩:=a
  have hh:=h
  obtain ⟨⟨rfl,rfl⟩,_,he⟩:=h
  exact h4 _ _ _ hh (indK h1 h2 h3 h4 e he)
 | .node (_+4) _ _ _ _,h=>h.elim
theorem Tr.indk{P:Tr→Prop}(t:Tr)(h:t.bk)(h1:∀ t,(Tr.leaf t).bk→P (.leaf t))(h2:∀ op e,(Tr.un op e).bk→P e→P (.un op e))(h3:∀ op l r,(Tr.bin op l r).bk→P l→P r→P (.bin op l r))(h4:∀ o e c,(Tr.par o e c).bk→P e→P (.par o e c)):P t:=indK h1 h2 h3 h4 t h
theorem bk_leaf{a:RTok}(h:(Tr.leaf a).bk):noBr a.text:=h.2
theorem bk_un{op:RTok}{e:Tr}(h:(Tr.un op e).bk):noBr op.text∧e.bk:=h.2
theorem bk_bin{op:RTok}{l r:Tr}(h:(Tr.bin op l r).bk):noBr op.text∧l.bk∧r.bk:=h.2
theorem bk_par{o c:RTok}{e:Tr}(h:(Tr.par o e c).bk):(o.text=cOpen∧c.text=cClose)∧e.bk:=h.2
theorem Tr.cases_bk(t:Tr)(h:t.bk):(∃ a,t=.leaf a)∨(∃ op e,t=.un op e)∨(∃ op l r,t=.bin op l r)∨(∃ o e c,t=.par o e c) :=
 Tr.indk (P:=fun t=>(∃ a,t=.leaf a)∨(∃ op e,t=.un op e)∨(∃ op l r,t=.bin op l r)∨(∃ o e c,t=.par o e c)) t h (fun a _=>.inl ⟨a,rfl⟩) (fun op e _ _=>.inr (.inl ⟨op,e,rfl⟩)) (fun op l r _ _ _=>.inr (.inr (.inl ⟨op,l,r,rfl⟩))) (fun o e c _ _=>.inr (.inr (.inr ⟨o,e,c,rfl⟩)))
theorem un_noBr{t:Txt}(h:unT t=true):noBr t:=by
 simp only[unT,Bool.or_eq_true,beq_iff_eq]at h
 rcases h with rfl | rfl <;> exact ⟨by decide,by decide⟩
theorem Tr.wf_bk(t:Tr)(h:t.wf):t.bk:=by
 refine Tr.ind (P:=fun t=>t.bk) t h ?_ ?_ ?_ ?_
 ·intro a hw
  obtain ⟨_,h1,h2,_⟩:=Tr.wf_leaf hw
  exact ⟨⟨rfl,rfl,rfl,rfl⟩,h1,h2⟩
 ·intro op e hw ih
  exact ⟨⟨rfl,rfl,rfl⟩,un_noBr (Tr.wf_un hw).1,ih⟩
 ·intro op l r hw ihl ihr
  obtain ⟨_,h1,h2,_⟩:=Tr.wf_bin hw
  exact ⟨⟨rfl,rfl⟩,⟨h1,h2⟩,ihl,ihr⟩
 ·intro o e c hw ih
  obtain ⟨h1,h2,_⟩:=Tr.wf_par hw
  exact ⟨⟨rfl,rfl⟩,⟨h1,h2⟩,ih⟩
def balT(t:RTok):Int:=if t.text==cOpen then 1 else if t.text==cClose then -1 else 0
def bal:List RTok→Int
 | []=>0
 | t :: r=>balT t+bal r
theorem bal_app:∀ a b:List RTok,bal (a++b)=bal a+bal b
 | [],b=>by simp[bal]
 | t :: r,b=>by rw[List.cons_append,bal,bal,bal_app r b];omega
theorem balT_no{t:RTok}(h:noBr t.text):balT t=0:=by
 unfold balT
 rw[if_neg (by simpa using h.1),if_neg (by simpa using h.2)]
theorem balT_open{t:RTok}(h:t.text=cOpen):balT t=1:=by
 unfold balT
 rw[h]
 rfl
theorem balT_close{t:RTok}(h:t.text=cClose):balT t=-1:=by
 unfold balT
 rw[h]
 rfl
theorem bal_tree(t:Tr)(h:t.bk):bal t.toks=0:=by
 refine Tr.indk (P:=fun t=>bal t.toks=0) t h ?_ ?_ ?_ ?_
 ·intro a hk
  rw[Tr.toks_leaf,bal,bal,balT_no (bk_leaf hk)]
  rfl
 ·intro op e hk ih
  rw[Tr.toks_un,bal,ih,balT_no (bk_un hk).1]
  rfl
 ·intro op l r hk ihl ihr
  rw[Tr.toks_bin,bal_app,bal,ihl,ihr,balT_no (bk_bin hk).1]
  rfl
 ·intro o e c hk ih
  obtain ⟨⟨h1,h2⟩,_⟩:=bk_par hk
  rw[Tr.toks_par,bal,bal_app,bal,bal,ih,balT_open h1,balT_close h2]
  rfl
theorem bal_pre(t:Tr)(h:t.bk):∀ k,0≤bal (t.toks.take k):=by
 refine Tr.indk (P:=fun t=>∀ k,0≤bal (t.toks.take k)) t h ?_ ?_ ?_ ?_
 ·intro a hk k
  rw[Tr.toks_leaf]
  cases k with
  | zero=>simp[bal]
  | succ k =>
   rw[List.take_succ_cons,List.take_nil,bal,bal,balT_no (bk_leaf hk)]
   omega
 ·intro op e hk ih k
  rw[Tr.toks_un]
  cases k with
  | zero=>simp[bal]
  | succ k =>
   rw[List.take_succ_cons,bal,balT_no (bk_un hk).1]
   have:=ih k
   omega
 ·intro op l r hk ihl ihr k
  rw[Tr.toks_bin,List.take_append]
  rw[bal_app]
  have h1:=ihl k
  by_cases hkl:k≤l.toks.length
  ·rw[show k-l.toks.length=0 by omega,List.take_zero]
   simp only[bal]
   omega
  ·rw[List.take_of_length_le (by omega),bal_tree l (bk_bin hk).2.1]
   obtain ⟨m,hm⟩:∃ m,k-l.toks.length=m+1:=⟨k-l.toks.length-1,by omega⟩
   rw[hm,List.take_succ_cons,bal,balT_no (bk_bin hk).1]
   have:=ihr m
   omega
 ·intro o e c hk ih k
  obtain ⟨⟨h1,h2⟩,he⟩:=bk_par hk
  rw[Tr.toks_par]
  cases k with
  | zero=>simp[bal]
  | succ k =>
   rw[List.take_succ_cons,bal,balT_open h1,List.take_append,bal_app]
   by_cases hkl:k≤e.toks.length
   ·rw[show k-e.toks.length=0 by omega,List.take_zero]
    have:=ih k
    simp only[bal]
    omega
   ·rw[List.take_of_length_le (by omega),bal_tree e he]
    obtain ⟨m,hm⟩:∃ m,k-e.toks.length=m+1:=⟨k-e.toks.length-1,by omega⟩
    rw[hm,List.take_succ_cons,List.take_nil,bal,bal,balT_close h2]
    omega
def cntN:List RTok→Nat
 | []=>0
 | t :: r=>(if t.text==cOpen||t.text==cClose then 0 else 1)+cntN r
theorem cntN_app:∀ a b:List RTok,cntN (a++b)=cntN a+cntN b
 | [],b=>by simp[cntN]
 | t :: r,b=>by rw[List.cons_append,cntN,cntN,cntN_app r b];omega
def sizeC:BT Txt→Nat
 | .nil=>0
 | .node _ _ _ l r=>sizeC l+1+sizeC r
theorem cnt_no{t:RTok}(h:noBr t.text):(if t.text==cOpen||t.text==cClose then 0 else 1)=1:=by
 rw[if_neg]
 simpa[noBr] using h
theorem cnt_core(t:Tr)(h:t.bk):cntN t.toks=sizeC t.core:=by
 refine Tr.indk (P:=fun t=>cntN t.toks=sizeC t.core) t h ?_ ?_ ?_ ?_
 ·intro a hk
  rw[Tr.toks_leaf,core_leaf,cntN,cntN,cnt_no (bk_leaf hk)]
  rfl
 ·intro op e hk ih
  rw[Tr.toks_un,core_un,cntN,cnt_no (bk_un hk).1,ih,sizeC,sizeC]
  omega
 ·intro op l r hk ihl ihr
  rw[Tr.toks_bin,core_bin,cntN_app,cntN,cnt_no (bk_bin hk).1,ihl,ihr,sizeC]
  omega
 ·intro o e c hk ih
  obtain ⟨⟨h1,h2⟩,_⟩:=bk_par hk
  rw[Tr.toks_par,core_par,cntN,cntN_app,cntN,cntN,h1,h2,ih]
  have q1:(if cOpen==cOpen||cOpen==cClose then 0 else 1)=0:=by decide
  have q2:(if cClose==cOpen||cClose==cClose then 0 else 1)=0:=by decide
  rw[q1,q2]
  omega
theorem par_not_bin{o c op:RTok}{e l r:Tr}(h1:(Tr.par o e c).bk)(h2:(Tr.bin op l r).bk)(h:(Tr.par o e c).toks=(Tr.bin op l r).toks):False:=by
 obtain ⟨⟨ho,hc⟩,he⟩:=bk_par h1
 obtain ⟨hn,hl,hr⟩:=bk_bin h2
 have hz:bal ((Tr.bin op l r).toks.take l.toks.length)=0:=by
  rw[Tr.toks_bin,List.take_left',bal_tree l hl]
  rfl
 have hlen:(Tr.bin op l r).toks.length=l.toks.length+1+r.toks.length:=by rw[Tr.toks_bin,List.length_append,List.length_cons];omega
 have hlen2:(Tr.par o e c).toks.length=e.toks.length+2:=by rw[Tr.toks_par,List.length_cons,List.length_append];rfl
 have hp:=l.toks_pos
 have hp2:=r.toks_pos
 rw[h]at hlen2
 rw[← h,Tr.toks_par]at hz
 obtain ⟨m,hm⟩:∃ m,l.toks.length=m+1:=⟨l.toks.length-1,by omega⟩
 rw[hm,List.take_succ_cons,bal,balT_open ho,List.take_append_of_le_length (by omega)]at hz
 have:=bal_pre e he m
 omega
theorem tree_uniq(a:Tr)(h:a.bk):∀ b:Tr,b.bk→a.core=b.core→a.toks=b.toks→a=b:=by
 refine Tr.indk (P:=fun a=>∀ b:Tr,b.bk→a.core=b.core→a.toks=b.toks→a=b) a h ?_ ?_ ?_ ?_
 ·intro x hk b hb hc ht
  rcases b.cases_bk hb with ⟨y,rfl⟩ | ⟨op,e,rfl⟩ | ⟨op,l,r,rfl⟩ | ⟨o,e,c,rfl⟩
  ·rw[Tr.toks_leaf,Tr.toks_leaf]at ht
   cases ht
   rfl
  ·rw[core_leaf,core_un]at hc;cases hc
  ·rw[core_leaf,core_bin]at hc;cases hc
  ·rw[Tr.toks_leaf,Tr.toks_par]at ht
   have:=congrArg List.length ht
   have hp:=e.toks_pos
   simp at this
 ·intro op e hk ih b hb hc ht
  obtain ⟨hn,he⟩:=bk_un hk
  rcases b.cases_bk hb with ⟨y,rfl⟩ | ⟨op',e',rfl⟩ | ⟨op',l,r,rfl⟩ | ⟨o,e',c,rfl⟩
  ·rw[core_leaf,core_un]at hc;cases hc
  ·rw[core_un,core_un]at hc
   rw[Tr.toks_un,Tr.toks_un]at ht
   injection ht with t1 t2
   injection hc with _ _ _ c1 _
   rw[t1,ih e' (bk_un hb).2 c1 t2]
  ·rw[core_un,core_bin]at hc;cases hc
  ·rw[Tr.toks_un,Tr.toks_par]at ht
   injection ht with t1 _
   exact absurd (by rw[t1];exact (bk_par hb).1.1) hn.1
 ·intro op l r hk ihl ihr b hb hc ht
  obtain ⟨hn,hl,hr⟩:=bk_bin hk
  rcases b.cases_bk hb with ⟨y,rfl⟩ | ⟨op',e',rfl⟩ | ⟨op',l',r',rfl⟩ | ⟨o,e',c,rfl⟩
  ·rw[core_leaf,core_bin]at hc;cases hc
  ·rw[core_un,core_bin]at hc;cases hc
  ·obtain ⟨hn',hl',hr'⟩:=bk_bin hb
   rw[core_bin,core_bin]at hc
   injection hc with _ _ _ c1 c2
   rw[Tr.toks_bin,Tr.toks_bin]at ht
   have k1:=cnt_core l hl
   have k2:=cnt_core l' hl'
   rw[c1,← k2]at k1
   have hlen:l.toks.length=l'.toks.length:=by
    rcases Nat.lt_trichotomy l.toks.length l'.toks.length with hlt | heq | hgt
    ·exfalso
     have e1:l'.toks=l.toks++op :: (r.toks.take (l'.toks.length-l.toks.length-1)):=by
      have:=congrArg (List.take l'.toks.length) ht
      rw[List.take_left' rfl,List.take_append,List.take_of_length_le (by omega)]at this
      obtain ⟨m,hm⟩:∃ m,l'.toks.length-l.toks.length=m+1:=⟨l'.toks.length-l.toks.length-1,by omega⟩
      rw[hm,List.take_succ_cons]at this
      rw[show l'.toks.length-l.toks.length-1=m by omega]
      exact this.symm
     have:=congrArg cntN e1
     rw[cntN_app,cntN,cnt_no hn]at this
     omega
    ·exact heq
    ·exfalso
     have e1:l.toks=l'.toks++op' :: (r'.toks.take (l.toks.length-l'.toks.length-1)):=by
      have:=congrArg (List.take l.toks.length) ht.symm
      rw[List.take_left' rfl,List.take_append,List.take_of_length_le (by omega)]at this
      obtain ⟨m,hm⟩:∃ m,l.toks.length-l'.toks.length=m+1:=⟨l.toks.length-l'.toks.length-1,by omega⟩
      rw[hm,List.take_succ_cons]at this
      rw[show l.toks.length-l'.toks.length-1=m by omega]
      exact this.symm
     have:=congrArg cntN e1
     rw[cntN_app,cntN,cnt_no hn']at this
     omega
   have t1:=List.append_inj_left ht hlen
   have t2:=List.append_inj_right ht hlen
   injection t2 with t3 t4
   rw[ihl l' hl' c1 t1,ihr r' hr' c2 t4,t3]
  ·exact (par_not_bin hb hk ht.symm).elim
 ·intro o e c hk ih b hb hc ht
  obtain ⟨⟨h1,h2⟩,he⟩:=bk_par hk
  rcases b.cases_bk hb with ⟨y,rfl⟩ | ⟨op',e',rfl⟩ | ⟨op',l',r',rfl⟩ | ⟨o',e',c',rfl⟩
  ·rw[Tr.toks_leaf,Tr.toks_par]at ht
   have:=congrArg List.length ht
   have hp:=e.toks_pos
   simp at this
  ·rw[Tr.toks_un,Tr.toks_par]at ht
   injection ht with t1 _
   exact absurd (by rw[← t1];exact h1) (bk_un hb).1.1
  ·exact (par_not_bin hk hb ht).elim
  ·rw[Tr.toks_par,Tr.toks_par]at ht
   injection ht with t1 t2
   rw[core_par,core_par]at hc
   have t3:=List.append_inj_left' t2 rfl
   have t4:=List.append_inj_right' t2 rfl
   injection t4 with t5
   rw[t1,t5,ih e' (bk_par hb).2 hc t3]
def fullC:BT Txt→Txt
 | .nil=>[]
 | .node 0 _ a _ _=>a
 | .node 1 _ a e _=>40 :: (a++32 :: (fullC e++[41]))
 | .node _ _ a l r=>40 :: (fullC l++32 :: (a++32 :: (fullC r++[41])))
theorem fullC0(o:Nat)(a:Txt)(l r:BT Txt):fullC (.node 0 o a l r)=a:=rfl
theorem fullC1(o:Nat)(a:Txt)(l r:BT Txt):fullC (.node 1 o a l r)=40 :: (a++32 :: (fullC l++[41])):=rfl
theorem fullC2(o:Nat)(a:Txt)(l r:BT Txt):fullC (.node 2 o a l r)=40 :: (fullC l++32 :: (a++32 :: (fullC r++[41]))):=rfl
def Tr.full(t:Tr):Txt:=fullC t.core
theorem full_leaf(a:RTok):(Tr.leaf a).full=a.text:=rfl
theorem full_un(op:RTok)(e:Tr):(Tr.un op e).full=40 :: (op.text++32 :: (e.full++[41])):=rfl
theorem full_bin(op:RTok)(l r:Tr):(Tr.bin op l r).full=40 :: (l.full++32 :: (op.text++32 :: (r.full++[41]))):=rfl
theorem full_par(o:RTok)(e:Tr)(c:RTok):(Tr.par o e c).full=e.full:=rfl
end Go.Proofs.YtgfnkeiigjholaaGreatDoor
