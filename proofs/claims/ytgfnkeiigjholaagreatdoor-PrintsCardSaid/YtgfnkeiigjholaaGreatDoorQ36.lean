/-
  The string with brackets around every operator tells trees apart; a pair of brackets, taken away: the same string, or needed; plain.
-/
import Derived.Test.YtgfnkeiigjholaaGreatDoorQ16
import Derived.Test.YtgfnkeiigjholaaGreatDoorQ35
set_option linter.unusedVariables false
set_option linter.unusedSimpArgs false
namespace Go.Proofs.YtgfnkeiigjholaaGreatDoor
open Go.Deep
def cleanT(t:Txt):Prop:=t≠[]∧∀ b∈t,b≠32∧b≠40∧b≠41
def gcB:BT Txt→Prop
 | .nil=>False
 | .node 0 o a l r=>(o=0∧l=.nil∧r=.nil)∧cleanT a∧unT a=false
 | .node 1 o a e r=>(o=0∧r=.nil)∧cleanT a∧unT a=true∧gcB e
 | .node 2 o a l r=>o=0∧cleanT a∧gcB l∧gcB r
 | .node (_+3) _ _ _ _=>False
def sepX(X:Txt):Prop:=∀ c r,X=c :: r→c=32∨c=41
theorem sep_nil:sepX []:=fun c r h=>by cases h
theorem sep_sp(r:Txt):sepX (32 :: r):=fun c r h=>by cases h;exact .inl rfl
theorem sep_cl(r:Txt):sepX (41 :: r):=fun c r h=>by cases h;exact .inr rfl
theorem clean_cut:∀ (a b X Y:Txt),(∀ x∈a,x≠32∧x≠40∧x≠41)→(∀ x∈b,x≠32∧x≠40∧x≠41)→sepX X→sepX Y→a++X=b++Y→a=b∧X=Y
 | [],[],X,Y,_,_,_,_,h=>⟨rfl,h⟩
 | [],y :: b,X,Y,_,hb,hX,_,h=>by
  have h1:=hb y List.mem_cons_self
  rcases hX y (b++Y) h with e | e
  ·exact absurd e h1.1
  ·exact absurd e h1.2.2
 | x :: a,[],X,Y,ha,_,_,hY,h=>by
  have h1:=ha x List.mem_cons_self
  rcases hY x (a++X) h.symm with e | e
  ·exact absurd e h1.1
  ·exact absurd e h1.2.2
 | x :: a,y :: b,X,Y,ha,hb,hX,hY,h=>by
  rw[List.cons_append,List.cons_append]at h
  injection h with h1 h2
  obtain ⟨e1,e2⟩:=clean_cut a b X Y (fun z hz=>ha z (List.mem_cons_of_mem _ hz)) (fun z hz=>hb z (List.mem_cons_of_mem _ hz)) hX hY h2
  exact ⟨by rw[h1,e1],e2⟩
theorem clean_open{a X Y:Txt}(h:cleanT a)(e:a++X=40 :: Y):False:=by
 obtain ⟨h1,h2⟩:=h
 cases a with
 | nil=>exact h1 rfl
 | cons x a =>
  rw[List.cons_append]at e
  injection e with e1 _
  exact (h2 x List.mem_cons_self).2.1 e1
theorem un_not_full(op X:Txt)(hc:cleanT op)(hu:unT op=true):∀ d:BT Txt,gcB d→∀ Y,op++32 :: X=fullC d++32 :: Y→False
 | .nil,h,_,_=>h
 | .node 0 o a l r,h,Y,e=>by
  obtain ⟨_,h1,h2⟩:=h
  have:=(clean_cut op a _ _ hc.2 h1.2 (sep_sp _) (sep_sp _) e).1
  rw[← this,hu]at h2
  cases h2
 | .node 1 o a l r,h,Y,e=>clean_open hc (by simp only[fullC0,fullC1,fullC2,List.cons_append]at e;exact e)
 | .node 2 o a l r,h,Y,e=>clean_open hc (by simp only[fullC0,fullC1,fullC2,List.cons_append]at e;exact e)
 | .node (_+3) _ _ _ _,h,_,_=>h
theorem full_inj:∀ c:BT Txt,gcB c→∀ d:BT Txt,gcB d→∀ X Y,sepX X→sepX Y→fullC c++X=fullC d++Y→c=d∧X=Y
 | .nil,h=>h.elim
 | .node 0 o a l r,h=>fun d hd X Y hX hY e=>by
  obtain ⟨⟨rfl,rfl,rfl⟩,h1,h2⟩:=h
  match d,hd with
  | .nil,hd=>exact hd.elim
  | .node 0 o' a' l' r',hd =>
   obtain ⟨⟨rfl,rfl,rfl⟩,g1,g2⟩:=hd
   obtain ⟨e1,e2⟩:=clean_cut a a' X Y h1.2 g1.2 hX hY e
   exact ⟨by rw[e1],e2⟩
  | .node 1 o' a' l' r',hd=>exact (clean_open h1 (by simp only[fullC0,fullC1,fullC2,List.cons_append]at e;exact e)).elim
  | .node 2 o' a' l' r',hd=>exact (clean_open h1 (by simp only[fullC0,fullC1,fullC2,List.cons_append]at e;exact e)).elim
  | .node (_+3) _ _ _ _,hd=>exact hd.elim
 | .node 1 o a x r,h=>fun d hd X Y hX hY e=>by
  obtain ⟨⟨rfl,rfl⟩,h1,h2,h3⟩:=h
  match d,hd with
  | .nil,hd=>exact hd.elim
  | .node 0 o' a' l' r',hd=>exact (clean_open hd.2.1 (by simp only[fullC0,fullC1,fullC2,List.cons_append]at e;exact e.symm)).elim
  | .node 1 o' a' x' r',hd =>
   obtain ⟨⟨rfl,rfl⟩,g1,g2,g3⟩:=hd
   simp only[fullC0,fullC1,fullC2,List.cons_append,List.append_assoc,List.nil_append]at e
   injection e with _ e
   obtain ⟨e1,e2⟩:=clean_cut a a' _ _ h1.2 g1.2 (sep_sp _) (sep_sp _) e
   injection e2 with _ e2
   obtain ⟨e3,e4⟩:=full_inj x h3 x' g3 (41 :: X) (41 :: Y) (sep_cl _) (sep_cl _) e2
   injection e4 with _ e4
   exact ⟨by rw[e1,e3],e4⟩
  | .node 2 o' a' l' r',hd =>
   simp only[fullC0,fullC1,fullC2,List.cons_append,List.append_assoc,List.nil_append]at e
   injection e with _ e
   exact (un_not_full a _ h1 h2 l' hd.2.2.1 _ e).elim
  | .node (_+3) _ _ _ _,hd=>exact hd.elim
 | .node 2 o a l r,h=>fun d hd X Y hX hY e=>by
  obtain ⟨rfl,h1,h2,h3⟩:=h
  match d,hd with
  | .nil,hd=>exact hd.elim
  | .node 0 o' a' l' r',hd=>exact (clean_open hd.2.1 (by simp only[fullC0,fullC1,fullC2,List.cons_append]at e;exact e.symm)).elim
  | .node 1 o' a' x' r',hd =>
   simp only[fullC0,fullC1,fullC2,List.cons_append,List.append_assoc,List.nil_append]at e
   injection e with _ e
   exact (un_not_full a' _ hd.2.1 hd.2.2.1 l h2 _ e.symm).elim
  | .node 2 o' a' l' r',hd =>
   obtain ⟨rfl,g1,g2,g3⟩:=hd
   simp only[fullC0,fullC1,fullC2,List.cons_append,List.append_assoc,List.nil_append]at e
   injection e with _ e
   obtain ⟨e1,e2⟩:=full_inj l h2 l' g2 _ _ (sep_sp _) (sep_sp _) e
   injection e2 with _ e2
   obtain ⟨e3,e4⟩:=clean_cut a a' _ _ h1.2 g1.2 (sep_sp _) (sep_sp _) e2
   injection e4 with _ e4
   obtain ⟨e5,e6⟩:=full_inj r h3 r' g3 (41 :: X) (41 :: Y) (sep_cl _) (sep_cl _) e4
   injection e6 with _ e6
   exact ⟨by rw[e1,e3,e5],e6⟩
  | .node (_+3) _ _ _ _,hd=>exact hd.elim
 | .node (_+3) _ _ _ _,h=>h.elim
theorem core_good(t:Tr)(h:t.wf):(∀ a∈t.toks,noBr a.text→cleanT a.text)→gcB t.core:=by
 refine Tr.ind (P:=fun t=>(∀ a∈t.toks,noBr a.text→cleanT a.text)→gcB t.core) t h ?_ ?_ ?_ ?_
 ·intro a hw hc
  obtain ⟨_,h1,h2,h3,_⟩:=Tr.wf_leaf hw
  exact ⟨⟨rfl,rfl,rfl⟩,hc a (by rw[Tr.toks_leaf];simp) ⟨h1,h2⟩,h3⟩
 ·intro op e hw ih hc
  have h1:=(Tr.wf_un hw).1
  exact ⟨⟨rfl,rfl⟩,hc op (by rw[Tr.toks_un];simp) (un_noBr h1),h1,ih fun a ha=>hc a (by rw[Tr.toks_un];simp[ha])⟩
 ·intro op l r hw ihl ihr hc
  have h1:=(Tr.wf_bin hw).1
  exact ⟨rfl,hc op (by rw[Tr.toks_bin];simp) (binds_noBr h1),ihl fun a ha=>hc a (by rw[Tr.toks_bin];simp[ha]),ihr fun a ha=>hc a (by rw[Tr.toks_bin];simp[ha])⟩
 ·intro o e c hw ih hc
  exact ih fun a ha=>hc a (by rw[Tr.toks_par];simp[ha])
theorem wf_level_pos(t:Tr)(h:t.wf):1≤t.level:=by
 rcases t.cases h with ⟨a,rfl⟩ | ⟨op,e,rfl⟩ | ⟨op,l,r,rfl⟩ | ⟨o,e,c,rfl⟩
 ·rw[Tr.level_leaf];omega
 ·rw[Tr.level_un];omega
 ·exact (Tr.wf_bin h).1
 ·rw[Tr.level_par];omega
structure Pair(t:Tr)(i:Nat)(A B:List RTok)(o c:RTok)(e v:Tr):Prop where
 eq:t.toks=A++o :: (e.toks++c :: B)
 eqv:v.toks=A++(e.toks++B)
 len:A.length=i
 opn:o.text=cOpen
 cls:c.text=cClose
 ewf:e.wf
 vwf:v.wf
 alt:(v.full=t.full∧v.core=t.core∧v.nb 1 i)∨(v.full≠t.full∧t.nb 1 (i+1))
theorem pair_ex(t:Tr)(h:t.wf)(hc:∀ a∈t.toks,noBr a.text→cleanT a.text)(i:Nat)(a:RTok)(hi:t.toks[i]?=some a)(ha:a.text=cOpen)(hn:t.nb 1 i):∃ A B o c e v,Pair t i A B o c e v:=by
 obtain ⟨d,D⟩:=del_ex t h 1 i a (wf_level_pos t h) hi ha hn
 obtain ⟨A,_,B,o,c,e,e1,e2,e3,e4,e5,e6⟩:=D.mid
 rcases D.alt with ⟨a1,a2,a3⟩ | ⟨a1,a2⟩
 ·exact ⟨A,B,o,c,e,d,e1,e2,e3,e4,e5,e6,a1,.inl ⟨by rw[Tr.full,Tr.full,D.core],D.core,a3⟩⟩
 ·obtain ⟨v,v1,v2⟩:=reform d D.gd
  refine ⟨A,B,o,c,e,v,e1,by rw[v2,e2],e3,e4,e5,e6,v1,.inr ⟨fun hf=>?_,a2⟩⟩
  have hsub:∀ x∈v.toks,x∈t.toks:=by
   intro x hx
   rw[v2,e2]at hx
   rw[e1]
   simp only[List.mem_append,List.mem_cons]at hx ⊢
   rcases hx with hx | hx | hx
   ·exact .inl hx
   ·exact .inr (.inr (.inl hx))
   ·exact .inr (.inr (.inr (.inr hx)))
  have:=(full_inj _ (core_good v v1 fun x hx=>hc x (hsub x hx)) _ (core_good t h hc) [] [] sep_nil sep_nil (by rw[List.append_nil,List.append_nil];exact hf)).1
  have hvd:v=d:=tree_uniq v (v.wf_bk v1) d (d.gd_bk D.gd) (by rw[this,D.core]) v2
  subst hvd
  exact a1 ⟨v1,wf_level_pos v v1⟩
theorem let_all:∀ (t:Txt),t≠[]→isLet (headC t)=true→runLen t=t.length→t.all isLet=true
 | [],h,_,_=>absurd rfl h
 | [a],_,hd,_=>by
  have h:isLet a=true:=hd
  simp[h]
 | a :: b :: r,_,hd,hr=>by
  have hle:=runLen_le (b :: r)
  have hda:isLet a=true:=hd
  rw[runLen]at hr
  cases hc:sameC a b with
  | false=>rw[hc]at hr;simp at hr
  | true =>
   rw[hc]at hr
   simp only[if_true,List.length_cons]at hr hle
   have hdb:isLet b=true:=by rw[← same_let hda];exact hc
   have ih:=let_all (b :: r) (by simp) hdb (by simp only[List.length_cons];omega)
   rw[List.all_cons,hda,ih]
   rfl
theorem dig_clean{b:UInt8}(h:isDig b=true):b≠32∧b≠40∧b≠41:=by
 refine ⟨?_, ?_, ?_⟩ <;> (intro e;subst e;revert h;decide)
theorem let_clean{b:UInt8}(h:isLet b=true):b≠32∧b≠40∧b≠41:=by
 refine ⟨?_, ?_, ?_⟩ <;> (intro e;subst e;revert h;decide)
theorem tok_clean{t:Txt}(h:TokT t)(hm:mayT t=true)(hb:noBr t):cleanT t:=by
 refine ⟨h.ne, ?_⟩
 cases h1:isDig (headC t) with
 | true =>
  have:=dig_all t h.ne h1 h.run
  rw[List.all_eq_true]at this
  exact fun b hb=>dig_clean (this b hb)
 | false =>
  cases h2:isLet (headC t) with
  | true =>
   have:=let_all t h.ne h2 h.run
   rw[List.all_eq_true]at this
   exact fun b hb=>let_clean (this b hb)
  | false =>
   unfold mayT at hm
   rw[h1,h2]at hm
   have hmem:t∈tSign:=List.contains_iff_mem.1 hm
   have key:∀ u∈tSign,u≠cOpen→u≠cClose→∀ b∈u,b≠32∧b≠40∧b≠41:=by decide
   exact key t hmem hb.1 hb.2
end Go.Proofs.YtgfnkeiigjholaaGreatDoor
