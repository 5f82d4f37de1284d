/-
  The parts of a policy: the document's count and the program's agree on what is too many: plain.
-/
import Derived.Test.YtpcjadaeolkngaaGreatDoorJ03
import Derived.WalkKit
import Derived.WalkSpells
set_option linter.unusedVariables false
set_option linter.unusedSimpArgs false
namespace Go.Proofs.YtpcjadaeolkngaaGreatDoor
open Go.Deep
def partNode(ls:List PLet)(sz:List Nat)(t:RTok):Nat:=if kindP t.text=2 then sz.getD (letIx ls t.text) 0 else 1
def countGo(ls:List PLet)(sz:List Nat):Nat→List PNode→Nat
 | c,[]=>c
 | c,n :: r=>if c≤150 then countGo ls sz (c+partNode ls sz n.tok) r else c
def sumN(ls:List PLet)(sz:List Nat):List PNode→Nat
 | []=>0
 | n :: r=>partNode ls sz n.tok+sumN ls sz r
def sumT(ps:List (Txt×Nat)):List RTok→Nat
 | []=>0
 | t :: r=>partOne ps t.text+sumT ps r
def Sim(a b:Nat):Prop:=(a≤150∧a=b)∨(150<a∧150<b)
theorem Sim.add{a b c d:Nat}(h:Sim a b)(g:Sim c d):Sim (a+c) (b+d):=by unfold Sim at *;omega
theorem Sim.refl(a:Nat):Sim a a:=by unfold Sim;omega
theorem Sim.trans{a b c:Nat}(h:Sim a b)(g:Sim b c):Sim a c:=by unfold Sim at *;omega
theorem Sim.symm{a b:Nat}(h:Sim a b):Sim b a:=by unfold Sim at *;omega
theorem count_sim(ls:List PLet)(sz:List Nat):∀ (l:List PNode) (c:Nat),Sim (countGo ls sz c l) (c+sumN ls sz l)
 | [],c=>by simp only[countGo,sumN];exact Sim.refl c
 | n :: r,c=>by
  simp only[countGo,sumN]
  split
  ·have:=count_sim ls sz r (c+partNode ls sz n.tok)
   rw[Nat.add_assoc]at this
   exact this
  ·unfold Sim;omega
theorem parts_sim(ps:List (Txt×Nat)):∀ (l:List RTok) (c:Nat),Sim (partsGo ps c l) (c+sumT ps l)
 | [],c=>by simp only[partsGo,sumT];exact Sim.refl c
 | t :: r,c=>by
  simp only[partsGo,sumT]
  split
  ·unfold Sim;omega
  ·have:=parts_sim ps r (c+partOne ps t.text)
   rw[Nat.add_assoc]at this
   exact this
theorem sumT_append(ps:List (Txt×Nat)):∀ (a b:List RTok),sumT ps (a++b)=sumT ps a+sumT ps b
 | [],b=>by simp[sumT]
 | t :: r,b=>by simp only[List.cons_append,sumT,sumT_append ps r b];omega
theorem sumN_append(ls:List PLet)(sz:List Nat):∀ (a b:List PNode),sumN ls sz (a++b)=sumN ls sz a+sumN ls sz b
 | [],b=>by simp[sumN]
 | t :: r,b=>by simp only[List.cons_append,sumN,sumN_append ls sz r b];omega
theorem partFold_none(x:Txt):∀ (ps:List (Txt×Nat)) (k:Nat),(∀ p∈ps,p.1≠x)→partFold ps k x=k
 | [],k,_=>rfl
 | (n,s) :: r,k,h=>by
  have h0:(n==x)=false:=by simpa using h (n,s) (by simp)
  simp only[partFold,h0]
  exact partFold_none x r k fun p hp=>h p (by simp[hp])
theorem partFold_at(x:Txt)(v:Nat):∀ (ps:List (Txt×Nat)) (j k:Nat),ps[j]?=some (x,v)→(∀ i,i≠j→∀ q,ps[i]?=some q→q.1≠x)→partFold ps k x=v
 | [],j,k,h,_=>by simp at h
 | (n,s) :: r,0,k,h,h2=>by
  simp only[List.getElem?_cons_zero,Option.some.injEq,Prod.mk.injEq]at h
  simp only[partFold,h.1,h.2,beq_self_eq_true,if_true]
  refine partFold_none x r v fun p hp=>?_
  obtain ⟨i,hi,rfl⟩:=List.getElem_of_mem hp
  exact h2 (i+1) (by omega) _ (by simp[hi])
 | (n,s) :: r,j+1,k,h,h2=>by
  have h0:(n==x)=false:=by simpa using h2 0 (by omega) (n,s) rfl
  simp only[partFold,h0]
  simp only[List.getElem?_cons_succ]at h
  exact partFold_at x v r j _ h fun i hi q hq=>h2 (i+1) (by omega) q (by simpa using hq)
structure SizesOk(ls:List PLet)(sz:List Nat)(ps:List (Txt×Nat))(i:Nat):Prop where
 len:ps.length=i
 szl:sz.length=i
 le:i≤ls.length
 at':∀ j,j<i→∃ p a b,ls[j]?=some p∧sz[j]?=some a∧ps[j]?=some (p.name.text,b)∧Sim a b
 dis:∀ j p,j<i→ls[j]?=some p→letIx ls p.name.text=j
theorem letIx_name{ls:List PLet}{x:Txt}{p:PLet}(h:ls[letIx ls x]?=some p):p.name.text=x:=by
 rw[List.getElem?_eq_some_iff]at h
 obtain ⟨hlt,h1'⟩:=h
 have:=List.findIdx_getElem (p:=fun p:PLet=>p.name.text==x) (xs:=ls) (w:=hlt)
 have e:ls[ls.findIdx (fun p=>p.name.text==x)]=p:=h1'
 rw[e]at this
 exact beq_iff_eq.1 this
theorem part_name{ls:List PLet}{sz:List Nat}{ps:List (Txt×Nat)}{i:Nat}(h:SizesOk ls sz ps i){t:RTok}(hm:mayT t.text=true)(hn:nameT t.text=true)(hx:letIx ls t.text<i):Sim (partNode ls sz t) (partOne ps t.text):=by
 obtain ⟨p,a,b,h1,h2,h3,h4⟩:=h.at' _ hx
 have hk:kindP t.text=2:=(kindOf _ hm).kname.2 hn
 have hnm:=letIx_name h1
 have e1:partNode ls sz t=a:=by simp[partNode,hk,h2]
 have e2:partOne ps t.text=b:=by
  unfold partOne
  refine partFold_at t.text b ps _ _ (by rw[h3,hnm]) fun j hj q hq he=>?_
  by_cases hji:j<i
  ·obtain ⟨p',a',b',g1,g2,g3,g4⟩:=h.at' j hji
   rw[g3]at hq
   cases hq
   have:=h.dis j p' hji g1
   simp only at he
   rw[he]at this
   omega
  ·rw[List.getElem?_eq_none (by rw[h.len];omega)]at hq
   cases hq
 rw[e1,e2]
 exact h4
theorem part_other{ls:List PLet}{sz:List Nat}{ps:List (Txt×Nat)}{i:Nat}(h:SizesOk ls sz ps i)(hls:∀ p∈ls,nameT p.name.text=true){t:RTok}(hm:mayT t.text=true)(hn:nameT t.text=false):partNode ls sz t=1∧partOne ps t.text=if t.text==cOpen||t.text==cClose then 0 else 1:=by
 have hk:kindP t.text≠2:=fun e=>by rw[(kindOf _ hm).kname.1 e]at hn;cases hn
 refine ⟨by simp[partNode,hk], ?_⟩
 unfold partOne
 refine partFold_none _ ps _ fun p hp he=>?_
 obtain ⟨j,hj,rfl⟩:=List.getElem_of_mem hp
 obtain ⟨p',a',b',g1,g2,g3,g4⟩:=h.at' j (by rw[← h.len];exact hj)
 rw[List.getElem?_eq_getElem hj]at g3
 simp only[Option.some.injEq]at g3
 have hm':=hls p' (List.mem_of_getElem? g1)
 rw[g3]at he
 simp only at he
 rw[he,hn]at hm'
 cases hm'
theorem sum_tree{ls:List PLet}{sz:List Nat}{ps:List (Txt×Nat)}{i:Nat}(h:SizesOk ls sz ps i)(hls:∀ p∈ls,nameT p.name.text=true)(t:Tr)(hw:t.wf):(∀ x∈t.toks,mayT x.text=true)→(∀ x∈t.toks,nameT x.text=true→letIx ls x.text<i)→∀ b,Sim (sumN ls sz (t.flat b)) (sumT ps t.toks):=by
 refine Tr.ind (P:=fun t=>(∀ x∈t.toks,mayT x.text=true)→(∀ x∈t.toks,nameT x.text=true→letIx ls x.text<i)→∀ b,Sim (sumN ls sz (t.flat b)) (sumT ps t.toks)) t hw ?_ ?_ ?_ ?_
 ·intro a ha hm hn b
  rw[Tr.flat_leaf,Tr.toks_leaf]
  simp only[sumN,sumT,Nat.add_zero]
  have hma:=hm a (by simp[Tr.toks_leaf])
  cases hna:nameT a.text with
  | true=>exact part_name h hma hna (hn a (by simp[Tr.toks_leaf]) hna)
  | false =>
   obtain ⟨g1,g2⟩:=part_other h hls hma hna
   obtain ⟨_,n1,n2,_⟩:=Tr.wf_leaf ha
   rw[g1,g2,if_neg (by simp[n1,n2])]
   exact Sim.refl 1
 ·intro op e hwu ih hm hn b
  have hma:=hm op (by simp[Tr.toks_un])
  obtain ⟨g1,g2⟩:=part_other h hls hma (un_no_name (Tr.wf_un hwu).1)
  have n1:(op.text==cOpen||op.text==cClose)=false:=by
   have:=(Tr.wf_un hwu).1
   simp only[unT,Bool.or_eq_true,beq_iff_eq]at this
   rcases this with e | e <;> rw[e] <;> decide
  rw[Tr.flat_un,Tr.toks_un,sumN_append]
  simp only[sumN,sumT,Nat.add_zero,g1,g2,n1]
  rw[Nat.add_comm]
  exact Sim.add (Sim.refl 1) (ih (fun x hx=>hm x (by simp[Tr.toks_un,hx])) (fun x hx=>hn x (by simp[Tr.toks_un,hx])) b)
 ·intro op l r hwb h1 h2 hm hn b
  obtain ⟨w1,w2,w3,_⟩:=Tr.wf_bin hwb
  have hma:=hm op (by simp[Tr.toks_bin])
  obtain ⟨g1,g2⟩:=part_other h hls hma (bin_no_name w1)
  rw[Tr.flat_bin,Tr.toks_bin,sumN_append,sumN_append,sumT_append]
  simp only[sumN,sumT,Nat.add_zero,g1,g2]
  rw[if_neg (by simp[w2,w3])]
  have i1:=h1 (fun x hx=>hm x (by simp[Tr.toks_bin,hx])) (fun x hx=>hn x (by simp[Tr.toks_bin,hx])) b
  have i2:=h2 (fun x hx=>hm x (by simp[Tr.toks_bin,hx])) (fun x hx=>hn x (by simp[Tr.toks_bin,hx])) (b+l.num)
  have:=Sim.add (Sim.add i1 i2) (Sim.refl 1)
  rw[show sumT ps l.toks+(1+sumT ps r.toks)=sumT ps l.toks+sumT ps r.toks+1 by omega]
  exact this
 ·intro o e c hwp ih hm hn b
  obtain ⟨w1,w2,w3⟩:=Tr.wf_par hwp
  obtain ⟨_,g2⟩:=part_other (t:=o) h hls (hm o (by simp[Tr.toks_par])) (by rw[w1];decide)
  obtain ⟨_,g4⟩:=part_other (t:=c) h hls (hm c (by simp[Tr.toks_par])) (by rw[w2];decide)
  rw[Tr.flat_par,Tr.toks_par]
  rw[w1]at g2
  rw[w2]at g4
  simp only[sumT,sumT_append,w1,w2,g2,g4]
  have:=ih (fun x hx=>hm x (by simp[Tr.toks_par,hx])) (fun x hx=>hn x (by simp[Tr.toks_par,hx])) b
  simpa[cOpen,cClose] using this
def sizesL(ls:List PLet)(N:List PNode):List Nat→List PLet→List Nat
 | sz,[]=>sz
 | sz,p :: r=>sizesL ls N (sz++[countGo ls sz 0 (segE N p.val)]) r
def partsR(ls:List PLet)(N:List PNode)(sz:List Nat):Nat→List PRule→Nat
 | a,[]=>a
 | a,p :: r=>partsR ls N sz (a+countGo ls sz 0 (segE N p.when)+countGo ls sz 0 (segE N p.score)) r
def pParts(N:List PNode)(ls:List PLet)(rs:List PRule):Nat:=partsR ls N (sizesL ls N [] ls) 0 rs
theorem count_expr{ls:List PLet}{sz:List Nat}{ps:List (Txt×Nat)}{i:Nat}(h:SizesOk ls sz ps i)(hls:∀ p∈ls,nameT p.name.text=true)(t:Tr)(hw:t.wf)(hm:∀ x∈t.toks,mayT x.text=true)(hn:namesToks ls i t.toks=none)(b:Nat):Sim (countGo ls sz 0 (t.flat b)) (partsGo ps 0 t.toks):=by
 have h1:=count_sim ls sz (t.flat b) 0
 have h2:=parts_sim ps t.toks 0
 have h3:=sum_tree h hls t hw hm (names_none ls i _ hn) b
 rw[Nat.zero_add]at h1 h2
 exact h1.trans (h3.trans h2.symm)
theorem count_opt{ls:List PLet}{sz:List Nat}{ps:List (Txt×Nat)}{i:Nat}(h:SizesOk ls sz ps i)(hls:∀ p∈ls,nameT p.name.text=true)(o:Option Tr)(hw:∀ e,o=some e→e.wf)(hm:∀ e,o=some e→∀ x∈e.toks,mayT x.text=true)(hn:namesToks ls i (optToks o)=none)(b:Nat):Sim (countGo ls sz 0 (optNodes b o)) (partsGo ps 0 (optToks o)):=by
 cases o with
 | none=>exact Sim.refl 0
 | some e=>exact count_expr h hls e (hw e rfl) (hm e rfl) hn b
theorem parts_rules(N:List PNode)(ls:List PLet)(sz:List Nat)(ps:List (Txt×Nat))(hz:SizesOk ls sz ps ls.length)(hls:∀ p∈ls,nameT p.name.text=true):∀ (R:List RSt),isRuleL' R→(∀ s∈R,s.wf∧s.may)→∀ (pre:List PNode) (a b:Nat),Sim a b→N=pre++nodesS pre.length R→pNamesR N ls (rulesS pre.length R)=none →
  Sim (partsR ls N sz a (rulesS pre.length R)) (b+rulePartsGo ps R)
 | [],_,_,_,a,b,hab,_,_=>by simpa[rulesS,partsR,rulePartsGo] using hab
 | s :: r,hr,hw,pre,a,b,hab,hN,hnm=>by
  rcases s.cases with ⟨kw,name,eq,e,semi,rfl⟩ | ⟨wh,act,sc,semi,rfl⟩
  ·have:=hr _ List.mem_cons_self;cases this
  obtain ⟨⟨w1,w2,w3,w4⟩,hmay⟩:=hw _ List.mem_cons_self
  simp only at w1 w2 w3 w4
  have ho1:∀ e,wh.map Prod.snd=some e→e.wf:=by
   intro e he
   cases wh with
   | none=>cases he
   | some p=>cases he;exact (w1 p.1 p.2 rfl).2
  have ho2:∀ e,sc=some e→e.wf:=w3
  have hN1:N=pre++optNodes pre.length (wh.map Prod.snd)++(optNodes (pre.length+optNum (wh.map Prod.snd)) sc++nodesS (pre.length+(RSt.rule wh act sc semi).num) r):=by
   rw[hN,nodesS,RSt.nodes_rule];simp[List.append_assoc]
  have hl1:(pre++optNodes pre.length (wh.map Prod.snd)).length=pre.length+optNum (wh.map Prod.snd):=by rw[List.length_append,optNodes_len _ ho1]
  have hN2:N=(pre++optNodes pre.length (wh.map Prod.snd))++optNodes (pre.length+optNum (wh.map Prod.snd)) sc++nodesS (pre.length+(RSt.rule wh act sc semi).num) r:=by
   rw[hN1];simp[List.append_assoc]
  have hl2:(pre++(RSt.rule wh act sc semi).nodes pre.length).length=pre.length+(RSt.rule wh act sc semi).num:=by rw[List.length_append,RSt.nodes_len _ (hw _ List.mem_cons_self).1]
  rw[rulesS,RSt.rules_rule,List.singleton_append,pNamesR]at hnm
  simp only at hnm
  rw[seg_opt ho1 _ rfl hN1,seg_opt ho2 _ hl1.symm hN2,names_opt ls _ _ ho1,names_opt ls _ _ ho2]at hnm
  have hn1:namesToks ls ls.length (optToks (wh.map Prod.snd))=none:=by
   cases h:namesToks ls ls.length (optToks (wh.map Prod.snd)) with
   | none=>rfl
   | some q=>rw[h]at hnm;cases hnm
  rw[hn1]at hnm
  simp only at hnm
  have hn2:namesToks ls ls.length (optToks sc)=none:=by
   cases h:namesToks ls ls.length (optToks sc) with
   | none=>rfl
   | some q=>rw[h]at hnm;cases hnm
  rw[hn2]at hnm
  simp only at hnm
  have hm1:∀ e,wh.map Prod.snd=some e→∀ x∈e.toks,mayT x.text=true:=by
   intro e he x hx
   cases wh with
   | none=>cases he
   | some p=>cases he;exact hmay x (by rw[RSt.body_rule];simp[whToks,hx])
  have hm2:∀ e,sc=some e→∀ x∈e.toks,mayT x.text=true:=by
   intro e he x hx
   subst he
   exact hmay x (by rw[RSt.body_rule];simp[optToks,hx])
  have c1:=count_opt hz hls _ ho1 hm1 hn1 pre.length
  have c2:=count_opt hz hls _ ho2 hm2 hn2 (pre.length+optNum (wh.map Prod.snd))
  rw[rulesS,RSt.rules_rule,List.singleton_append,partsR,rulePartsGo_rule]
  simp only
  rw[seg_opt ho1 _ rfl hN1,seg_opt ho2 _ hl1.symm hN2]
  have ih:=parts_rules N ls sz ps hz hls r (fun x hx=>hr x (by simp[hx])) (fun x hx=>hw x (by simp[hx])) (pre++(RSt.rule wh act sc semi).nodes pre.length) _ _ ((hab.add c1).add c2) (by rw[hl2,hN,nodesS];simp[List.append_assoc]) (by rw[hl2];exact hnm)
  rw[hl2]at ih
  rw[show b+(partsGo ps 0 (optToks (wh.map Prod.snd))+partsGo ps 0 (optToks sc)+rulePartsGo ps r)=b+partsGo ps 0 (optToks (wh.map Prod.snd))+partsGo ps 0 (optToks sc)+rulePartsGo ps r by omega]
  exact ih
theorem parts_lets(N:List PNode)(ls:List PLet)(hls':∀ p∈ls,nameT p.name.text=true)(R:List RSt)(hR:isRuleL' R)(hRw:∀ s∈R,s.wf∧s.may):∀ (B A:List RSt),isLetL' A→isLetL' B→(∀ s∈A,s.wf)→(∀ s∈B,s.wf∧s.may)→ls=letsS 0 (A++B)→N=nodesS 0 (A++B++R)→∀ (sz:List Nat) (ps:List (Txt×Nat)),SizesOk ls sz ps A.length→pNamesL N ls A.length (letsS (numS A) B)=none→pNamesR N ls (rulesS (numS (A++B)) R)=none →
  Sim (partsR ls N (sizesL ls N sz (letsS (numS A) B)) 0 (rulesS (numS (A++B)) R)) (rulePartsGo (sizesGo ps B) R)
 | [],A,hA,_,hAw,_,hls,hN,sz,ps,hz,_,hn=>by
  have hlen:ls.length=A.length:=by rw[hls,List.append_nil,lets_len A hA]
  have hl:(nodesS 0 A).length=numS A:=nodesS_len A hAw 0
  simp only[letsS,sizesL,sizesGo,List.append_nil]at hn ⊢
  have:=parts_rules N ls sz ps (by rw[hlen];exact hz) hls' R hR hRw (nodesS 0 A) 0 0 (Sim.refl 0) (by rw[hN,List.append_nil,nodesS_append,hl,Nat.zero_add]) (by rw[hl];exact hn)
  rw[hl,Nat.zero_add]at this
  exact this
 | s :: B,A,hA,hB,hAw,hBw,hls,hN,sz,ps,hz,hn1,hn2=>by
  rcases s.cases with ⟨kw,name,eq,e,semi,rfl⟩ | ⟨wh,act,sc,semi,rfl⟩
  rotate_left
  ·have:=hB _ List.mem_cons_self;cases this
  obtain ⟨⟨w1,w2,w3,w4,w5⟩,hmay⟩:=hBw _ List.mem_cons_self
  simp only at w1 w2 w3 w4 w5
  have hme:∀ x∈e.toks,mayT x.text=true:=fun x hx=>hmay x (by rw[RSt.body_let];simp[hx])
  have hAl:(letsS 0 A).length=A.length:=lets_len A hA 0
  have hgi:ls[A.length]?=some ⟨name,layE (numS A) e⟩:=by
   rw[hls,letsS_append,List.getElem?_append_right (by omega),hAl,Nat.sub_self,letsS,RSt.lets_let]
   simp
  have hn0:(nodesS 0 A).length=numS A:=nodesS_len A hAw 0
  have hseg:segE N (layE (numS A) e)=e.flat (numS A):=by
   rw[← hn0]
   refine seg_lay (post:=nodesS (numS A+e.num) (B++R)) w4 ?_
   rw[hN,List.append_assoc,nodesS_append,hn0,Nat.zero_add,List.cons_append,nodesS,RSt.nodes_let,RSt.num_let];simp[List.append_assoc]
  rw[letsS,RSt.lets_let,RSt.num_let,List.singleton_append,pNamesL]at hn1
  simp only at hn1
  rw[hseg,names_tree ls _ e w4]at hn1
  split at hn1
  ·cases hn1
  rename_i hix
  have hnt:namesToks ls A.length e.toks=none:=by
   cases h:namesToks ls A.length e.toks with
   | none=>rfl
   | some q=>rw[h]at hn1;cases hn1
  rw[hnt]at hn1
  simp only at hn1
  have hc:=count_expr hz hls' e w4 hme hnt (numS A)
  rw[letsS,RSt.lets_let,RSt.num_let,List.singleton_append,sizesL,sizesGo_let]
  simp only
  rw[hseg]
  have hnum:numS (A++[RSt.letS kw name eq e semi])=numS A+e.num:=by rw[numS_append];simp[numS,RSt.num_let]
  have hAlt:A.length<ls.length:=by rw[List.getElem?_eq_some_iff]at hgi;exact hgi.1
  have ih:=parts_lets N ls hls' R hR hRw B (A++[.letS kw name eq e semi]) (by intro x hx;simp at hx;rcases hx with hx | rfl;exact hA x hx;rfl) (fun x hx=>hB x (by simp[hx])) (by intro x hx;simp at hx;rcases hx with hx | rfl;exact hAw x hx;exact ⟨w1,w2,w3,w4,w5⟩) (fun x hx=>hBw x (by simp[hx])) (by rw[hls];simp) (by rw[hN];simp) (sz++[countGo ls sz 0 (e.flat (numS A))]) (ps++[(name.text,partsGo ps 0 e.toks)]) ?_ (by rw[hnum];simpa using hn1) (by rw[List.append_assoc];exact hn2)
  ·rw[hnum,List.append_assoc]at ih
   exact ih
  ·refine ⟨by simp[hz.len],by simp[hz.szl],by simp;omega,fun j hj=>?_,fun j p hj hp=>?_⟩
   ·simp only[List.length_append,List.length_cons,List.length_nil]at hj
    by_cases hj2:j<A.length
    ·obtain ⟨p,a,b,q1,q2,q3,q4⟩:=hz.at' j hj2
     exact ⟨p,a,b,q1,by rw[List.getElem?_append_left (by rw[hz.szl];omega)];exact q2,by rw[List.getElem?_append_left (by rw[hz.len];omega)];exact q3,q4⟩
    ·have:j=A.length:=by omega
     subst this
     refine ⟨_,_,_,hgi, ?_, ?_,hc⟩
     ·rw[List.getElem?_append_right (by rw[hz.szl];omega),hz.szl,Nat.sub_self];rfl
     ·rw[List.getElem?_append_right (by rw[hz.len];omega),hz.len,Nat.sub_self];rfl
   ·simp only[List.length_append,List.length_cons,List.length_nil]at hj
    by_cases hj2:j<A.length
    ·exact hz.dis j p hj2 hp
    ·have:j=A.length:=by omega
     subst this
     rw[hgi]at hp
     cases hp
     simp only
     have hle:letIx ls name.text≤A.length:=by
      unfold letIx
      apply Nat.le_of_not_lt
      intro hlt
      have:=List.not_of_lt_findIdx hlt
      rw[List.getElem?_eq_some_iff]at hgi
      obtain ⟨_,hgi'⟩:=hgi
      rw[hgi']at this
      simp at this
     omega
theorem lets_names:∀ (L:List RSt),(∀ s∈L,s.wf)→∀ b,∀ p∈letsS b L,nameT p.name.text=true
 | [],_,_,p,hp=>by cases hp
 | s :: r,h,b,p,hp=>by
  rw[letsS,List.mem_append]at hp
  rcases hp with hp | hp
  ·rcases s.cases with ⟨kw,name,eq,e,semi,rfl⟩ | ⟨wh,act,sc,semi,rfl⟩
   ·rw[RSt.lets_let]at hp
    simp only[List.mem_singleton]at hp
    subst hp
    exact (h _ List.mem_cons_self).2.1
   ·cases hp
  ·exact lets_names r (fun x hx=>h x (by simp[hx])) _ p hp
theorem parts_same(L R:List RSt)(hL:isLetL' L)(hR:isRuleL' R)(hw:∀ s∈L++R,s.wf∧s.may)(hn:pNames (nodesS 0 (L++R)) (letsS 0 (L++R)) (rulesS 0 (L++R))=none) :
  decide (pParts (nodesS 0 (L++R)) (letsS 0 (L++R)) (rulesS 0 (L++R))>150)=bigT L R:=by
 have h1:letsS 0 (L++R)=letsS 0 ([]++L):=by rw[letsS_append,lets_none R hR,List.append_nil,List.nil_append]
 have h2:rulesS 0 (L++R)=rulesS (numS L) R:=by rw[rulesS_append,rules_none L hL,List.nil_append,Nat.zero_add]
 unfold pNames at hn
 cases hp:pNamesL (nodesS 0 (L++R)) (letsS 0 (L++R)) 0 (letsS 0 (L++R)) with
 | some q=>rw[hp]at hn;cases hn
 | none =>
  rw[hp]at hn
  simp only at hn
  have e4:letsS (numS []) L=letsS 0 (L++R):=by rw[h1];rfl
  have:=parts_lets (nodesS 0 (L++R)) (letsS 0 (L++R)) (lets_names _ (fun s hs=>(hw s hs).1) 0) R hR (fun s hs=>hw s (by simp[hs])) L [] (fun s hs=>by cases hs) hL (fun s hs=>by cases hs) (fun s hs=>hw s (by simp[hs])) h1 rfl [] [] ⟨rfl,rfl,Nat.zero_le _,fun j hj=>(by cases hj),fun j p hj=>(by cases hj)⟩ (by rw[e4];exact hp) (by rw[h2]at hn;exact hn)
  rw[e4]at this
  unfold bigT pParts
  rw[h2,Bool.eq_iff_iff,decide_eq_true_eq,decide_eq_true_eq]
  have e5:numS ([]++L)=numS L:=rfl
  rw[e5]at this
  unfold Sim at this
  omega
open Go.RowKit
def bt(s:ByteArray)(i:Nat):Nat:=if h:i<s.size then (s[i]).toNat else 0
theorem bt_get(s:ByteArray)(i:Nat)(h:i<s.size):bt s i=(s[i]).toNat:=by simp[bt,h]
theorem bt_lt(s:ByteArray)(i:Nat):bt s i<256:=by
 unfold bt
 split
 ·exact UInt8.toNat_lt _
 ·omega
def lowU(s:ByteArray):Nat→Nat→Nat
 | _,0=>0
 | p,n+1=>bt s p+256*lowU s (p+1) n
theorem lowU_two(s:ByteArray)(p:Nat):lowU s p 2<65536:=by
 have h1:=bt_lt s p
 have h2:=bt_lt s (p+1)
 simp only[lowU];omega
theorem lowU_one(s:ByteArray)(p:Nat):lowU s p 1=bt s p:=by simp[lowU]
def behindN(c:Nat):Nat:=if c=0 then 8 else if c=1 then 1 else if c=13∨c=14∨c=15 then 2 else 0
def takesN(c:Nat):Nat:=if c=0∨c=1∨c=13∨c=17 then 0 else if c=2∨c=3∨c=14∨c=15∨c=16 then 1 else 2
def laysN(c:Nat):Nat:=if 13≤c then 0 else 1
structure Ins where
 pos:Nat
 op:Nat
 arg:Int
 next:Nat
def mkIns(s:ByteArray)(p:Nat):Ins:=⟨p,bt s p,IntKind.i64.wrap (lowU s (p+1) (behindN (bt s p)):Nat),p+1+behindN (bt s p)⟩
def OpOkI(s:ByteArray)(p:Nat):Prop:=p<s.size∧bt s p≤17∧p+1+behindN (bt s p)≤s.size∧(bt s p=1→bt s (p+1)≤6)
def Chain(s:ByteArray):Nat→List Ins→Nat→Prop
 | p,[],q=>p=q
 | p,o :: r,q=>OpOkI s p∧o=mkIns s p∧Chain s o.next r q
def Flows(o:Ins)(q:Nat):Prop:=(o.op≠13∧o.op≠16∧o.op≠17∧q=o.next)∨((o.op=13∨o.op=14∨o.op=15)∧(q:Int)=o.next+o.arg)
def Lawful(l:List Ins)(most:Nat)(H:Nat→Int):Prop :=
 H 3=0∧∀ o∈l,(takesN o.op:Int)≤H o.pos∧H o.pos≤most∧(∀ q,Flows o q→(∃ o'∈l,o'.pos=q)∧H q=H o.pos-takesN o.op+laysN o.op)∧(o.pos=3∨∃ o'∈l,Flows o' o.pos)
def HeadOk(s:ByteArray):Prop:=4≤s.size∧s.size≤4000∧bt s 0=83∧bt s 1=76
def IsImg(s:ByteArray):Prop:=HeadOk s∧∃ l,Chain s 3 l s.size∧∃ H,Lawful l (bt s 2) H
theorem Chain.le{s:ByteArray}:∀ {l:List Ins} {p q:Nat},Chain s p l q→p≤q
 | [],_,_,h=>Nat.le_of_eq h
 | o :: r,p,q,h=>by
  obtain ⟨_,rfl,h3⟩:=h
  have:=Chain.le h3
  simp only[mkIns]at this
  omega
theorem Chain.snoc{s:ByteArray}:∀ {l:List Ins} {p q:Nat},Chain s p l q→OpOkI s q→Chain s p (l++[mkIns s q]) (mkIns s q).next
 | [],_,_,h,ho=>by subst h;exact ⟨ho,rfl,rfl⟩
 | o :: r,p,q,h,ho=>⟨h.1,h.2.1,h.2.2.snoc ho⟩
theorem Chain.pre{s:ByteArray}:∀ {l0 l:List Ins} {p q:Nat},Chain s p l0 q→Chain s p l s.size→∃ r,l=l0++r∧Chain s q r s.size
 | [],l,p,q,h0,h=>by subst h0;exact ⟨l,rfl,h⟩
 | o :: r0,[],p,q,h0,h=>by
  have h1:p<s.size:=h0.1.1
  have h2:p=s.size:=h
  omega
 | o :: r0,o' :: r',p,q,h0,h=>by
  obtain ⟨_,rfl,h0'⟩:=h0
  obtain ⟨_,rfl,h'⟩:=h
  obtain ⟨r,rfl,hr⟩:=Chain.pre h0' h'
  exact ⟨r,rfl,hr⟩
theorem Chain.mem{s:ByteArray}:∀ {l:List Ins} {p q:Nat},Chain s p l q→∀ o∈l,p≤o.pos∧o.next≤q∧OpOkI s o.pos∧o=mkIns s o.pos
 | [],_,_,_,o,ho=>by simp at ho
 | a :: r,p,q,h,o,ho=>by
  obtain ⟨h1,rfl,h3⟩:=h
  rcases List.mem_cons.1 ho with rfl | ho
  ·exact ⟨Nat.le_refl _,h3.le,h1,rfl⟩
  ·obtain ⟨h4,h5⟩:=Chain.mem h3 o ho
   exact ⟨by simp only[mkIns]at h4;omega,h5⟩
theorem next_pos(s:ByteArray)(p:Nat):p<(mkIns s p).next:=by simp only[mkIns];omega
theorem Chain.cover{s:ByteArray}:∀ {l:List Ins} {p q:Nat},Chain s p l q→∀ i,p≤i→i<q→∃ o∈l,o.pos≤i∧i<o.next
 | [],p,q,h,i,h1,h2=>by have:p=q:=h;omega
 | a :: r,p,q,h,i,h1,h2=>by
  obtain ⟨_,rfl,h3⟩:=h
  by_cases hi:i<(mkIns s p).next
  ·exact ⟨_,List.mem_cons_self,h1,hi⟩
  ·obtain ⟨o,ho,h4⟩:=Chain.cover h3 i (by omega) h2
   exact ⟨o,List.mem_cons_of_mem _ ho,h4⟩
theorem Chain.apart{s:ByteArray}:∀ {l:List Ins} {p q:Nat},Chain s p l q→∀ a∈l,∀ b∈l,a.pos<b.pos→a.next≤b.pos
 | [],_,_,_,a,ha,_,_,_=>by simp at ha
 | c :: r,p,q,h,a,ha,b,hb,hlt=>by
  obtain ⟨h1,rfl,h3⟩:=h
  rcases List.mem_cons.1 ha with rfl | ha
  ·rcases List.mem_cons.1 hb with rfl | hb
   ·omega
   ·exact (Chain.mem h3 b hb).1
  ·rcases List.mem_cons.1 hb with rfl | hb
   ·have:=(Chain.mem h3 a ha).1
    have h5:=next_pos s p
    simp only[mkIns]at this hlt h5
    omega
   ·exact Chain.apart h3 a ha b hb hlt
theorem Chain.append{s:ByteArray}:∀ {l r:List Ins} {p q e:Nat},Chain s p l q→Chain s q r e→Chain s p (l++r) e
 | [],_,_,_,_,h,h2=>by have:_=_:=h;subst this;exact h2
 | a :: l,r,p,q,e,h,h2=>⟨h.1,h.2.1,h.2.2.append h2⟩
theorem wrap_small(n:Nat)(h:n<65536):IntKind.i64.wrap (n:Nat)=n:=IntWalk.i64_in _ ⟨by omega,by omega⟩
theorem jump_arg(s:ByteArray)(p:Nat)(h:(mkIns s p).op=13∨(mkIns s p).op=14∨(mkIns s p).op=15):(mkIns s p).arg=lowU s (p+1) 2:=by
 have hb:behindN (bt s p)=2:=by
  simp only[mkIns]at h
  unfold behindN;rcases h with h | h | h <;> simp[h]
 simp only[mkIns,hb]
 exact wrap_small _ (lowU_two s _)
theorem Flows.lt{s:ByteArray}{p q:Nat}(h:Flows (mkIns s p) q):p<q:=by
 rcases h with ⟨_,_,_,rfl⟩ | ⟨hj,hq⟩
 ·exact next_pos s p
 ·rw[jump_arg s p hj]at hq
  have:=next_pos s p
  omega
theorem Flows.le{s:ByteArray}{p q:Nat}(h:Flows (mkIns s p) q):(mkIns s p).next≤q:=by
 rcases h with ⟨_,_,_,rfl⟩ | ⟨hj,hq⟩
 ·exact Nat.le_refl _
 ·rw[jump_arg s p hj]at hq
  omega
structure Found(s:ByteArray)(most:Nat)(H:Nat→Int)(p:Nat)(l0:List Ins):Prop where
 chain:Chain s 3 l0 p
 first:H 3=0
 src:∀ q,H q≠-1→q=3∨∃ o∈l0,Flows o q∧H q=H o.pos-takesN o.op+laysN o.op
 done:∀ o∈l0,(takesN o.op:Int)≤H o.pos∧H o.pos≤most∧∀ q,Flows o q→q<s.size∧H q=H o.pos-takesN o.op+laysN o.op
 inside:∀ o∈l0,∀ q,o.pos<q→q<o.next→H q=-1
 low:∀ q,-1≤H q
 high:∀ q,H q≤most
theorem Found.lawful{s:ByteArray}{most:Nat}{H:Nat→Int}{l0:List Ins}(h:Found s most H s.size l0):Lawful l0 most H:=by
 refine ⟨h.first,fun o ho=>?_⟩
 obtain ⟨h1,h2,h3⟩:=h.done o ho
 refine ⟨h1,h2,fun q hq=>?_, ?_⟩
 ·obtain ⟨h4,h5⟩:=h3 q hq
  refine ⟨?_,h5⟩
  have hm:=h.chain.mem o ho
  have hlt:o.pos<q:=by rw[hm.2.2.2]at hq;exact hq.lt
  obtain ⟨o',ho',h6,h7⟩:=h.chain.cover q (by omega) h4
  by_cases he:o'.pos=q
  ·exact ⟨o',ho',he⟩
  ·have:=h.inside o' ho' q (by omega) h7
   have hl:(0:Int)≤laysN o.op:=by omega
   omega
 ·rcases h.src o.pos (by omega) with h6 | ⟨o',ho',hf,_⟩
  ·exact .inl h6
  ·exact .inr ⟨o',ho',hf⟩
theorem Found.agree{s:ByteArray}{most:Nat}{H G:Nat→Int}{p:Nat}{l0 l:List Ins}(h:Found s most H p l0)(hp:p<s.size)(hc:Chain s 3 l s.size)(hl:Lawful l most G) :
  ∀ n q,q<n→H q≠-1→H q=G q∧∃ o∈l,o.pos=q:=by
 obtain ⟨r,rfl,hr⟩:=h.chain.pre hc
 intro n
 induction n with
 | zero=>intro q hq;omega
 | succ n ih =>
  intro q hq hne
  rcases h.src q hne with rfl | ⟨o,ho,hf,he⟩
  ·refine ⟨by rw[h.first,hl.1], ?_⟩
   have h3:=h.chain.le
   obtain ⟨o,ho,h4,h5⟩:=hc.cover 3 (Nat.le_refl _) (by omega)
   exact ⟨o,ho,by have:=(hc.mem o ho).1;omega⟩
  ·have ho':o∈l0++r:=List.mem_append_left _ ho
   have hm:=h.chain.mem o ho
   have hlt:o.pos<q:=by rw[hm.2.2.2]at hf;exact hf.lt
   obtain ⟨h1,_,_⟩:=h.done o ho
   obtain ⟨h2,_⟩:=ih o.pos (by omega) (by omega)
   obtain ⟨_,_,h3,_⟩:=hl.2 o ho'
   obtain ⟨h4,h5⟩:=h3 q hf
   exact ⟨by omega,h4⟩
abbrev In64(n:Int):Prop:=-9223372036854775808≤n∧n≤9223372036854775807
theorem wrap_in{n:Int}(h:In64 n):IntKind.i64.wrap n=n:=IntWalk.i64_in n h
theorem in_wrap(n:Int):In64 (IntKind.i64.wrap n):=by rw[IntKind.wrap_i64];unfold In64;omega
theorem wrap_off(n:Int):∃ k:Int,IntKind.i64.wrap n=n+18446744073709551616*k:=by
 rw[IntKind.wrap_i64]
 exact ⟨-((n+9223372036854775808) / 18446744073709551616),by omega⟩
def exact64(v:Int):Int×Nat:=if In64 v then (v,0) else (0,1)
def bitN(b:Bool):Int:=if b then 1 else 0
def joinN(c:Nat)(a b:Int):Int×Nat :=
 if c=4 then exact64 (a+b)
 else if c=5 then exact64 (a-b)
 else if c=6 then exact64 (a*b)
 else if c=7 then (if b=0 then (0,2) else exact64 (a.tdiv b))
 else if c=8 then (if b=0 then (0,2) else if a=-9223372036854775808∧b=-1 then (0,1) else (a.tmod b,0))
 else if c=9 then (bitN (decide (a<b)),0)
 else if c=10 then (bitN (decide (a≤b)),0)
 else if c=11 then (bitN (decide (a=b)),0)
 else (bitN (decide (a≠b)),0)
def negN(a:Int):Int×Nat:=exact64 (0-a)
theorem exact_in{v:Int}(h:In64 v):exact64 v=(v,0):=if_pos h
theorem exact_out{v:Int}(h:¬ In64 v):exact64 v=(0,1):=if_neg h
theorem tdiv_bound(a b:Int)(hb:b≠0):(a-b*a.tdiv b).natAbs<b.natAbs:=by
 have h1:=Int.tmod_add_mul_tdiv a b
 have h2:a-b*a.tdiv b=a.tmod b:=by omega
 rw[h2,Int.natAbs_tmod]
 exact Nat.mod_lt _ (by omega)
theorem tdiv_in(a b:Int)(ha:In64 a)(hb:In64 b)(h0:b≠0)(hne:¬ (a=-9223372036854775808∧b=-1)):In64 (a.tdiv b):=by
 have hab:(a.tdiv b).natAbs=a.natAbs / b.natAbs:=Int.natAbs_tdiv a b
 have hle:(a.tdiv b).natAbs≤a.natAbs:=by rw[hab];exact Nat.div_le_self _ _
 unfold In64 at *
 by_cases h1:a=-9223372036854775808
 ·have hb1:b≠-1:=fun h=>hne ⟨h1,h⟩
  by_cases hb2:b=1
  ·subst hb2;rw[Int.tdiv_one];exact ha
  ·have h2:2≤b.natAbs:=by omega
   have:a.natAbs / b.natAbs≤a.natAbs / 2:=Nat.div_le_div_left h2 (by omega)
   omega
 ·omega
theorem tdiv_out:¬ In64 ((-9223372036854775808:Int).tdiv (-1)):=by decide
theorem join_div(a b:Int)(ha:In64 a)(hb:In64 b)(h0:b≠0):joinN 7 a b=if a=-9223372036854775808∧b=-1 then (0,1) else (a.tdiv b,0):=by
 simp only[joinN]
 rw[if_neg (by omega),if_neg (by omega),if_neg (by omega),if_pos trivial,if_neg h0]
 split
 ·rename_i h;rw[h.1,h.2];exact exact_out tdiv_out
 ·rename_i h;exact exact_in (tdiv_in a b ha hb h0 h)
theorem mul_test(a b:Int)(ha:In64 a)(hb:In64 b)(h0:b≠0):(IntKind.i64.wrap (a*b)).tdiv b=a↔In64 (a*b):=by
 constructor
 ·intro h
  obtain ⟨k,hk⟩:=wrap_off (a*b)
  have hi:=in_wrap (a*b)
  have h1:=tdiv_bound (IntKind.i64.wrap (a*b)) b h0
  rw[h,Int.mul_comm b a]at h1
  by_cases hk0:k=0
  ·rw[hk,hk0]at hi;simpa using hi
  ·unfold In64 at *
   omega
 ·intro h
  rw[wrap_in h]
  exact Int.mul_tdiv_cancel a h0
theorem join_in(c:Nat)(a b:Int)(ha:In64 a)(hb:In64 b):In64 (joinN c a b).1:=by
 have e:∀ v,In64 (exact64 v).1:=fun v=>by unfold exact64;split <;> simp_all [In64]
 have e0:In64 (0:Int):=by decide
 have e1:∀ x,In64 (bitN x):=fun x=>by cases x <;> decide
 have em:In64 (a.tmod b):=by
  have h2:(a.tmod b).natAbs=a.natAbs % b.natAbs:=Int.natAbs_tmod a b
  have h3:=Nat.mod_le a.natAbs b.natAbs
  have h4:=Int.tmod_nonneg (a:=a) b
  unfold In64 at *
  by_cases h:0≤a
  ·have:=h4 h;omega
  ·have h5:=Int.tmod_nonneg (a:=-a) b (by omega)
   rw[Int.neg_tmod]at h5
   omega
 unfold joinN
 repeat' split
 all_goals first | exact e _ | exact e0 | exact e1 _ | exact em
theorem neg_in(a:Int):In64 (negN a).1:=by unfold negN exact64;split <;> simp_all [In64]
def upd(hs:Nat→Int)(k:Nat)(v:Int):Nat→Int:=fun j=>if j=k then v else hs j
end Go.Proofs.YtpcjadaeolkngaaGreatDoor
