/-
  The parts of a policy with which nothing is wrong bound the pieces of its rules.
-/
import Derived.Test.YtldfkcpbjooemaaGreatDoorG37
set_option linter.unusedVariables false
set_option linter.unusedSimpArgs false
namespace Go.Proofs.YtldfkcpbjooemaaGreatDoor
theorem count_exact (ls:List PLet) (sz:List Nat):∀ (l:List PNode) (c:Nat),countGo ls sz c l≤150→countGo ls sz c l=c+sumN ls sz l
 | [],c,_=>by simp[countGo,sumN]
 | n :: r,c,h=>by
  rw[countGo] at h ⊢
  split at h
  ·rename_i hc
   rw[if_pos hc,count_exact ls sz r _ h,sumN]
   omega
  ·omega
theorem seg_flat {N:List PNode} {l:List PNode} {e:PExp} (h:LiesAt N e.fr l) (hb:e.behind=e.fr+l.length):segE N e=l:=by
 apply List.ext_getElem?
 intro k
 unfold segE
 rw[List.getElem?_take]
 by_cases hk:k < l.length
 ·rw[if_pos (by omega),List.getElem?_drop,List.getElem?_eq_getElem hk]
  exact h k _ (List.getElem?_eq_getElem hk)
 ·rw[if_neg (by omega),List.getElem?_eq_none (by omega)]
def IsTree (N:List PNode) (e:PExp):Prop:=∃ t:Tr,t.wf∧e.behind=e.fr+t.num∧LiesAt N e.fr (t.flat e.fr)
theorem let_trees {N:List PNode}:∀ (l:List RSt),(∀ s∈l,s.wf)→∀ b,LiesAt N b (nodesS b l)→∀ p∈letsS b l,IsTree N p.val
 | [],_,_,_,p,hp=>by cases hp
 | s :: r,hw,b,hl,p,hp=>by
  rw[letsS,List.mem_append] at hp
  rw[nodesS] at hl
  have hlen:=s.nodes_len (hw s List.mem_cons_self) b
  rcases hp with hp | hp
  ·rcases s.cases with ⟨kw,name,eq,e,semi,rfl⟩ | ⟨wh,act,sc,semi,rfl⟩
   ·rw[RSt.lets_let,List.mem_singleton] at hp
    subst hp
    exact ⟨e,(hw _ List.mem_cons_self).2.2.2.1,rfl,hl.left⟩
   ·cases hp
  ·have hr:=hl.right
   rw[hlen] at hr
   exact let_trees r (fun x hx=>hw x (List.mem_cons_of_mem _ hx)) _ hr p hp
theorem rule_trees {N:List PNode}:∀ (l:List RSt),(∀ s∈l,s.wf)→∀ b,LiesAt N b (nodesS b l)→∀ p∈rulesS b l,(p.hw=true→IsTree N p.when)∧(p.hs=true→IsTree N p.score)∧(p.hw=false→p.when=noExp)∧(p.hs=false→p.score=noExp)
 | [],_,_,_,p,hp=>by cases hp
 | s :: r,hw,b,hl,p,hp=>by
  rw[rulesS,List.mem_append] at hp
  rw[nodesS] at hl
  have hlen:=s.nodes_len (hw s List.mem_cons_self) b
  rcases hp with hp | hp
  ·rcases s.cases with ⟨kw,name,eq,e,semi,rfl⟩ | ⟨wh,act,sc,semi,rfl⟩
   ·cases hp
   ·rw[RSt.rules_rule,List.mem_singleton] at hp
    subst hp
    have hws:=hw _ List.mem_cons_self
    have hwf:∀ e,wh.map Prod.snd=some e→e.wf:=fun e he=>by
     cases wh with
     | none=>cases he
     | some p=>cases he;exact (hws.1 p.1 p.2 rfl).2
    have hl1:=hl.left
    rw[RSt.nodes_rule] at hl1
    have ho:=optNodes_len (wh.map Prod.snd) hwf b
    have hl2:=hl1.right
    rw[ho] at hl2
    refine ⟨fun h=>?_,fun h=>?_,fun h=>?_,fun h=>?_⟩
    ·cases wh with
     | none=>cases h
     | some q=>exact ⟨q.2,(hws.1 q.1 q.2 rfl).2,rfl,hl1.left⟩
    ·cases sc with
     | none=>cases h
     | some e=>exact ⟨e,hws.2.2.1 e rfl,rfl,hl2⟩
    ·cases wh with
     | none=>rfl
     | some q=>cases h
    ·cases sc with
     | none=>rfl
     | some e=>cases h
  ·have hr:=hl.right
   rw[hlen] at hr
   exact rule_trees r (fun x hx=>hw x (List.mem_cons_of_mem _ hx)) _ hr p hp
theorem sizesL_get (ls:List PLet) (N:List PNode):∀ (r:List PLet) (sz:List Nat) (i:Nat),i < sz.length→(sizesL ls N sz r).getD i 0=sz.getD i 0
 | [],sz,i,_=>rfl
 | p :: r,sz,i,h=>by
  rw[sizesL,sizesL_get ls N r _ i (by simp;omega)]
  simp only[List.getD_eq_getElem?_getD]
  rw[List.getElem?_append_left h]
theorem countGo_same {ls:List PLet} {s1 s2:List Nat}:∀ (l:List PNode) (c:Nat),(∀ n∈l,kindP n.tok.text=2→s1.getD (letIx ls n.tok.text) 0=s2.getD (letIx ls n.tok.text) 0)→countGo ls s1 c l=countGo ls s2 c l
 | [],_,_=>rfl
 | n :: r,c,h=>by
  have e:partNode ls s1 n.tok=partNode ls s2 n.tok:=by
   unfold partNode
   split
   ·rename_i hk;exact h n List.mem_cons_self hk
   ·rfl
  rw[countGo,countGo,e]
  split
  ·exact countGo_same r _ fun m hm=>h m (List.mem_cons_of_mem _ hm)
  ·rfl
theorem sizes_at {ls:List PLet} {N:List PNode}:∀ (r:List PLet) (sz:List Nat) (k:Nat) (p:PLet),r[k]?=some p→∃ s1,s1.length=sz.length+k∧(sizesL ls N sz r).getD (sz.length+k) 0=countGo ls s1 0 (segE N p.val)∧∀ i,i < s1.length→s1.getD i 0=(sizesL ls N sz r).getD i 0
 | [],_,k,p,h=>by simp at h
 | q :: r,sz,0,p,h=>by
  have e:q=p:=by simpa using h
  subst e
  refine ⟨sz,rfl, ?_,fun i hi=>(sizesL_get ls N (q :: r) sz i hi).symm⟩
  rw[sizesL,Nat.add_zero,sizesL_get ls N r _ sz.length (by simp)]
  simp[List.getD_eq_getElem?_getD]
 | q :: r,sz,k+1,p,h=>by
  obtain ⟨s1,h1,h2,h3⟩:=sizes_at r (sz++[countGo ls sz 0 (segE N q.val)]) k p (by simpa using h) (ls:=ls) (N:=N)
  rw[List.length_append,List.length_singleton] at h1 h2
  refine ⟨s1,by omega, ?_, ?_⟩
  ·rw[sizesL,show sz.length+(k+1)=sz.length+1+k by omega];exact h2
  ·rw[sizesL];exact h3
theorem lets_wt {ls:List PLet} {N:List PNode} (hm:∀ n∈N,mayT n.tok.text=true) (hna:NamesAhead ls N) (ht:∀ p∈ls,IsTree N p.val) (hnl:pNamesL N ls 0 ls=none) (hK:∀ n∈N,kindP n.tok.text=2→nameT n.tok.text=true) :
  ∀ (k:Nat) (p:PLet),ls[k]?=some p→(sizesL ls N [] ls).getD k 0≤150→∀ f:Nat,((p.val.behind:Int) - 1) < (f:Int)→wtI ls N f ((p.val.behind:Int) - 1)≤(sizesL ls N [] ls).getD k 0:=by
 intro k
 induction k using Nat.strongRecOn with
 | _ k ih =>
  intro p hp hle f hf
  obtain ⟨t,hw,hbe,hl⟩:=ht p (List.mem_of_getElem? hp)
  have hpos:=t.num_pos hw
  have hlen:=t.flat_len hw p.val.fr
  have hseg:=seg_flat hl (by rw[hlen];exact hbe)
  obtain ⟨s1,h1,h2,h3⟩:=sizes_at ls [] k p hp (ls:=ls) (N:=N)
  simp only[List.length_nil,Nat.zero_add] at h1 h2
  have hmem:∀ n∈t.flat p.val.fr,n∈N:=fun n hn=>by
   obtain ⟨i,hi⟩:=List.mem_iff_getElem?.1 hn
   exact List.mem_of_getElem? (hl i n hi)
  have hname:∀ n∈t.flat p.val.fr,kindP n.tok.text=2→letIx ls n.tok.text < k:=fun n hn hk=>by
   have:=namesL_all hnl k p hp n (by rw[hseg];exact hn) (hK n (hmem n hn) hk)
   omega
  have hsame:countGo ls s1 0 (segE N p.val)=countGo ls (sizesL ls N [] ls) 0 (segE N p.val):=countGo_same _ _ fun n hn hk=>h3 _ (by
   rw[h1];rw[hseg] at hn;exact hname n hn hk)
  rw[h2,hsame,hseg] at hle ⊢
  have hex:=count_exact ls _ _ 0 hle
  rw[Nat.zero_add] at hex
  rw[hex] at hle ⊢
  have hbi:((p.val.behind:Int) - 1)=((p.val.fr+t.num - 1:Nat):Int):=by omega
  rw[hbi] at hf ⊢
  refine tree_wt hm hna t hw p.val.fr hl (fun n hn hk hs f' hf'=>?_) hle f (by omega)
  have hix:=hname n hn hk
  obtain ⟨q,hq⟩:∃ q,ls[letIx ls n.tok.text]?=some q:=⟨_,List.getElem?_eq_getElem (by have:=(List.getElem?_eq_some_iff.1 hp).1;omega)⟩
  have hmi:meantI ls n.tok.text=(q.val.behind:Int) - 1:=by unfold meantI;rw[hq]
  rw[hmi] at hf' ⊢
  exact ih _ hix q hq hs f' hf'
def wtR (ls:List PLet) (N:List PNode) (p:PRule):Nat:=(if p.hw then wtI ls N N.length ((p.when.behind:Int) - 1) else 0)+(if p.hs then wtI ls N N.length ((p.score.behind:Int) - 1) else 0)
def wtRs (ls:List PLet) (N:List PNode):List PRule→Nat
 | []=>0
 | p :: r=>wtR ls N p+wtRs ls N r
theorem partsR_acc (ls:List PLet) (N:List PNode) (sz:List Nat):∀ (r:List PRule) (a:Nat),a≤partsR ls N sz a r
 | [],a=>Nat.le_refl _
 | p :: r,a=>by
  rw[partsR]
  have:=partsR_acc ls N sz r (a+countGo ls sz 0 (segE N p.when)+countGo ls sz 0 (segE N p.score))
  omega
theorem rules_wt {s:Txt} {L R:List RSt} (h:PolicyOf s L R) (hN:(nodesS 0 (L++R)).length≤401) (he:errsOf (nodesS 0 (L++R)) (letsS 0 (L++R)) (rulesS 0 (L++R))=(0,0)) :
  wtRs (letsS 0 (L++R)) (nodesS 0 (L++R)) (rulesS 0 (L++R))≤150:=by
 unfold errsOf at he
 split at he
 ·cases he
 rename_i hnm
 split at he
 ·cases he
 split at he
 ·cases he
 rename_i hpp
 have hf:=fits_of h hN
 have hna:=names_ahead h hN hnm
 have hl0:LiesAt (nodesS 0 (L++R)) 0 (nodesS 0 (L++R)):=fun k n hk=>by rw[Nat.zero_add];exact hk
 have hlt:=let_trees (L++R) h.wf 0 hl0
 have hrt:=rule_trees (L++R) h.wf 0 hl0
 have hnl:pNamesL (nodesS 0 (L++R)) (letsS 0 (L++R)) 0 (letsS 0 (L++R))=none:=by
  unfold pNames at hnm
  split at hnm
  ·cases hnm
  ·assumption
 have hnr:pNamesR (nodesS 0 (L++R)) (letsS 0 (L++R)) (rulesS 0 (L++R))=none:=by
  unfold pNames at hnm
  split at hnm
  ·cases hnm
  ·exact hnm
 have hK:∀ n∈nodesS 0 (L++R),kindP n.tok.text=2→nameT n.tok.text=true:=fun n hn hk=>(kindOf n.tok.text (hf.x.may n hn)).kname.1 hk
 generalize hNN:nodesS 0 (L++R)=N at *
 generalize hll:letsS 0 (L++R)=ls at *
 generalize hrr:rulesS 0 (L++R)=rs at *
 have hlw:=lets_wt hf.x.may hna hlt hnl hK
 have hexp:∀ e:PExp,IsTree N e→(∀ n∈segE N e,nameT n.tok.text=true→letIx ls n.tok.text < ls.length)→countGo ls (sizesL ls N [] ls) 0 (segE N e)≤150→e.behind≤N.length→wtI ls N N.length ((e.behind:Int) - 1)≤countGo ls (sizesL ls N [] ls) 0 (segE N e):=by
  intro e ⟨t,hw,hbe,hl⟩ hnames hle hbn
  have hpos:=t.num_pos hw
  have hlen:=t.flat_len hw e.fr
  have hseg:=seg_flat hl (by rw[hlen];exact hbe)
  have hex:=count_exact ls _ _ 0 hle
  rw[Nat.zero_add] at hex
  rw[hex] at hle ⊢
  rw[hseg] at hle hnames ⊢
  have hmem:∀ n∈t.flat e.fr,n∈N:=fun n hn=>by
   obtain ⟨i,hi⟩:=List.mem_iff_getElem?.1 hn
   exact List.mem_of_getElem? (hl i n hi)
  have hbi:((e.behind:Int) - 1)=((e.fr+t.num - 1:Nat):Int):=by omega
  rw[hbi]
  refine tree_wt hf.x.may hna t hw e.fr hl (fun n hn hk hs f' hf'=>?_) hle _ (by omega)
  have hix:=hnames n hn (hK n (hmem n hn) hk)
  obtain ⟨q,hq⟩:∃ q,ls[letIx ls n.tok.text]?=some q:=⟨_,List.getElem?_eq_getElem hix⟩
  have hmi:meantI ls n.tok.text=(q.val.behind:Int) - 1:=by unfold meantI;rw[hq]
  rw[hmi] at hf' ⊢
  exact hlw _ q hq hs f' hf'
 have key:∀ (r:List PRule) (a:Nat),(∀ p∈r,p∈rs)→partsR ls N (sizesL ls N [] ls) a r≤150→a+wtRs ls N r≤partsR ls N (sizesL ls N [] ls) a r:=by
  intro r
  induction r with
  | nil=>intro a _ _;simp[wtRs,partsR]
  | cons p r ih =>
   intro a hsub hle
   rw[partsR] at hle ⊢
   have hp:=hsub p List.mem_cons_self
   have hacc:=partsR_acc ls N (sizesL ls N [] ls) r (a+countGo ls (sizesL ls N [] ls) 0 (segE N p.when)+countGo ls (sizesL ls N [] ls) 0 (segE N p.score))
   have ih':=ih _ (fun q hq=>hsub q (List.mem_cons_of_mem _ hq)) hle
   obtain ⟨t1,t2,_,_⟩:=hrt p hp
   have w1:(if p.hw then wtI ls N N.length ((p.when.behind:Int) - 1) else 0)≤countGo ls (sizesL ls N [] ls) 0 (segE N p.when):=by
    split
    ·rename_i hh
     exact hexp p.when (t1 hh) (fun n hn ht=>namesR_all hnr p hp n (.inl hn) ht) (by omega) (hf.x.w p hp).lt
    ·exact Nat.zero_le _
   have w2:(if p.hs then wtI ls N N.length ((p.score.behind:Int) - 1) else 0)≤countGo ls (sizesL ls N [] ls) 0 (segE N p.score):=by
    split
    ·rename_i hh
     exact hexp p.score (t2 hh) (fun n hn ht=>namesR_all hnr p hp n (.inr hn) ht) (by omega) (hf.x.s p hp).lt
    ·exact Nat.zero_le _
   rw[wtRs,wtR]
   omega
 have hpp':partsR ls N (sizesL ls N [] ls) 0 rs≤150:=by
  unfold pParts at hpp
  omega
 have:=key rs 0 (fun p hp=>hp) hpp'
 omega
end Go.Proofs.YtldfkcpbjooemaaGreatDoor
namespace Go.Proofs.YtldfkcpbjooemaaGreatDoor
structure Tail (s:ByteArray) (p q:Nat) (hi:Int) (l:List Ins) (H:Nat→Int):Prop where
 chain:Chain s p l q
 start:H p=0
 lt:p < q
 ops:∀ o∈l,(takesN o.op:Int)≤H o.pos∧H o.pos≤hi∧∀ r,Flows o r→(∃ o'∈l,o'.pos=r)∧H r=H o.pos - takesN o.op+laysN o.op
 reach:∀ o∈l,o.pos=p∨∃ o'∈l,Flows o' o.pos
theorem Tail.first {s:ByteArray} {p q:Nat} {hi:Int} {l:List Ins} {H:Nat→Int} (g:Tail s p q hi l H):∃ o∈l,o.pos=p:=by
 obtain ⟨o,ho,h1,h2⟩:=g.chain.cover p (Nat.le_refl _) g.lt
 exact ⟨o,ho,by have:=(g.chain.mem o ho).1;omega⟩
theorem Tail.before {s:ByteArray} {p q:Nat} {hi:Int} {l:List Ins} {H:Nat→Int} (g:Tail s p q hi l H) {o:Ins} (ho:o∈l):p≤o.pos∧o.pos < q:=by
 have hm:=g.chain.mem o ho
 have:=next_pos s o.pos
 rw[← hm.2.2.2] at this
 omega
theorem Tail.lawful {s:ByteArray} {q:Nat} {hi:Int} {l:List Ins} {H:Nat→Int} {most:Nat} (g:Tail s 3 q hi l H) (hm:hi≤most):Lawful l most H :=
 ⟨g.start,fun o ho=>by
  obtain ⟨a1,a2,a3⟩:=g.ops o ho
  exact ⟨a1,by omega,a3,g.reach o ho⟩⟩
theorem Tail.more {s:ByteArray} {p q:Nat} {hi hi':Int} {l:List Ins} {H:Nat→Int} (g:Tail s p q hi l H) (h:hi≤hi'):Tail s p q hi' l H :=
 ⟨g.chain,g.start,g.lt,fun o ho=>by
  obtain ⟨a1,a2,a3⟩:=g.ops o ho
  exact ⟨a1,by omega,a3⟩,g.reach⟩
theorem end_flows {s:ByteArray} {q:Nat} (hk:bt s q=16∨bt s q=17) (r:Nat):¬ Flows (mkIns s q) r:=by
 intro hr
 rcases hr with ⟨_,h2,h3,_⟩ | ⟨h2,_⟩
 ·simp only[mkIns] at h2 h3;omega
 ·simp only[mkIns] at h2;omega
theorem end_op {s:ByteArray} {p:Nat} (h1:p < s.size) (h2:bt s p=16∨bt s p=17):OpOkI s p∧(mkIns s p).next=p+1:=by
 have hb:behindN (bt s p)=0:=by rcases h2 with h | h <;> rw[h] <;> rfl
 exact ⟨⟨h1,by omega,by rw[hb];omega,by omega⟩,by simp only[mkIns,hb]⟩
theorem tail_reject {s:ByteArray} {p:Nat} (h1:p < s.size) (h2:bt s p=17):Tail s p (p+1) 0 [mkIns s p] (fun _=>0):=by
 obtain ⟨ok,hn⟩:=end_op h1 (.inr h2)
 refine ⟨⟨ok,rfl,hn⟩,rfl,by omega,fun o ho=>?_,fun o ho=>?_⟩
 ·obtain rfl:o=mkIns s p:=by simpa using ho
  have:(mkIns s p).op=17:=h2
  rw[this]
  exact ⟨by decide,Int.le_refl _,fun r hr=>absurd hr (end_flows (.inr h2) r)⟩
 ·obtain rfl:o=mkIns s p:=by simpa using ho
  exact .inl rfl
theorem tail_score {s:ByteArray} {p q:Nat} {hi:Int} {l:List Ins} {H:Nat→Int} (g:Seg s p q 0 1 hi l H) (h1:q < s.size) (h2:bt s q=16):Tail s p (q+1) hi (l++[mkIns s q]) H:=by
 obtain ⟨ok,hn⟩:=end_op h1 (.inl h2)
 have hch:=g.chain.snoc ok
 rw[hn] at hch
 have hlt:=g.lt
 have he:=g.ends
 refine ⟨hch,g.start,by omega,fun o ho=>?_,fun o ho=>?_⟩
 ·rcases List.mem_append.1 ho with h3 | h3
  ·obtain ⟨a1,a2,a3⟩:=g.ops o h3
   refine ⟨a1,a2,fun r hr=>?_⟩
   obtain ⟨b1,b2⟩:=a3 r hr
   refine ⟨?_,b2⟩
   rcases b1 with rfl | ⟨o',ho',hp⟩
   ·exact ⟨mkIns s r,by simp,rfl⟩
   ·exact ⟨o',List.mem_append_left _ ho',hp⟩
  ·obtain rfl:o=mkIns s q:=by simpa using h3
   have hop:(mkIns s q).op=16:=h2
   have hps:(mkIns s q).pos=q:=rfl
   rw[hop,hps,g.fin]
   exact ⟨by decide,he,fun r hr=>absurd hr (end_flows (.inl h2) r)⟩
 ·rcases List.mem_append.1 ho with h3 | h3
  ·rcases g.reach o h3 with h4 | ⟨o',ho',hf⟩
   ·exact .inl h4
   ·exact .inr ⟨o',List.mem_append_left _ ho',hf⟩
  ·obtain rfl:o=mkIns s q:=by simpa using h3
   obtain ⟨o',ho',hf⟩:=g.out
   exact .inr ⟨o',List.mem_append_left _ ho',hf⟩
theorem jump_flows {s:ByteArray} {q r d:Nat} (ho:(mkIns s q).op=14) (hn:(mkIns s q).next=q+3) (ha:(mkIns s q).arg=d):Flows (mkIns s q) r ↔ r=q+3∨r=q+3+d:=by
 constructor
 ·rintro (⟨_,_,_,h⟩ | ⟨_,h⟩)
  ·exact .inl (by omega)
  ·exact .inr (by rw[hn,ha] at h;omega)
 ·rintro (rfl | rfl)
  ·exact .inl ⟨by omega,by omega,by omega,hn.symm⟩
  ·exact .inr ⟨.inr (.inl ho),by rw[hn,ha];omega⟩
theorem tail_guard {s:ByteArray} {p q d e:Nat} {h1 h2 h3:Int} {lw la lr:List Ins} {Hw Ha Hr:Nat→Int} (gw:Seg s p q 0 1 h1 lw Hw) (ok:OpOkI s q) (hop:(mkIns s q).op=14) (hnx:(mkIns s q).next=q+3) (harg:(mkIns s q).arg=d)
  (ga:Tail s (q+3) (q+3+d) h2 la Ha) (gr:Tail s (q+3+d) e h3 lr Hr) :
  ∃ l H,Tail s p e (max h1 (max h2 h3)) l H:=by
 have hpq:=gw.lt
 have haq:=ga.lt
 have hre:=gr.lt
 have hwe:=gw.ends
 obtain ⟨oa,hoa,hpa⟩:=ga.first
 obtain ⟨orr,horr,hpr⟩:=gr.first
 have hps:(mkIns s q).pos=q:=rfl
 have htk:takesN 14=1:=rfl
 have hly:laysN 14=0:=rfl
 refine ⟨lw++(mkIns s q :: (la++lr)),fun x=>if x≤q then Hw x else if x < q+3+d then Ha x else Hr x, ?_, ?_,by omega, ?_, ?_⟩
 ·have c1:Chain s (q+3) (la++lr) e:=ga.chain.append gr.chain
  have c2:Chain s q (mkIns s q :: (la++lr)) e:=⟨ok,rfl,by rw[hnx];exact c1⟩
  exact gw.chain.append c2
 ·show (if p≤q then Hw p else if p < q+3+d then Ha p else Hr p)=0
  rw[if_pos (by omega)]
  exact gw.start
 ·intro o ho
  have ew:∀ o∈lw,(if o.pos≤q then Hw o.pos else if o.pos < q+3+d then Ha o.pos else Hr o.pos)=Hw o.pos:=fun o ho=>if_pos (by have:=(gw.before ho).2;omega)
  have ea:∀ o∈la,(if o.pos≤q then Hw o.pos else if o.pos < q+3+d then Ha o.pos else Hr o.pos)=Ha o.pos:=fun o ho=>by
   have:=ga.before ho
   rw[if_neg (by omega),if_pos (by omega)]
  have er:∀ o∈lr,(if o.pos≤q then Hw o.pos else if o.pos < q+3+d then Ha o.pos else Hr o.pos)=Hr o.pos:=fun o ho=>by
   have:=gr.before ho
   rw[if_neg (by omega),if_neg (by omega)]
  show (takesN o.op:Int)≤(if o.pos≤q then Hw o.pos else if o.pos < q+3+d then Ha o.pos else Hr o.pos)∧(if o.pos≤q then Hw o.pos else if o.pos < q+3+d then Ha o.pos else Hr o.pos)≤_∧∀ r,Flows o r→_∧(if r≤q then Hw r else if r < q+3+d then Ha r else Hr r)=(if o.pos≤q then Hw o.pos else if o.pos < q+3+d then Ha o.pos else Hr o.pos) - takesN o.op+laysN o.op
  rcases List.mem_append.1 ho with hm | hm
  ·obtain ⟨a1,a2,a3⟩:=gw.ops o hm
   rw[ew o hm]
   refine ⟨a1,by omega,fun r hr=>?_⟩
   obtain ⟨b1,b2⟩:=a3 r hr
   rcases b1 with rfl | ⟨o',ho',rfl⟩
   ·exact ⟨⟨mkIns s r,by simp,rfl⟩,by rw[if_pos (Nat.le_refl _)];exact b2⟩
   ·exact ⟨⟨o',List.mem_append_left _ ho',rfl⟩,by rw[ew o' ho'];exact b2⟩
  ·rcases List.mem_cons.1 hm with rfl | hm
   ·rw[hps,hop,htk,hly,if_pos (Nat.le_refl _),gw.fin]
    refine ⟨by decide,by omega,fun r hr=>?_⟩
    rcases (jump_flows hop hnx harg).1 hr with rfl | rfl
    ·refine ⟨⟨oa,by simp[hoa],hpa⟩, ?_⟩
     rw[if_neg (by omega),if_pos (by omega),ga.start]
     rfl
    ·refine ⟨⟨orr,by simp[horr],hpr⟩, ?_⟩
     rw[if_neg (by omega),if_neg (by omega),gr.start]
     rfl
   ·rcases List.mem_append.1 hm with hm | hm
    ·obtain ⟨a1,a2,a3⟩:=ga.ops o hm
     rw[ea o hm]
     refine ⟨a1,by omega,fun r hr=>?_⟩
     obtain ⟨⟨o',ho',rfl⟩,b2⟩:=a3 r hr
     exact ⟨⟨o',by simp[ho'],rfl⟩,by rw[ea o' ho'];exact b2⟩
    ·obtain ⟨a1,a2,a3⟩:=gr.ops o hm
     rw[er o hm]
     refine ⟨a1,by omega,fun r hr=>?_⟩
     obtain ⟨⟨o',ho',rfl⟩,b2⟩:=a3 r hr
     exact ⟨⟨o',by simp[ho'],rfl⟩,by rw[er o' ho'];exact b2⟩
 ·intro o ho
  rcases List.mem_append.1 ho with hm | hm
  ·rcases gw.reach o hm with h4 | ⟨o',ho',hf⟩
   ·exact .inl h4
   ·exact .inr ⟨o',List.mem_append_left _ ho',hf⟩
  ·rcases List.mem_cons.1 hm with rfl | hm
   ·obtain ⟨o',ho',hf⟩:=gw.out
    exact .inr ⟨o',List.mem_append_left _ ho',hf⟩
   ·rcases List.mem_append.1 hm with hm | hm
    ·rcases ga.reach o hm with h4 | ⟨o',ho',hf⟩
     ·exact .inr ⟨mkIns s q,by simp,(jump_flows hop hnx harg).2 (.inl h4)⟩
     ·exact .inr ⟨o',by simp[ho'],hf⟩
    ·rcases gr.reach o hm with h4 | ⟨o',ho',hf⟩
     ·exact .inr ⟨mkIns s q,by simp,(jump_flows hop hnx harg).2 (.inr h4)⟩
     ·exact .inr ⟨o',by simp[ho'],hf⟩
def Ends (s:ByteArray) (x:Itm) (y:Bn) (p:Nat) (r:Nat × Int × Nat):Prop:=∀ f n,r.2.2≤f→runM s x y f p [] n=(r.1,r.2.1,n+r.2.2)
theorem ends_reject {s:ByteArray} (x:Itm) (y:Bn) {p:Nat} (h:bt s p=17):Ends s x y p (0,0,1):=by
 intro f n hf
 obtain ⟨f',rfl⟩:∃ f',f=f'+1:=⟨f - 1,by simp only at hf;omega⟩
 have hop:(mkIns s p).op=17:=h
 exact runM_end (by unfold stepM;rw[hop];rfl)
theorem ends_score {s:ByteArray} {x:Itm} {y:Bn} {p q:Nat} {v:Int} {flt steps:Nat} (hd:DoesSo s x y p q v flt steps) (h:bt s q=16):Ends s x y p (if flt=0 then (1,v,steps+1) else (2,(flt:Int),steps)):=by
 intro f n hf
 rcases hd with ⟨h0,h1⟩ | ⟨h0,h1⟩
 ·rw[if_pos h0] at hf ⊢
  simp only at hf ⊢
  obtain ⟨f',rfl⟩:∃ f',f=(f'+1)+steps:=⟨f - steps - 1,by omega⟩
  rw[h1]
  have hop:(mkIns s q).op=16:=h
  rw[runM_end (k:=1) (v:=v) (by unfold stepM;rw[hop];rfl)]
  rfl
 ·rw[if_neg h0] at hf ⊢
  exact h1 f [] n hf
theorem ends_guard {s:ByteArray} {x:Itm} {y:Bn} {p q d:Nat} {v:Int} {flt steps:Nat} {ra rr:Nat × Int × Nat} (hd:DoesSo s x y p q v flt steps) (hop:(mkIns s q).op=14) (hnx:(mkIns s q).next=q+3) (hto:(mkIns s q).to=q+3+d) (ha:Ends s x y (q+3) ra) (hr:Ends s x y (q+3+d) rr) :
  Ends s x y p (if flt≠0 then (2,(flt:Int),steps) else if v=0 then (rr.1,rr.2.1,steps+1+rr.2.2) else (ra.1,ra.2.1,steps+1+ra.2.2)):=by
 intro f n hf
 rcases hd with ⟨h0,h1⟩ | ⟨h0,h1⟩
 ·rw[if_neg (by simp[h0])] at hf ⊢
  by_cases hv:v=0
  ·rw[if_pos hv] at hf ⊢
   simp only at hf ⊢
   obtain ⟨f',rfl⟩:∃ f',f=(f'+1)+steps:=⟨f - steps - 1,by omega⟩
   have hst:stepM x y (mkIns s q) [v]=.inr (q+3+d,[]):=by
    unfold stepM
    rw[hop,hto]
    simp[fst,hv]
   rw[h1,runM_go hst,hr f' _ (by omega)]
   simp only[Prod.mk.injEq,true_and]
   omega
  ·rw[if_neg hv] at hf ⊢
   simp only at hf ⊢
   obtain ⟨f',rfl⟩:∃ f',f=(f'+1)+steps:=⟨f - steps - 1,by omega⟩
   have hst:stepM x y (mkIns s q) [v]=.inr (q+3,[]):=by
    unfold stepM
    rw[hop,hnx]
    simp[fst,hv]
   rw[h1,runM_go hst,ha f' _ (by omega)]
   simp only[Prod.mk.injEq,true_and]
   omega
 ·rw[if_pos h0] at hf ⊢
  exact h1 f [] n hf
end Go.Proofs.YtldfkcpbjooemaaGreatDoor
