/-
  What the document's Value answers for an EXPR with which nothing is wrong: what its tree is worth.
-/
import Derived.Test.YtldfkcpbjooemaaGreatDoorG47
set_option linter.unusedVariables false
set_option linter.unusedSimpArgs false
namespace Go.Proofs.YtldfkcpbjooemaaGreatDoor
open Go.RowKit Go.Deep
theorem worB_of_strip (env:Txt→Wo) (x:Itm) (y:Bn):∀ t:BT (RTok × RTok),worB env x y t=worB env x y (stripB t)
 | .nil=>rfl
 | .node 0 _ _ _ _=>rfl
 | .node 1 _ _ _ _=>rfl
 | .node 2 _ _ _ _=>rfl
 | .node 3 _ _ e _=>worB_of_strip env x y e
 | .node (_+4) _ _ _ _=>rfl
theorem Tr.wor_of_strip (env:Txt→Wo) (x:Itm) (y:Bn) (t:Tr):t.wor env x y=t.strip.wor env x y:=worB_of_strip env x y t
theorem strip_sum (ps:List (Txt × Nat)) (t:Tr) (ht:t.wf):partSum ps t.strip.toks≤partSum ps t.toks:=by
 refine Tr.ind (P:=fun t=>partSum ps t.strip.toks≤partSum ps t.toks) t ht ?_ ?_ ?_ ?_
 ·intro a _;exact Nat.le_refl _
 ·intro op e _ _;exact Nat.le_refl _
 ·intro op l r _ _ _;exact Nat.le_refl _
 ·intro o e c _ ih
  rw[Tr.strip_par,Tr.toks_par,partSum,partSum_append]
  omega
theorem may_ne {t:Txt} (h:mayT t=true):t≠[]:=fun e=>by rw[e] at h;exact absurd h (by decide)
structure LetsV (l:List Stm) (L:List RSt) (E:List Ent) (x:Itm) (y:Bn):Prop where
 env:EnvT x y L E
 lets:isLetL' L
 wf:∀ s∈L,s.wf
 may:∀ s∈L,∀ a∈s.body,mayT a.text=true∧NumOk a
 short:∀ s∈L,s.body.length≤400
 len:l.length=L.length
 nm:∀ j kw name eq e semi (hj:j < l.length),L[j]?=some (RSt.letS kw name eq e semi)→l[j].name=name.text
structure LetE (l:List Stm) (L:List RSt) (E:List Ent) (x:Itm) (y:Bn) (i:Nat) (n:Ent) (e:Tr):Prop where
 na:NameAt l L n.nm i e
 la:LetAt x y E i n.nm e
 wf:e.wf
 may:∀ a∈e.toks,mayT a.text=true∧NumOk a
 short:e.toks.length≤400
theorem LetsV.name {l:List Stm} {L:List RSt} {E:List Ent} {x:Itm} {y:Bn} (h:LetsV l L E x y) {i:Nat} {n:Ent} (hn:E[i]?=some n) (hi:i < l.length):l[i].name=n.nm:=by
 have hiL:i < L.length:=by rw[← h.len];exact hi
 have hmem:=List.getElem_mem hiL
 have hL:L[i]?=some L[i]:=List.getElem?_eq_getElem hiL
 rcases (L[i]).cases with ⟨kw,name,eq,e,semi,he⟩ | ⟨wh,act,sc,semi,he⟩
 ·rw[he] at hL
  obtain ⟨⟨n',a1,a2,_⟩,_⟩:=h.env.lets i kw name eq e semi hL
  rw[hn] at a1
  obtain rfl:=Option.some.inj a1
  rw[h.nm i kw name eq e semi hi hL,a2]
 ·have:=h.lets _ hmem
  rw[he] at this
  cases this
theorem LetsV.at' {l:List Stm} {L:List RSt} {E:List Ent} {x:Itm} {y:Bn} (h:LetsV l L E x y) {i:Nat} {n:Ent} (hn:E[i]?=some n):∃ e,LetE l L E x y i n e:=by
 have hiE:=(List.getElem?_eq_some_iff.1 hn).1
 have hiL:i < L.length:=by rw[← h.env.len];exact hiE
 have hil:i < l.length:=by rw[h.len];exact hiL
 have hmem:=List.getElem_mem hiL
 have hL:L[i]?=some L[i]:=List.getElem?_eq_getElem hiL
 have hnm:=h.name hn hil
 rcases (L[i]).cases with ⟨kw,name,eq,e,semi,he⟩ | ⟨wh,act,sc,semi,he⟩
 ·rw[he] at hL hmem
  have hla:=h.env.lets i kw name eq e semi hL
  have hnn:=h.nm i kw name eq e semi hil hL
  have hsub:∀ a∈e.toks,a∈(RSt.letS kw name eq e semi).body:=fun a ha=>by rw[RSt.body_let];simp[ha]
  refine ⟨e,⟨hil,hnm,fun k hk=>?_,kw,name,eq,semi,hL⟩, ?_,(h.wf _ hmem).2.2.2.1,fun a ha=>h.may _ hmem a (hsub a ha), ?_⟩
  ·have hkE:k < E.length:=by omega
   have hkl:k < l.length:=by omega
   have h1:=h.name (List.getElem?_eq_getElem hkE) hkl
   have h2:E[i]=n:=(List.getElem?_eq_some_iff.1 hn).2
   intro heq
   rw[h1,hnm,← h2] at heq
   have hnd:=List.pairwise_iff_getElem.1 h.env.nd k i (by simpa[nE] using hkE) (by simpa[nE] using hiE) hk
   simp only[nE,List.getElem_map] at hnd
   exact hnd heq
  ·rw[← hnm,hnn];exact hla
  ·have:=h.short _ hmem
   rw[RSt.body_let] at this
   simp only[List.length_cons] at this
   omega
 ·have:=h.lets _ hmem
  rw[he] at this
  cases this
abbrev feE (E:List Ent):Txt→Bool:=fun n=>(lookW (vE E) n).fix
theorem LetE.facts {l:List Stm} {L:List RSt} {E:List Ent} {x:Itm} {y:Bn} (h:LetsV l L E x y) {i:Nat} {n:Ent} (hn:E[i]?=some n) {e:Tr} (hl:LetE l L E x y i n e) :
  lookW (vE E) n.nm=n.w∧knownT (cE E) n.nm=n.k∧partOne (pE E) n.nm=n.n∧n.w=e.wor (lookW (vE E)) x y∧kindT (cE E) e=.ok n.k∧(n.n≤150→partSum (pE E) e.toks=n.n)∧feE E n.nm=fixL (feE E) e.toks:=by
 obtain ⟨a1,a2,a3⟩:=look_at E h.env.nd n (List.mem_of_getElem? hn)
 obtain ⟨⟨n',b1,b2,b3,b4,b5⟩,_⟩:=hl.la
 rw[hn] at b1
 obtain rfl:=Option.some.inj b1
 refine ⟨a1,a2,a3 _,b3,b4,b5, ?_⟩
 show (lookW (vE E) n.nm).fix=_
 rw[a1,b3]
 exact wor_fix _ x y e hl.wf (fun a ha=>(hl.may a ha).1)
theorem fix_let {l:List Stm} {L:List RSt} {E:List Ent} {x:Itm} {y:Bn} (h:LetsV l L E x y):∀ (m i:Nat),i < m→∀ n,E[i]?=some n→∀ e,LetE l L E x y i n e→FixOk l L (feE E) e.toks
 | 0,i,hi,_,_,_,_=>by omega
 | m+1,i,hi,n,hn,e,hl=>by
  refine fixed_list l L (feE E) e.toks (fun a ha=>may_ne (hl.may a ha).1) (fun a ha hna=>?_)
  obtain ⟨j,n',hj,hnj,hnm⟩:=hl.la.names a ha hna
  obtain ⟨e',hl'⟩:=h.at' hnj
  have hf:=(hl'.facts h hnj).2.2.2.2.2.2
  rw[← hnm]
  exact ⟨j,e',hl'.na,hl'.short,hf,fix_let h m j (by omega) n' hnj e' hl'⟩
theorem fix_tree {l:List Stm} {L:List RSt} {E:List Ent} {x:Itm} {y:Bn} (h:LetsV l L E x y) (t:Tr) (hm:∀ a∈t.toks,mayT a.text=true∧NumOk a) (hN:∀ a∈t.toks,nameT a.text=true→a.text∈nE E):FixOk l L (feE E) t.toks:=by
 refine fixed_list l L (feE E) t.toks (fun a ha=>may_ne (hm a ha).1) (fun a ha hna=>?_)
 obtain ⟨n,hn,hnm⟩:=mem_nE (hN a ha hna)
 obtain ⟨j,hj⟩:=List.mem_iff_getElem?.1 hn
 obtain ⟨e',hl'⟩:=h.at' hj
 have hf:=(hl'.facts h hj).2.2.2.2.2.2
 rw[← hnm]
 exact ⟨j,e',hl'.na,hl'.short,hf,fix_let h (j+1) j (by omega) n hj e' hl'⟩
theorem wo_names {l:List Stm} {L:List RSt} {E:List Ent} {x:Itm} {y:Bn} (hx:x.Ok) (hy:y.Ok) (h:LetsV l L E x y) (t:Tr) (ht:t.wf) (hm:∀ a∈t.toks,mayT a.text=true∧NumOk a) (hb:partSum (pE E) t.toks≤150)
  (hN:∀ a∈t.toks,nameT a.text=true→∃ (i:Nat) (n:Ent),E[i]?=some n∧n.nm=a.text∧(n.n≤150→WoOk n.w n.k n.n)) (k:Nat) (hk:kindT (cE E) t=.ok k):WoOk (t.wor (lookW (vE E)) x y) k (partSum (pE E) t.toks):=by
 refine wor_ok hx hy t ht hm (fun a ha hna=>?_) (fun a ha hna=>part_plain h.env.nm hna) k hk
 obtain ⟨i,n,hn,hnm,hw⟩:=hN a ha hna
 obtain ⟨e,hl⟩:=h.at' hn
 obtain ⟨f1,f2,f3,_⟩:=hl.facts h hn
 rw[← hnm,f1,f2,f3]
 refine hw ?_
 rw[← f3,hnm]
 exact Nat.le_trans (partSum_mem t.toks a ha) hb
theorem wo_let {l:List Stm} {L:List RSt} {E:List Ent} {x:Itm} {y:Bn} (hx:x.Ok) (hy:y.Ok) (h:LetsV l L E x y):∀ (m i:Nat),i < m→∀ n,E[i]?=some n→n.n≤150→WoOk n.w n.k n.n
 | 0,i,hi,_,_,_=>by omega
 | m+1,i,hi,n,hn,hb=>by
  obtain ⟨e,hl⟩:=h.at' hn
  obtain ⟨f1,f2,f3,f4,f5,f6,_⟩:=hl.facts h hn
  have:=wo_names hx hy h e hl.wf hl.may (by rw[f6 hb];exact hb) (fun a ha hna=>by
   obtain ⟨j,n',hj,hnj,hnm⟩:=hl.la.names a ha hna
   exact ⟨j,n',hnj,hnm,wo_let hx hy h m j (by omega) n' hnj⟩) n.k f5
  rw[← f4,f6 hb] at this
  exact this
theorem wo_tree {l:List Stm} {L:List RSt} {E:List Ent} {x:Itm} {y:Bn} (hx:x.Ok) (hy:y.Ok) (h:LetsV l L E x y) (t:Tr) (ht:t.wf) (hm:∀ a∈t.toks,mayT a.text=true∧NumOk a) (hb:partSum (pE E) t.toks≤150)
  (hN:∀ a∈t.toks,nameT a.text=true→a.text∈nE E) (k:Nat) (hk:kindT (cE E) t=.ok k):WoOk (t.wor (lookW (vE E)) x y) k (partSum (pE E) t.toks) :=
 wo_names hx hy h t ht hm hb (fun a ha hna=>by
  obtain ⟨n,hn,hnm⟩:=mem_nE (hN a ha hna)
  obtain ⟨j,hj⟩:=List.mem_iff_getElem?.1 hn
  exact ⟨j,n,hj,hnm,wo_let hx hy h (j+1) j (by omega) n hj⟩) k hk
theorem leaf_all (hAt:AtoiOk) (a:RTok) (hm:mayT a.text=true) (hnum:NumOk a) (hs:singleT a.text=true) (hn:nameT a.text=false) (x:Itm) (y:Bn) (w:World) :
  Calls Tryz.prog 131 #[.string (bsOf a.text),itmA x,bnA y] w fun e w'=>e=.returned (.int .i64 (leafV x y a))∧Below w.heap.size w w':=by
 by_cases hl:leafT a.text=true
 ·have hmem:a.text∈tLeaf:=by unfold leafT at hl;simpa using hl
  obtain ⟨t,p⟩:=a
  simp only[tLeaf,List.mem_cons,List.not_mem_nil,or_false] at hmem
  rcases hmem with rfl | rfl | rfl | rfl | rfl | rfl | rfl | rfl | rfl | rfl | rfl | rfl
  ·exact leaf_w0 x y w
  ·exact leaf_w1 x y w
  ·exact leaf_w2 x y w
  ·exact leaf_w3 x y w
  ·exact leaf_w4 x y w
  ·exact leaf_w5 x y w
  ·exact leaf_w6 x y w
  ·exact leaf_w7 x y w
  ·exact leaf_w8 x y w
  ·exact leaf_w9 x y w
  ·exact leaf_w10 x y w
  ·exact leaf_w11 x y w
 ·have hd:isDig (headC a.text)=true:=by
   unfold singleT at hs
   rw[hn] at hs
   simpa[hl] using hs
  have hk:kindP a.text=1:=by unfold kindP;rw[if_pos hd]
  obtain ⟨n1,n2⟩:=hnum hk
  have hv:leafV x y a=numT (bsOf a.text).toList:=by
   unfold leafV singleF
   rw[if_pos hk,bsOf_toList]
  rw[hv]
  exact leaf_dig hAt (bsOf a.text) (by rw[bsOf_size];exact List.length_pos_iff.2 (may_ne hm)) (by rw[bsOf_size];exact n1) (by rw[bsOf_toList];exact n2) x y w
theorem val_of {l:List Stm} {L:List RSt} {x:Itm} {y:Bn} {toks:List RTok} {fe:Txt→Bool} {W:Wo} {q:Int × Nat × Nat} (IW:WorkOk l L x y toks q.1 q.2.1 q.2.2) (IF:FixOk l L fe toks) (hf:W.fix=fixL fe toks) (he:set3 W.fix q=wo3 W):ValOk l L x y toks W.v W.flt W.steps:=by
 have hv:=value_of IW IF
 have h3:set3 W.fix q=(q.1,q.2.1,if fixL fe toks=true∧q.2.1=0 then 1 else q.2.2):=by
  unfold set3
  rw[hf]
  by_cases hc:fixL fe toks=true∧q.2.1=0
  ·rw[if_pos hc,if_pos hc]
  ·rw[if_neg hc,if_neg hc]
 rw[h3] at he
 unfold wo3 at he
 obtain ⟨e1,e2,e3⟩:q.1=W.v∧q.2.1=W.flt∧(if fixL fe toks=true∧q.2.1=0 then 1 else q.2.2)=W.steps:=by
  injection he with e1 e2
  injection e2 with e2 e3
  exact ⟨e1,e2,e3⟩
 rw[← e1,← e2,← e3]
 exact hv
theorem oneA_eq {op:Txt} (h:op=cMinus∨op=cNot) (p:Wo):oneA op p.v p.flt p.steps=one3 (kindP op) p:=by
 unfold oneA one3
 rcases h with rfl | rfl
 ·rw[if_neg (show ¬ (cMinus=cNot) by decide),if_neg (show ¬ (kindP cMinus=9) by decide)]
 ·rw[if_pos rfl,if_pos (show kindP cNot=9 by decide)]
theorem sgn_cases {op:Txt} (h:0 < bindsT op):op∈tJoint:=by
 have:=(joint_binds op).2 h
 unfold jointT at this
 simpa using this
theorem sign_j {op:Txt} (h:0 < bindsT op):op≠cAnd→op≠cOr→4≤opK (kindP op) 2∧opK (kindP op) 2≤12∧bsOf op=signS (opK (kindP op) 2):=by
 have hm:=sgn_cases h
 simp only[tJoint,List.mem_cons,List.not_mem_nil,or_false] at hm
 intro h1 h2
 rcases hm with rfl | rfl | rfl | rfl | rfl | rfl | rfl | rfl | rfl | rfl | rfl
 ·exact absurd rfl h2
 ·exact absurd rfl h1
 all_goals exact ⟨by decide,by decide,rfl⟩
theorem ite_iff {α:Type} {P Q:Prop} [Decidable P] [Decidable Q] (h:P ↔ Q) (a b:α):(if P then a else b)=if Q then a else b:=by
 by_cases hp:P
 ·rw[if_pos hp,if_pos (h.1 hp)]
 ·rw[if_neg hp,if_neg (fun q=>hp (h.2 q))]
theorem binA_eq {op:Txt} (h:0 < bindsT op) (p q:Wo):binA op (opK (kindP op) 2) p.v p.flt p.steps q.v q.flt q.steps=bin3 (kindP op) p q:=by
 have hm:=sgn_cases h
 unfold binA bin3
 by_cases hf:p.flt≠0
 ·rw[if_pos hf,if_pos hf]
 ·rw[if_neg hf,if_neg hf]
  by_cases ha:op=cAnd
  ·subst ha
   rw[if_pos (Or.inl rfl),show isChK (kindP cAnd)=true by decide,if_pos rfl,show kindP cAnd=7 by decide]
   refine ite_iff ?_ _ _
   have hn:¬ (cAnd=cOr):=by decide
   by_cases hv:p.v=0 <;> simp[hv,hn]
  ·by_cases ho:op=cOr
   ·subst ho
    rw[if_pos (Or.inr rfl),show isChK (kindP cOr)=true by decide,if_pos rfl,show kindP cOr=8 by decide]
    refine ite_iff ?_ _ _
    by_cases hv:p.v=0 <;> simp[hv,ha]
   ·have hc:isChK (kindP op)=false:=by
     simp only[tJoint,List.mem_cons,List.not_mem_nil,or_false] at hm
     rcases hm with rfl | rfl | rfl | rfl | rfl | rfl | rfl | rfl | rfl | rfl | rfl
     ·exact absurd rfl ho
     ·exact absurd rfl ha
     all_goals decide
    have h1:¬ (op=cAnd∨op=cOr):=by rintro (e | e);exact ha e;exact ho e
    rw[if_neg h1,hc,if_neg (show ¬ (false=true) by decide)]
theorem val_tree (hAt:AtoiOk) {l:List Stm} {L:List RSt} {E:List Ent} {x:Itm} {y:Bn} (hx:x.Ok) (hy:y.Ok) (h:LetsV l L E x y):∀ (m:Nat) (t:Tr),t.toks.length≤m→t.wf→(∀ a∈t.toks,mayT a.text=true∧NumOk a)→partSum (pE E) t.toks≤150 →
  (∀ a∈t.toks,nameT a.text=true→∃ (i:Nat) (n:Ent) (e:Tr),E[i]?=some n∧n.nm=a.text∧LetE l L E x y i n e∧(n.n≤150→ValOk l L x y e.toks n.w.v n.w.flt n.w.steps))→∀ k,kindT (cE E) t=.ok k →
  ValOk l L x y t.toks (t.wor (lookW (vE E)) x y).v (t.wor (lookW (vE E)) x y).flt (t.wor (lookW (vE E)) x y).steps
 | 0,t,hn,_,_,_,_,_,_=>by have:=t.toks_pos;omega
 | m+1,t,hn,hw,hm,hb,hN,k,hk=>by
  have hin:∀ a∈t.toks,nameT a.text=true→a.text∈nE E:=fun a ha hna=>by
   obtain ⟨i,n,e,h1,h2,_⟩:=hN a ha hna
   exact List.mem_map.2 ⟨n,List.mem_of_getElem? h1,h2⟩
  have IF:=fix_tree h t hm hin
  have hf:=wor_fix (lookW (vE E)) x y t hw (fun a ha=>(hm a ha).1)
  have hwo:=wo_tree hx hy h t hw hm hb hin k hk
  have hsw:=t.strip_wf hw
  have hsl:=t.strip_len
  have hsum:=Nat.le_trans (strip_sum (pE E) t hw) hb
  have hsm:∀ a∈t.strip.toks,mayT a.text=true∧NumOk a:=fun a ha=>hm a (t.strip_sub a ha)
  have hsN:=fun a ha=>hN a (t.strip_sub a ha)
  have hsi:∀ a∈t.strip.toks,nameT a.text=true→a.text∈nE E:=fun a ha=>hin a (t.strip_sub a ha)
  have hst:=t.wor_of_strip (lookW (vE E)) x y
  rw[kindT_of_strip] at hk
  rcases t.strip.cases hsw with ⟨a,hs⟩ | ⟨op,e,hs⟩ | ⟨op,a,b,hs⟩ | ⟨o,e,c,hs⟩
  ·rw[hs] at hsw hsm hsN hst hsum
   rw[Tr.toks_leaf] at hsm hsN hsum
   obtain ⟨ma,na⟩:=hsm a (by simp)
   have K:=kindOf _ ma
   rw[Tr.wor_leaf,leafW] at hst
   cases hnm:nameT a.text with
   | true =>
    rw[if_pos (K.kname.2 hnm)] at hst
    obtain ⟨i,n,e,h1,h2,h3,h4⟩:=hsN a (by simp) hnm
    obtain ⟨f1,f2,f3,_⟩:=h3.facts h h1
    have hnn:n.n≤150:=by
     rw[← f3,h2]
     exact Nat.le_trans (partSum_mem [a] a (by simp)) hsum
    have IV:=h4 hnn
    have hna:=h3.na
    rw[h2] at hna
    have IW:=work_name l L x y t hw a hs (may_ne ma) hnm i e hna h3.short n.w.v n.w.flt n.w.steps IV
    rw[← h2,f1] at hst
    refine val_of (q:=wo3 n.w) IW IF hf ?_
    rw[hst]
    exact leaf_val (wo_let hx hy h (i+1) i (by omega) n h1 hnn)
   | false =>
    rw[if_neg (fun e=>by rw[K.kname.1 e] at hnm;cases hnm)] at hst
    have IW:=work_leaf l L x y t hw a hs (may_ne ma) hnm (leafV x y a) (fun wx=>leaf_all hAt a ma na (Tr.wf_leaf hsw).1 hnm x y wx)
    refine val_of (q:=(leafV x y a,0,1)) IW IF hf ?_
    have e3:wo3 (t.wor (lookW (vE E)) x y)=(leafV x y a,0,1):=by
     rw[hst]
     unfold leafV
     cases singleF a <;> rfl
    rw[← e3]
    exact leaf_val hwo
  ·rw[hs] at hsw hsl hsm hsN hst hsum hk hsi
   rw[Tr.toks_un] at hsl hsm hsN hsum hsi
   obtain ⟨u1,u2,u3⟩:=Tr.wf_un hsw
   have hop:op.text=cMinus∨op.text=cNot:=by
    simp only[unT,Bool.or_eq_true,beq_iff_eq] at u1
    exact u1
   rw[kindT_un] at hk
   cases he:kindT (cE E) e with
   | error p=>rw[he] at hk;cases hk
   | ok j =>
    rw[he] at hk
    simp only at hk
    have hz:madeT op.text j j≠0:=fun hz=>by rw[if_pos hz] at hk;cases hk
    have hbe:partSum (pE E) e.toks≤150:=by rw[partSum] at hsum;omega
    have hme:∀ a∈e.toks,mayT a.text=true∧NumOk a:=fun a ha=>hsm a (by simp[ha])
    have woe:=wo_tree hx hy h e u3 hme hbe (fun a ha=>hsi a (by simp[ha])) j he
    have IV:=val_tree hAt hx hy h m e (by simp only[List.length_cons] at hsl;omega) u3 hme hbe (fun a ha=>hsN a (by simp[ha])) j he
    have hj2:op.text=cNot→j=2:=fun e2=>by
     rw[e2] at hz
     unfold madeT at hz
     rw[show (cNot==cAnd||cNot==cOr||cNot==cNot)=true by decide] at hz
     simp only[if_true] at hz
     by_cases h2:j=2∧j=2
     ·exact h2.1
     ·rw[if_neg h2] at hz;exact absurd rfl hz
    have hk9:kindP op.text=9→j=2:=fun e9=>by
     rcases hop with h2 | h2
     ·rw[h2] at e9;exact absurd e9 (by decide)
     ·exact hj2 h2
    have IW:=work_un l L x y t hw op e hs (e.wor (lookW (vE E)) x y).v (e.wor (lookW (vE E)) x y).flt (e.wor (lookW (vE E)) x y).steps woe.in64 (fun h0 h2=>woe.tru h0 (hj2 h2)) (by have:=woe.le;omega) IV
    rw[oneA_eq hop] at IW
    refine val_of IW IF hf ?_
    rw[hst,Tr.wor_un]
    exact one_val (by rcases hop with h2 | h2 <;> rw[h2];exact .inr (by decide);exact .inl (by decide)) woe hk9
  ·rw[hs] at hsw hsl hsm hsN hst hsum hk hsi
   rw[Tr.toks_bin] at hsl hsm hsN hsum hsi
   obtain ⟨w1,w2,w3,w4,w5,w6,w7⟩:=Tr.wf_bin hsw
   rw[kindT_bin] at hk
   cases ha:kindT (cE E) a with
   | error p=>rw[ha] at hk;cases hk
   | ok j1 =>
    cases hb2:kindT (cE E) b with
    | error p=>rw[ha,hb2] at hk;cases hk
    | ok j2 =>
     rw[ha,hb2] at hk
     simp only at hk
     have hz:madeT op.text j1 j2≠0:=fun hz=>by rw[if_pos hz] at hk;cases hk
     rw[partSum_append,partSum] at hsum
     have hap:=a.toks_pos
     have hbp:=b.toks_pos
     simp only[List.length_append,List.length_cons] at hsl
     have ma:∀ z∈a.toks,mayT z.text=true∧NumOk z:=fun z hz=>hsm z (by simp[hz])
     have mb:∀ z∈b.toks,mayT z.text=true∧NumOk z:=fun z hz=>hsm z (by simp[hz])
     have wa:=wo_tree hx hy h a w6 ma (by omega) (fun z hz=>hsi z (by simp[hz])) j1 ha
     have wb:=wo_tree hx hy h b w7 mb (by omega) (fun z hz=>hsi z (by simp[hz])) j2 hb2
     have IA:=val_tree hAt hx hy h m a (by omega) w6 ma (by omega) (fun z hz=>hsN z (by simp[hz])) j1 ha
     have IB:=val_tree hAt hx hy h m b (by omega) w7 mb (by omega) (fun z hz=>hsN z (by simp[hz])) j2 hb2
     have IBO:=both_any l L x y op a b (opK (kindP op.text) 2) (sign_j w1) _ _ _ _ _ _ wa.in64 wb.in64 (by have:=wa.le;omega) (by have:=wb.le;omega) IA IB
     rw[binA_eq w1] at IBO
     have IW:=work_bin l L x y t hw op a b hs _ IBO
     refine val_of IW IF hf ?_
     rw[hst,Tr.wor_bin]
     refine bin_val wa wb (fun hc=>?_)
     have hmo:=(hsm op (by simp)).1
     rw[and_kind hmo] at hc
     unfold madeT at hz
     rw[show (op.text==cAnd||op.text==cOr||op.text==cNot)=true by rw[hc];rfl] at hz
     simp only[if_true] at hz
     by_cases h2:j1=2∧j2=2
     ·exact h2.1
     ·rw[if_neg h2] at hz;exact absurd rfl hz
  ·exact absurd hs (t.strip_not_par hw o e c)
theorem val_let (hAt:AtoiOk) {l:List Stm} {L:List RSt} {E:List Ent} {x:Itm} {y:Bn} (hx:x.Ok) (hy:y.Ok) (h:LetsV l L E x y):∀ (m i:Nat),i < m→∀ n,E[i]?=some n→∀ e,LetE l L E x y i n e→n.n≤150→ValOk l L x y e.toks n.w.v n.w.flt n.w.steps
 | 0,i,hi,_,_,_,_,_=>by omega
 | m+1,i,hi,n,hn,e,hl,hb=>by
  obtain ⟨f1,f2,f3,f4,f5,f6,_⟩:=hl.facts h hn
  have:=val_tree hAt hx hy h e.toks.length e (Nat.le_refl _) hl.wf hl.may (by rw[f6 hb];exact hb) (fun a ha hna=>by
   obtain ⟨j,n',hj,hnj,hnm⟩:=hl.la.names a ha hna
   obtain ⟨e',hl'⟩:=h.at' hnj
   exact ⟨j,n',e',hnj,hnm,hl',val_let hAt hx hy h m j (by omega) n' hnj e' hl'⟩) n.k f5
  rw[← f4] at this
  exact this
theorem val_any (hAt:AtoiOk) {l:List Stm} {L:List RSt} {E:List Ent} {x:Itm} {y:Bn} (hx:x.Ok) (hy:y.Ok) (h:LetsV l L E x y) (t:Tr) (ht:t.wf) (hm:∀ a∈t.toks,mayT a.text=true∧NumOk a) (hb:partSum (pE E) t.toks≤150)
  (hN:∀ a∈t.toks,nameT a.text=true→a.text∈nE E) (k:Nat) (hk:kindT (cE E) t=.ok k) :
  ValOk l L x y t.toks (t.wor (lookW (vE E)) x y).v (t.wor (lookW (vE E)) x y).flt (t.wor (lookW (vE E)) x y).steps :=
 val_tree hAt hx hy h t.toks.length t (Nat.le_refl _) ht hm hb (fun a ha hna=>by
  obtain ⟨n,hn,hnm⟩:=mem_nE (hN a ha hna)
  obtain ⟨j,hj⟩:=List.mem_iff_getElem?.1 hn
  obtain ⟨e,hl⟩:=h.at' hj
  exact ⟨j,n,e,hj,hnm,hl,val_let hAt hx hy h (j+1) j (by omega) n hj e hl⟩) k hk
end Go.Proofs.YtldfkcpbjooemaaGreatDoor
