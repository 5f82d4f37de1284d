/-
  A policy with which nothing is wrong: truths are 0 or 1.
-/
import Derived.Test.YtpcjadaeolkngaaGreatDoorJ25
set_option linter.unusedVariables false
set_option linter.unusedSimpArgs false
namespace Go.Proofs.YtpcjadaeolkngaaGreatDoor
theorem lookGo_none{ls:List PLet}{l:List PNode}{ks:List Nat}{f:Option Nat}(h:(lookGo ls ks f l).2=none):f=none:=by
 cases f with
 | none=>rfl
 | some q=>rw[(lookGo_some ls l ks q).1]at h;cases h
theorem lookGo_length(ls:List PLet):∀ (l:List PNode) (ks:List Nat) (f:Option Nat),(lookGo ls ks f l).1.length=ks.length+l.length
 | [],ks,f=>by simp[lookGo]
 | n :: r,ks,f=>by rw[lookGo,lookGo_length ls r];simp;omega
theorem lookGo_get(ls:List PLet):∀ (l:List PNode) (ks:List Nat) (f:Option Nat) (i:Nat),i<ks.length→(lookGo ls ks f l).1.getD i 0=ks.getD i 0
 | [],ks,f,i,_=>rfl
 | n :: r,ks,f,i,h=>by
  rw[lookGo,lookGo_get ls r _ _ i (by simp;omega)]
  simp only[List.getD_eq_getElem?_getD]
  rw[List.getElem?_append_left h]
theorem failK_none{f:Option Nat}{b:Bool}{p:Nat}(h:failK f b p=none):f=none∧b=false:=by
 unfold failK at h
 cases f with
 | some q=>cases h
 | none =>
  cases b with
  | true=>cases h
  | false=>exact ⟨rfl,rfl⟩
theorem seg_take{N:List PNode}{e:PExp}{b:Nat}(h1:e.fr=b)(h2:b≤e.behind):N.take e.behind=N.take b++segE N e:=by
 unfold segE
 rw[h1]
 conv=>lhs;rw[show e.behind=b+(e.behind-b) by omega,List.take_add]
theorem kindsL_eq{ls:List PLet}{N:List PNode}:∀ (r:List PLet) (b:Nat),ConsL b r→kindsL ls N (lookGo ls [] none (N.take b)) r=lookGo ls [] none (N.take (endL b r))
 | [],b,_=>rfl
 | p :: r,b,h=>by
  rw[kindsL,endL,← lookGo_append,← seg_take h.1 (by have:=h.2.1;omega)]
  exact kindsL_eq r p.val.behind h.2.2
theorem lookFor_eq{ls:List PLet}{N:List PNode}{want:Nat}{e:PExp}{b:Nat}(h1:e.fr=b)(h2:b≤e.behind)(h:(lookFor ls N want e (lookGo ls [] none (N.take b))).2=none):lookFor ls N want e (lookGo ls [] none (N.take b))=lookGo ls [] none (N.take e.behind):=by
 unfold lookFor at h ⊢
 rw[← lookGo_append,← seg_take h1 h2]at h ⊢
 obtain ⟨a1,a2⟩:=failK_none h
 refine Prod.ext rfl ?_
 rw[a1]
 simp only at h ⊢
 rw[a1]at h
 exact h
theorem kindsR_none{ls:List PLet}{N:List PNode}:∀ {r:List PRule} {st:KSt},(kindsR ls N st r).2=none→st.2=none
 | [],st,h=>h
 | p :: r,st,h=>by
  rw[kindsR]at h
  have h1:=kindsR_none h
  cases hs:st.2 with
  | none=>rfl
  | some q =>
   have:=scoreK_some ls N p _ q (whenK_some ls N p st q hs)
   rw[h1]at this
   cases this
theorem kindsR_eq{ls:List PLet}{N:List PNode}:∀ (r:List PRule) (b:Nat),ConsR b r→(kindsR ls N (lookGo ls [] none (N.take b)) r).2=none→(lookGo ls [] none (N.take (endR b r))).2=none
 | [],b,_,h=>h
 | p :: r,b,hc,h=>by
  obtain ⟨hw,hs,hc'⟩:=hc
  rw[kindsR]at h
  rw[endR]
  have h2:=kindsR_none h
  have hwn:(whenK ls N p (lookGo ls [] none (N.take b))).2=none:=by
   cases hq:(whenK ls N p (lookGo ls [] none (N.take b))).2 with
   | none=>rfl
   | some q =>
    have:=scoreK_some ls N p _ q hq
    rw[h2]at this
    cases this
  have e1:whenK ls N p (lookGo ls [] none (N.take b))=lookGo ls [] none (N.take (if p.hw then p.when.behind else b)):=by
   unfold whenK at hwn ⊢
   cases hpw:p.hw with
   | true =>
    rw[hpw]at hwn
    simp only[if_true]at hwn ⊢
    obtain ⟨a1,a2⟩:=hw hpw
    exact lookFor_eq a1 (by omega) hwn
   | false=>rfl
  have e2:scoreK ls N p (whenK ls N p (lookGo ls [] none (N.take b)))=lookGo ls [] none (N.take (stepR b p)):=by
   rw[e1]at h2 ⊢
   unfold scoreK at h2 ⊢
   unfold stepR
   cases hps:p.hs with
   | true =>
    rw[hps]at h2
    simp only[if_true]at h2 ⊢
    obtain ⟨a1,a2⟩:=hs hps
    exact lookFor_eq a1 (by omega) h2
   | false=>rfl
  rw[e2]at h
  exact kindsR_eq r (stepR b p) hc' h
def kdA(ls:List PLet)(N:List PNode)(i:Nat):Nat:=(lookGo ls [] none N).1.getD i 0
theorem kd_at{ls:List PLet}{N:List PNode}(h:(lookGo ls [] none N).2=none){j:Nat}{n:PNode}(hn:N[j]?=some n):∃ ks:List Nat,kdA ls N j=nodeK ls ks n∧kdA ls N j≠0∧∀ i,i<j→ks.getD i 0=kdA ls N i:=by
 obtain ⟨hlt,hni⟩:=List.getElem?_eq_some_iff.1 hn
 have hsplit:N=N.take j++(n :: N.drop (j+1)):=by
  conv=>lhs;rw[← List.take_append_drop j N]
  rw[List.drop_eq_getElem_cons hlt,hni]
 obtain ⟨A,hA⟩:∃ A,lookGo ls [] none (N.take j)=A:=⟨_,rfl⟩
 have hal:A.1.length=j:=by rw[← hA,lookGo_length];simp;omega
 have hG:lookGo ls [] none N=lookGo ls (A.1++[nodeK ls A.1 n]) (failK A.2 (nodeK ls A.1 n==0) n.tok.at') (N.drop (j+1)):=by
  conv=>lhs;rw[hsplit]
  rw[lookGo_append,hA,lookGo]
 have hk:=lookGo_none (by rw[← hG];exact h)
 obtain ⟨_,hk0⟩:=failK_none hk
 have hkj:kdA ls N j=nodeK ls A.1 n:=by
  unfold kdA
  rw[hG,lookGo_get _ _ _ _ j (by simp[hal])]
  simp only[List.getD_eq_getElem?_getD]
  rw[List.getElem?_append_right (by omega),hal,Nat.sub_self]
  rfl
 refine ⟨A.1,hkj,by rw[hkj];simpa using hk0,fun i hi=>?_⟩
 unfold kdA
 rw[hG,lookGo_get _ _ _ _ i (by simp[hal];omega)]
 simp only[List.getD_eq_getElem?_getD]
 rw[List.getElem?_append_left (by omega)]
theorem bitN_01(b:Bool):bitN b=0∨bitN b=1:=by cases b <;> simp[bitN]
theorem truth_ev{ls:List PLet}{N:List PNode}(x:Itm)(y:Bn)(hR:RefsOk ls (factsP ls N) N)(hS:∀ n∈N,ShapeN n)(hK:(lookGo ls [] none N).2=none):∀ (f j:Nat),j<f→j<N.length→kdA ls N j=2→(evI ls N x y f (j:Int)).2=0→(evI ls N x y f (j:Int)).1=0∨(evI ls N x y f (j:Int)).1=1
 | 0,j,h,_,_,_=>by omega
 | f+1,j,hjf,hlt,hk2,hfl=>by
  obtain ⟨n,hn⟩:∃ n,N[j]?=some n:=⟨N[j],List.getElem?_eq_getElem hlt⟩
  obtain ⟨hok,hrf⟩:=hR j n hn
  obtain ⟨ks,e1,e2,e3⟩:=kd_at hK hn
  rw[hk2]at e1
  rw[evI_at hn]at hfl ⊢
  unfold nodeK at e1
  by_cases h1:n.ops=1
  ·rw[if_pos h1]at e1 hfl ⊢
   unfold kindUn at e1
   split at e1
   ·omega
   ·split at e1
    ·rename_i hq
     have hop:opK (kindP n.tok.text) n.ops=3:=by rw[hq.1];rfl
     rw[hop]at hfl ⊢
     split at hfl
     ·rename_i hz;exact absurd hfl hz
     ·rename_i hz
      rw[if_neg hz]
      exact bitN_01 _
    ·omega
  ·rw[if_neg h1]at e1 hfl ⊢
   cases hc:isChK (kindP n.tok.text) with
   | true =>
    rw[hc]at hfl
    simp only[if_true]at hfl ⊢
    obtain ⟨hl,hr⟩:=hrf.two h1 (.inl hc)
    have h2:n.ops=2:=by
     have hmem:=List.mem_of_getElem? hn
     by_cases h2:n.ops=2
     ·exact h2
     ·exfalso
      have h0:n.ops=0:=by have:=hok.ops;omega
      rw[if_neg h2]at e1
      rcases isCh_cases hc with hk | hk <;> rw[hk]at e1 <;> simp[kindOne]at e1
    rw[if_pos h2]at e1
    have hkr:kdA ls N n.right=2:=by
     rw[e3 n.left hl,e3 n.right hr]at e1
     unfold kindBin at e1
     rcases isCh_cases hc with hk | hk <;> rw[hk]at e1 <;> ((repeat' split at e1) <;> omega)
    split at hfl
    ·rename_i hz;exact absurd hfl hz
    ·rename_i hz
     rw[if_neg hz]
     by_cases hd:(evI ls N x y f n.left).1=decK (kindP n.tok.text)
     ·rw[if_pos hd]
      simp only
      unfold decK
      split <;> simp
     ·rw[if_neg hd]at hfl ⊢
      exact truth_ev x y hR hS hK f n.right (by omega) (by omega) hkr hfl
   | false =>
    rw[hc]at hfl
    simp only[Bool.false_eq_true,if_false]at hfl ⊢
    by_cases h2:n.ops=2
    ·rw[if_pos h2]at e1 hfl ⊢
     have hop:opK (kindP n.tok.text) n.ops=9∨opK (kindP n.tok.text) n.ops=10∨opK (kindP n.tok.text) n.ops=11∨opK (kindP n.tok.text) n.ops=12:=by
      have hk:kindP n.tok.text=23∨kindP n.tok.text=24∨kindP n.tok.text=25∨kindP n.tok.text=26:=by
       unfold kindBin at e1
       unfold isChK at hc
       simp only[Bool.or_eq_false_iff,decide_eq_false_iff_not]at hc
       (repeat' split at e1) <;> omega
      rcases hk with hk | hk | hk | hk <;> rw[hk] <;> simp[opK]
     split at hfl
     ·rename_i hz;exact absurd hfl hz
     ·rename_i hz
      rw[if_neg hz]
      split at hfl
      ·rename_i hz2;exact absurd hfl hz2
      ·rename_i hz2
       rw[if_neg hz2]
       rcases hop with ho | ho | ho | ho <;> rw[ho] <;> exact bitN_01 _
    ·rw[if_neg h2]at e1 hfl ⊢
     have h0:n.ops=0:=by have:=hok.ops;omega
     by_cases hk:kindP n.tok.text=2
     ·rw[if_pos hk]at e1 hfl ⊢
      obtain ⟨hm0,hm1⟩:=hrf.nam h0 hc hk
      obtain ⟨i,hi⟩:∃ i:Nat,meantI ls n.tok.text=(i:Int):=⟨(meantI ls n.tok.text).toNat,by omega⟩
      have hij:i<j:=by omega
      have hki:kdA ls N i=2:=by
       unfold meantI at hi hm0
       split at e1
       ·rename_i p hp
        rw[hp]at hi hm0
        simp only at hi hm0
        unfold kindAt at e1
        have:p.val.behind-1=i:=by omega
        rw[this,e3 i hij]at e1
        exact e1.symm
       ·omega
      rw[hi]at hfl hm1 ⊢
      exact truth_ev x y hR hS hK f i (by omega) (by omega) hki hfl
     ·rw[if_neg hk]at e1 hfl ⊢
      have hk2':kindP n.tok.text=10∨kindP n.tok.text=11:=by
       unfold kindOne at e1
       (repeat' split at e1) <;> omega
      have hsf:singleF n.tok=some 1∨singleF n.tok=some 0:=by
       unfold singleF
       rcases hk2' with hq | hq <;> rw[hq] <;> simp
      rcases hsf with hq | hq <;> rw[hq] <;> simp
theorem truths_ok{s:Txt}{L R:List RSt}(h:PolicyOf s L R)(hN:(nodesS 0 (L++R)).length≤401)(he:errsOf (nodesS 0 (L++R)) (letsS 0 (L++R)) (rulesS 0 (L++R))=(0,0))(x:Itm)(y:Bn) :
  RefsOk (letsS 0 (L++R)) (factsP (letsS 0 (L++R)) (nodesS 0 (L++R))) (nodesS 0 (L++R))∧TruthsOk (letsS 0 (L++R)) (nodesS 0 (L++R)) x y∧(lookGo (letsS 0 (L++R)) [] none (nodesS 0 (L++R))).2=none:=by
 unfold errsOf at he
 split at he
 ·cases he
 rename_i hnm
 split at he
 ·cases he
 rename_i hkd
 have hf:=fits_of h hN
 have hlen:=nodesS_len (L++R) h.wf 0
 have h1:letsS 0 (L++R)=letsS 0 L:=by rw[letsS_append,lets_none R h.rules,List.append_nil]
 have h2:rulesS 0 (L++R)=rulesS (numS L) R:=by rw[rulesS_append,rules_none L h.lets,List.nil_append,Nat.zero_add]
 have hc:=cons_lets L (fun x hx=>h.wf x (by simp[hx])) h.lets 0
 have hen:=end_rules R (fun x hx=>h.wf x (by simp[hx])) h.rules (numS L)
 rw[← h1,Nat.zero_add]at hc
 rw[← h2]at hen
 have hR:=refs_ok h hN (names_ahead h hN hnm)
 have hK:(lookGo (letsS 0 (L++R)) [] none (nodesS 0 (L++R))).2=none:=by
  unfold pKinds at hkd
  have e0:(([],none):KSt)=lookGo (letsS 0 (L++R)) [] none ((nodesS 0 (L++R)).take 0):=rfl
  rw[e0,kindsL_eq _ 0 hf.l]at hkd
  have:=kindsR_eq _ _ hf.r hkd
  rw[hc.2,hen,← numS_append,← hlen,List.take_length]at this
  exact this
 refine ⟨hR,fun j n hn h1' hch f hlf hfl=>?_,hK⟩
 obtain ⟨hok,hrf⟩:=hR j n hn
 obtain ⟨ks,e1,e2,e3⟩:=kd_at hK hn
 obtain ⟨hl,hr⟩:=hrf.two h1' (.inl hch)
 have hjl:j<(nodesS 0 (L++R)).length:=(List.getElem?_eq_some_iff.1 hn).1
 have hkl:kdA (letsS 0 (L++R)) (nodesS 0 (L++R)) n.left=2:=by
  rw[e1]at e2
  unfold nodeK at e2
  rw[if_neg h1']at e2
  split at e2
  ·rw[e3 n.left hl,e3 n.right hr]at e2
   unfold kindBin at e2
   rcases isCh_cases hch with hk | hk <;> rw[hk]at e2 <;> ((repeat' split at e2) <;> first | omega | (simp at *;omega))
  ·exfalso
   rcases isCh_cases hch with hk | hk <;> rw[hk]at e2 <;> simp[kindOne]at e2
 exact truth_ev x y hR (nodes_shapes (L++R) h.wf 0) hK f n.left hlf (by omega) hkl hfl
def wtI(ls:List PLet)(N:List PNode):Nat→Int→Nat
 | 0,_=>1
 | f+1,i =>
  match N[i.toNat]? with
  | none=>1
  | some n =>
   if n.ops=1 then wtI ls N f n.left+1
   else if isChK (kindP n.tok.text)∨n.ops=2 then wtI ls N f n.left+wtI ls N f n.right+1
   else if kindP n.tok.text=2 then wtI ls N f (meantI ls n.tok.text)
   else 1
theorem wtI_at{ls:List PLet}{N:List PNode}{f i:Nat}{n:PNode}(hn:N[i]?=some n):wtI ls N (f+1) (i:Int) =
   if n.ops=1 then wtI ls N f n.left+1
   else if isChK (kindP n.tok.text)∨n.ops=2 then wtI ls N f n.left+wtI ls N f n.right+1
   else if kindP n.tok.text=2 then wtI ls N f (meantI ls n.tok.text)
   else 1:=by
 rw[wtI]
 simp only[Int.toNat_natCast,hn]
theorem wtI_pos(ls:List PLet)(N:List PNode):∀ (f:Nat) (i:Int),1≤wtI ls N f i
 | 0,_=>Nat.le_refl _
 | f+1,i=>by
  rw[wtI]
  split
  ·exact Nat.le_refl _
  ·split
   ·omega
   ·split
    ·omega
    ·split
     ·exact wtI_pos ls N f _
     ·exact Nat.le_refl _
theorem oneP_steps(n:Nat)(p:PB):(oneP n p).steps≤p.steps+1:=by
 unfold oneP
 (repeat' split) <;> simp
theorem twoP_steps(n:Nat)(p q:PB):(twoP n p q).steps≤p.steps+q.steps+1:=by
 unfold twoP
 (repeat' split) <;> simp <;> omega
theorem choiceP_steps(n:Nat)(p a b:PB):(choiceP n p a b).steps≤p.steps+a.steps+b.steps+2:=by
 unfold choiceP
 (repeat' split) <;> simp <;> omega
theorem pb_size{ls:List PLet}{N:List PNode}(x:Itm)(y:Bn):∀ (f:Nat) (i:Int),1≤(pbI (factsP ls N) ls N x y f i).code.length∧(pbI (factsP ls N) ls N x y f i).code.length+3≤12*wtI ls N f i∧(pbI (factsP ls N) ls N x y f i).high≤wtI ls N f i∧(pbI (factsP ls N) ls N x y f i).steps≤(pbI (factsP ls N) ls N x y f i).code.length
 | 0,i=>by
  rw[pbI,wtI]
  have e:(leafI 0).code.length=9:=by simp[leafI,eightC,bytesN_length]
  rw[e]
  exact ⟨by omega,by omega,Nat.le_refl _,by show 1≤9;omega⟩
 | f+1,i=>by
  have hleaf:∀ v:Int,∀ w:Nat,1≤w→1≤(leafI v).code.length∧(leafI v).code.length+3≤12*w∧(leafI v).high≤w∧(leafI v).steps≤(leafI v).code.length:=by
   intro v w hw
   have e:(leafI v).code.length=9:=by simp[leafI,eightC,bytesN_length]
   rw[e]
   exact ⟨by omega,by omega,hw,by show 1≤9;omega⟩
  have hpos:=wtI_pos ls N (f+1) i
  rw[pbI]
  cases hn:N[i.toNat]? with
  | none=>exact hleaf 0 _ hpos
  | some n =>
   simp only
   cases hfa:atF (factsP ls N) i with
   | some v=>exact hleaf v _ hpos
   | none =>
    rw[wtI,hn]
    simp only
    by_cases h1:n.ops=1
    ·rw[if_pos h1,if_pos h1]
     obtain ⟨a0,a1,a2,a3⟩:=pb_size x y f n.left (ls:=ls) (N:=N)
     have hst:=oneP_steps (opK (kindP n.tok.text) n.ops) (pbI (factsP ls N) ls N x y f n.left)
     rw[(oneP_code _ _).1,(oneP_code _ _).2,List.length_append,List.length_singleton]
     exact ⟨by omega,by omega,by omega,by omega⟩
    ·rw[if_neg h1,if_neg h1]
     obtain ⟨a0,a1,a2,a3⟩:=pb_size x y f n.left (ls:=ls) (N:=N)
     obtain ⟨b0,b1,b2,b3⟩:=pb_size x y f n.right (ls:=ls) (N:=N)
     cases hc:isChK (kindP n.tok.text) with
     | true =>
      simp only[if_true,true_or]
      have hst:=choiceP_steps (leaK (kindP n.tok.text)) (pbI (factsP ls N) ls N x y f n.left) (pbI (factsP ls N) ls N x y f n.right) (leafI (decK (kindP n.tok.text)))
      have hd:(leafI (decK (kindP n.tok.text))).steps=1:=rfl
      have hh:(leafI (decK (kindP n.tok.text))).high=1:=rfl
      have e9:(leafI (decK (kindP n.tok.text))).code.length=9:=by simp[leafI,eightC,bytesN_length]
      have ej:∀ a b,(jumpC a b).length=3:=fun _ _=>rfl
      rw[(choiceP_code _ _ _ _).1,(choiceP_code _ _ _ _).2]
      simp only[choiceC,List.length_append,ej,e9,choiceH,maxN_max,hh]
      exact ⟨by omega,by omega,by omega,by omega⟩
     | false =>
      simp only[Bool.false_eq_true,if_false,false_or]
      by_cases h2:n.ops=2
      ·rw[if_pos h2,if_pos h2]
       have hst:=twoP_steps (opK (kindP n.tok.text) n.ops) (pbI (factsP ls N) ls N x y f n.left) (pbI (factsP ls N) ls N x y f n.right)
       rw[(twoP_code _ _ _).1,(twoP_code _ _ _).2]
       simp only[List.length_append,List.length_singleton,maxN_max]
       exact ⟨by omega,by omega,by omega,by omega⟩
      ·rw[if_neg h2,if_neg h2]
       by_cases hk:kindP n.tok.text=2
       ·rw[if_pos hk,if_pos hk]
        exact pb_size x y f _
       ·rw[if_neg hk,if_neg hk]
        exact ⟨by show 1≤2;omega,by show 2+3≤12*1;omega,Nat.le_refl _,by show 1≤2;omega⟩
def LiesAt(N:List PNode)(b:Nat)(l:List PNode):Prop:=∀ (k:Nat) (n:PNode),l[k]?=some n→N[b+k]?=some n
theorem LiesAt.left{N:List PNode}{b:Nat}{l m:List PNode}(h:LiesAt N b (l++m)):LiesAt N b l:=fun k n hk=>h k n (by
 rw[List.getElem?_append_left (List.getElem?_eq_some_iff.1 hk).1];exact hk)
theorem LiesAt.right{N:List PNode}{b:Nat}{l m:List PNode}(h:LiesAt N b (l++m)):LiesAt N (b+l.length) m:=fun k n hk=>by
 have:=h (l.length+k) n (by rw[List.getElem?_append_right (by omega),Nat.add_sub_cancel_left];exact hk)
 rw[Nat.add_assoc];exact this
theorem sumN_app2(ls:List PLet)(sz:List Nat):∀ (a b:List PNode),sumN ls sz (a++b)=sumN ls sz a+sumN ls sz b
 | [],b=>by simp[sumN]
 | n :: r,b=>by simp only[List.cons_append,sumN,sumN_app2 ls sz r b];omega
theorem un_kindF{t:Txt}(hm:mayT t=true)(hu:unT t=true):kindP t=28∨kindP t=9:=by
 have K:=kindOf t hm
 unfold unT at hu
 simp only[Bool.or_eq_true,beq_iff_eq]at hu
 rcases hu with h | h
 ·exact .inl (K.kminus.2 h)
 ·exact .inr (K.knot.2 h)
theorem bin_kindF{t:Txt}(hm:mayT t=true)(hb:0<bindsT t):kindP t≠2:=by
 have K:=kindOf t hm
 rw[← K.binds]at hb
 intro h
 rw[h]at hb
 exact absurd hb (by decide)
theorem tree_wt{ls:List PLet}{N:List PNode}{sz:List Nat}(hm:∀ n∈N,mayT n.tok.text=true)(hna:NamesAhead ls N)(t:Tr)(h:t.wf):∀ b,LiesAt N b (t.flat b) →
  (∀ n∈t.flat b,kindP n.tok.text=2→sz.getD (letIx ls n.tok.text) 0≤150→∀ f:Nat,meantI ls n.tok.text<(f:Int)→wtI ls N f (meantI ls n.tok.text)≤sz.getD (letIx ls n.tok.text) 0) →
  sumN ls sz (t.flat b)≤150→∀ f,b+t.num-1<f→wtI ls N f ((b+t.num-1:Nat):Int)≤sumN ls sz (t.flat b):=by
 refine Tr.ind (P:=fun t=>∀ b,LiesAt N b (t.flat b)→(∀ n∈t.flat b,kindP n.tok.text=2→sz.getD (letIx ls n.tok.text) 0≤150→∀ f:Nat,meantI ls n.tok.text<(f:Int)→wtI ls N f (meantI ls n.tok.text)≤sz.getD (letIx ls n.tok.text) 0)→sumN ls sz (t.flat b)≤150→∀ f,b+t.num-1<f→wtI ls N f ((b+t.num-1:Nat):Int)≤sumN ls sz (t.flat b)) t h ?_ ?_ ?_ ?_
 ·intro a ha b hl hz hs f hf
  rw[Tr.flat_leaf]at hl hz hs ⊢
  rw[Tr.num_leaf]at hf ⊢
  simp only[Nat.add_sub_cancel]at hf ⊢
  have hn:N[b]?=some ⟨a,0,0,0⟩:=hl 0 _ rfl
  obtain ⟨f',rfl⟩:∃ f',f=f'+1:=⟨f-1,by omega⟩
  have hmem:=List.mem_of_getElem? hn
  have hcf:isChK (kindP a.text)=false:=by
   have K:=kindOf a.text (hm _ hmem)
   have hsg:=(Tr.wf_leaf ha).1
   rw[← K.single]at hsg
   cases hc:isChK (kindP a.text) with
   | false=>rfl
   | true=>rcases isCh_cases hc with hk | hk <;> rw[hk]at hsg <;> exact absurd hsg (by decide)
  rw[wtI_at hn]
  simp only[hcf,Bool.false_eq_true,false_or]
  rw[if_neg (by omega),if_neg (by omega)]
  simp only[sumN,partNode,Nat.add_zero]at hs ⊢
  by_cases hk:kindP a.text=2
  ·rw[if_pos hk]at hs ⊢
   rw[if_pos hk]
   have hlt:=(hna b ⟨a,0,0,0⟩ hn rfl hk).2
   exact hz ⟨a,0,0,0⟩ List.mem_cons_self hk hs f' (by simp only at hlt ⊢;omega)
  ·rw[if_neg hk,if_neg hk]
   exact Nat.le_refl _
 ·intro op e hw ih b hl hz hs f hf
  rw[Tr.flat_un]at hl hz hs ⊢
  rw[Tr.num_un]at hf ⊢
  have hwe:=(Tr.wf_un hw).2.2
  have hlen:=e.flat_len hwe b
  have hp:=e.num_pos hwe
  have hn:=hl.right 0 _ rfl
  rw[hlen,Nat.add_zero]at hn
  rw[sumN_app2]at hs ⊢
  have hpn:partNode ls sz op=1:=by
   unfold partNode
   rcases un_kindF (hm _ (List.mem_of_getElem? hn)) (Tr.wf_un hw).1 with hk | hk <;> rw[hk] <;> rfl
  simp only[sumN,hpn]at hs ⊢
  obtain ⟨f',rfl⟩:∃ f',f=f'+1:=⟨f-1,by omega⟩
  rw[show b+(e.num+1)-1=b+e.num by omega,wtI_at hn,if_pos rfl]
  have:=ih b hl.left (fun n hn=>hz n (List.mem_append_left _ hn)) (by omega) f' (by omega)
  simp only at this ⊢
  omega
 ·intro op l r hw ihl ihr b hl hz hs f hf
  rw[Tr.flat_bin]at hl hz hs ⊢
  rw[Tr.num_bin]at hf ⊢
  have hwb:=Tr.wf_bin hw
  have hll:=l.flat_len hwb.2.2.2.2.2.1 b
  have hrl:=r.flat_len hwb.2.2.2.2.2.2 (b+l.num)
  have hpl:=l.num_pos hwb.2.2.2.2.2.1
  have hpr:=r.num_pos hwb.2.2.2.2.2.2
  have hn:=hl.right 0 _ rfl
  rw[List.length_append,hll,hrl,Nat.add_zero]at hn
  rw[sumN_app2,sumN_app2]at hs ⊢
  have hpn:partNode ls sz op=1:=by
   unfold partNode
   rw[if_neg (bin_kindF (hm _ (List.mem_of_getElem? hn)) hwb.1)]
  simp only[sumN,hpn]at hs ⊢
  obtain ⟨f',rfl⟩:∃ f',f=f'+1:=⟨f-1,by omega⟩
  rw[show b+(l.num+r.num+1)-1=b+(l.num+r.num) by omega,wtI_at hn,if_neg (by simp),if_pos (.inr rfl)]
  have i1:=ihl b hl.left.left (fun n hn=>hz n (List.mem_append_left _ (List.mem_append_left _ hn))) (by omega) f' (by omega)
  have hlr:=hl.left.right
  rw[hll]at hlr
  have i2:=ihr (b+l.num) hlr (fun n hn=>hz n (List.mem_append_left _ (List.mem_append_right _ hn))) (by omega) f' (by omega)
  simp only at i1 i2 ⊢
  omega
 ·intro o e c hw ih b hl hz hs f hf
  rw[Tr.flat_par]at hl hz hs ⊢
  rw[Tr.num_par]at hf ⊢
  exact ih b hl hz hs f hf
theorem count_exact(ls:List PLet)(sz:List Nat):∀ (l:List PNode) (c:Nat),countGo ls sz c l≤150→countGo ls sz c l=c+sumN ls sz l
 | [],c,_=>by simp[countGo,sumN]
 | n :: r,c,h=>by
  rw[countGo]at h ⊢
  split at h
  ·rename_i hc
   rw[if_pos hc,count_exact ls sz r _ h,sumN]
   omega
  ·omega
theorem seg_flat{N:List PNode}{l:List PNode}{e:PExp}(h:LiesAt N e.fr l)(hb:e.behind=e.fr+l.length):segE N e=l:=by
 apply List.ext_getElem?
 intro k
 unfold segE
 rw[List.getElem?_take]
 by_cases hk:k<l.length
 ·rw[if_pos (by omega),List.getElem?_drop,List.getElem?_eq_getElem hk]
  exact h k _ (List.getElem?_eq_getElem hk)
 ·rw[if_neg (by omega),List.getElem?_eq_none (by omega)]
def IsTree(N:List PNode)(e:PExp):Prop:=∃ t:Tr,t.wf∧e.behind=e.fr+t.num∧LiesAt N e.fr (t.flat e.fr)
theorem let_trees{N:List PNode}:∀ (l:List RSt),(∀ s∈l,s.wf)→∀ b,LiesAt N b (nodesS b l)→∀ p∈letsS b l,IsTree N p.val
 | [],_,_,_,p,hp=>by cases hp
 | s :: r,hw,b,hl,p,hp=>by
  rw[letsS,List.mem_append]at hp
  rw[nodesS]at hl
  have hlen:=s.nodes_len (hw s List.mem_cons_self) b
  rcases hp with hp | hp
  ·rcases s.cases with ⟨kw,name,eq,e,semi,rfl⟩ | ⟨wh,act,sc,semi,rfl⟩
   ·rw[RSt.lets_let,List.mem_singleton]at hp
    subst hp
    exact ⟨e,(hw _ List.mem_cons_self).2.2.2.1,rfl,hl.left⟩
   ·cases hp
  ·have hr:=hl.right
   rw[hlen]at hr
   exact let_trees r (fun x hx=>hw x (List.mem_cons_of_mem _ hx)) _ hr p hp
theorem rule_trees{N:List PNode}:∀ (l:List RSt),(∀ s∈l,s.wf)→∀ b,LiesAt N b (nodesS b l)→∀ p∈rulesS b l,(p.hw=true→IsTree N p.when)∧(p.hs=true→IsTree N p.score)∧(p.hw=false→p.when=noExp)∧(p.hs=false→p.score=noExp)
 | [],_,_,_,p,hp=>by cases hp
 | s :: r,hw,b,hl,p,hp=>by
  rw[rulesS,List.mem_append]at hp
  rw[nodesS]at hl
  have hlen:=s.nodes_len (hw s List.mem_cons_self) b
  rcases hp with hp | hp
  ·rcases s.cases with ⟨kw,name,eq,e,semi,rfl⟩ | ⟨wh,act,sc,semi,rfl⟩
   ·cases hp
   ·rw[RSt.rules_rule,List.mem_singleton]at hp
    subst hp
    have hws:=hw _ List.mem_cons_self
    have hwf:∀ e,wh.map Prod.snd=some e→e.wf:=fun e he=>by
     cases wh with
     | none=>cases he
     | some p=>cases he;exact (hws.1 p.1 p.2 rfl).2
    have hl1:=hl.left
    rw[RSt.nodes_rule]at hl1
    have ho:=optNodes_len (wh.map Prod.snd) hwf b
    have hl2:=hl1.right
    rw[ho]at hl2
    refine ⟨fun h=>?_,fun h=>?_,fun h=>?_,fun h=>?_⟩
    ·cases wh with
     | none=>cases h
     | some q=>exact ⟨q.2,(hws.1 q.1 q.2 rfl).2,rfl,hl1.left⟩
    ·cases sc with
     | none=>cases h
     | some e=>exact ⟨e,hws.2.2.1 e rfl,rfl,hl2⟩
    ·cases wh with
     | none=>rfl
     | some q=>cases h
    ·cases sc with
     | none=>rfl
     | some e=>cases h
  ·have hr:=hl.right
   rw[hlen]at hr
   exact rule_trees r (fun x hx=>hw x (List.mem_cons_of_mem _ hx)) _ hr p hp
theorem sizesL_get(ls:List PLet)(N:List PNode):∀ (r:List PLet) (sz:List Nat) (i:Nat),i<sz.length→(sizesL ls N sz r).getD i 0=sz.getD i 0
 | [],sz,i,_=>rfl
 | p :: r,sz,i,h=>by
  rw[sizesL,sizesL_get ls N r _ i (by simp;omega)]
  simp only[List.getD_eq_getElem?_getD]
  rw[List.getElem?_append_left h]
theorem countGo_same{ls:List PLet}{s1 s2:List Nat}:∀ (l:List PNode) (c:Nat),(∀ n∈l,kindP n.tok.text=2→s1.getD (letIx ls n.tok.text) 0=s2.getD (letIx ls n.tok.text) 0)→countGo ls s1 c l=countGo ls s2 c l
 | [],_,_=>rfl
 | n :: r,c,h=>by
  have e:partNode ls s1 n.tok=partNode ls s2 n.tok:=by
   unfold partNode
   split
   ·rename_i hk;exact h n List.mem_cons_self hk
   ·rfl
  rw[countGo,countGo,e]
  split
  ·exact countGo_same r _ fun m hm=>h m (List.mem_cons_of_mem _ hm)
  ·rfl
theorem sizes_at{ls:List PLet}{N:List PNode}:∀ (r:List PLet) (sz:List Nat) (k:Nat) (p:PLet),r[k]?=some p→∃ s1,s1.length=sz.length+k∧(sizesL ls N sz r).getD (sz.length+k) 0=countGo ls s1 0 (segE N p.val)∧∀ i,i<s1.length→s1.getD i 0=(sizesL ls N sz r).getD i 0
 | [],_,k,p,h=>by simp at h
 | q :: r,sz,0,p,h=>by
  have e:q=p:=by simpa using h
  subst e
  refine ⟨sz,rfl, ?_,fun i hi=>(sizesL_get ls N (q :: r) sz i hi).symm⟩
  rw[sizesL,Nat.add_zero,sizesL_get ls N r _ sz.length (by simp)]
  simp[List.getD_eq_getElem?_getD]
 | q :: r,sz,k+1,p,h=>by
  obtain ⟨s1,h1,h2,h3⟩:=sizes_at r (sz++[countGo ls sz 0 (segE N q.val)]) k p (by simpa using h) (ls:=ls) (N:=N)
  rw[List.length_append,List.length_singleton]at h1 h2
  refine ⟨s1,by omega, ?_, ?_⟩
  ·rw[sizesL,show sz.length+(k+1)=sz.length+1+k by omega];exact h2
  ·rw[sizesL];exact h3
theorem lets_wt{ls:List PLet}{N:List PNode}(hm:∀ n∈N,mayT n.tok.text=true)(hna:NamesAhead ls N)(ht:∀ p∈ls,IsTree N p.val)(hnl:pNamesL N ls 0 ls=none)(hK:∀ n∈N,kindP n.tok.text=2→nameT n.tok.text=true) :
  ∀ (k:Nat) (p:PLet),ls[k]?=some p→(sizesL ls N [] ls).getD k 0≤150→∀ f:Nat,((p.val.behind:Int)-1)<(f:Int)→wtI ls N f ((p.val.behind:Int)-1)≤(sizesL ls N [] ls).getD k 0:=by
 intro k
 induction k using Nat.strongRecOn with
 | _ k ih =>
  intro p hp hle f hf
  obtain ⟨t,hw,hbe,hl⟩:=ht p (List.mem_of_getElem? hp)
  have hpos:=t.num_pos hw
  have hlen:=t.flat_len hw p.val.fr
  have hseg:=seg_flat hl (by rw[hlen];exact hbe)
  obtain ⟨s1,h1,h2,h3⟩:=sizes_at ls [] k p hp (ls:=ls) (N:=N)
  simp only[List.length_nil,Nat.zero_add]at h1 h2
  have hmem:∀ n∈t.flat p.val.fr,n∈N:=fun n hn=>by
   obtain ⟨i,hi⟩:=List.mem_iff_getElem?.1 hn
   exact List.mem_of_getElem? (hl i n hi)
  have hname:∀ n∈t.flat p.val.fr,kindP n.tok.text=2→letIx ls n.tok.text<k:=fun n hn hk=>by
   have:=namesL_all hnl k p hp n (by rw[hseg];exact hn) (hK n (hmem n hn) hk)
   omega
  have hsame:countGo ls s1 0 (segE N p.val)=countGo ls (sizesL ls N [] ls) 0 (segE N p.val):=countGo_same _ _ fun n hn hk=>h3 _ (by
   rw[h1];rw[hseg]at hn;exact hname n hn hk)
  rw[h2,hsame,hseg]at hle ⊢
  have hex:=count_exact ls _ _ 0 hle
  rw[Nat.zero_add]at hex
  rw[hex]at hle ⊢
  have hbi:((p.val.behind:Int)-1)=((p.val.fr+t.num-1:Nat):Int):=by omega
  rw[hbi]at hf ⊢
  refine tree_wt hm hna t hw p.val.fr hl (fun n hn hk hs f' hf'=>?_) hle f (by omega)
  have hix:=hname n hn hk
  obtain ⟨q,hq⟩:∃ q,ls[letIx ls n.tok.text]?=some q:=⟨_,List.getElem?_eq_getElem (by have:=(List.getElem?_eq_some_iff.1 hp).1;omega)⟩
  have hmi:meantI ls n.tok.text=(q.val.behind:Int)-1:=by unfold meantI;rw[hq]
  rw[hmi]at hf' ⊢
  exact ih _ hix q hq hs f' hf'
def wtR(ls:List PLet)(N:List PNode)(p:PRule):Nat:=(if p.hw then wtI ls N N.length ((p.when.behind:Int)-1) else 0)+(if p.hs then wtI ls N N.length ((p.score.behind:Int)-1) else 0)
def wtRs(ls:List PLet)(N:List PNode):List PRule→Nat
 | []=>0
 | p :: r=>wtR ls N p+wtRs ls N r
theorem partsR_acc(ls:List PLet)(N:List PNode)(sz:List Nat):∀ (r:List PRule) (a:Nat),a≤partsR ls N sz a r
 | [],a=>Nat.le_refl _
 | p :: r,a=>by
  rw[partsR]
  have:=partsR_acc ls N sz r (a+countGo ls sz 0 (segE N p.when)+countGo ls sz 0 (segE N p.score))
  omega
theorem rules_wt{s:Txt}{L R:List RSt}(h:PolicyOf s L R)(hN:(nodesS 0 (L++R)).length≤401)(he:errsOf (nodesS 0 (L++R)) (letsS 0 (L++R)) (rulesS 0 (L++R))=(0,0)) :
  wtRs (letsS 0 (L++R)) (nodesS 0 (L++R)) (rulesS 0 (L++R))≤150:=by
 unfold errsOf at he
 split at he
 ·cases he
 rename_i hnm
 split at he
 ·cases he
 split at he
 ·cases he
 rename_i hpp
 have hf:=fits_of h hN
 have hna:=names_ahead h hN hnm
 have hl0:LiesAt (nodesS 0 (L++R)) 0 (nodesS 0 (L++R)):=fun k n hk=>by rw[Nat.zero_add];exact hk
 have hlt:=let_trees (L++R) h.wf 0 hl0
 have hrt:=rule_trees (L++R) h.wf 0 hl0
 have hnl:pNamesL (nodesS 0 (L++R)) (letsS 0 (L++R)) 0 (letsS 0 (L++R))=none:=by
  unfold pNames at hnm
  split at hnm
  ·cases hnm
  ·assumption
 have hnr:pNamesR (nodesS 0 (L++R)) (letsS 0 (L++R)) (rulesS 0 (L++R))=none:=by
  unfold pNames at hnm
  split at hnm
  ·cases hnm
  ·exact hnm
 have hK:∀ n∈nodesS 0 (L++R),kindP n.tok.text=2→nameT n.tok.text=true:=fun n hn hk=>(kindOf n.tok.text (hf.x.may n hn)).kname.1 hk
 generalize hNN:nodesS 0 (L++R)=N at *
 generalize hll:letsS 0 (L++R)=ls at *
 generalize hrr:rulesS 0 (L++R)=rs at *
 have hlw:=lets_wt hf.x.may hna hlt hnl hK
 have hexp:∀ e:PExp,IsTree N e→(∀ n∈segE N e,nameT n.tok.text=true→letIx ls n.tok.text<ls.length)→countGo ls (sizesL ls N [] ls) 0 (segE N e)≤150→e.behind≤N.length→wtI ls N N.length ((e.behind:Int)-1)≤countGo ls (sizesL ls N [] ls) 0 (segE N e):=by
  intro e ⟨t,hw,hbe,hl⟩ hnames hle hbn
  have hpos:=t.num_pos hw
  have hlen:=t.flat_len hw e.fr
  have hseg:=seg_flat hl (by rw[hlen];exact hbe)
  have hex:=count_exact ls _ _ 0 hle
  rw[Nat.zero_add]at hex
  rw[hex]at hle ⊢
  rw[hseg]at hle hnames ⊢
  have hmem:∀ n∈t.flat e.fr,n∈N:=fun n hn=>by
   obtain ⟨i,hi⟩:=List.mem_iff_getElem?.1 hn
   exact List.mem_of_getElem? (hl i n hi)
  have hbi:((e.behind:Int)-1)=((e.fr+t.num-1:Nat):Int):=by omega
  rw[hbi]
  refine tree_wt hf.x.may hna t hw e.fr hl (fun n hn hk hs f' hf'=>?_) hle _ (by omega)
  have hix:=hnames n hn (hK n (hmem n hn) hk)
  obtain ⟨q,hq⟩:∃ q,ls[letIx ls n.tok.text]?=some q:=⟨_,List.getElem?_eq_getElem hix⟩
  have hmi:meantI ls n.tok.text=(q.val.behind:Int)-1:=by unfold meantI;rw[hq]
  rw[hmi]at hf' ⊢
  exact hlw _ q hq hs f' hf'
 have key:∀ (r:List PRule) (a:Nat),(∀ p∈r,p∈rs)→partsR ls N (sizesL ls N [] ls) a r≤150→a+wtRs ls N r≤partsR ls N (sizesL ls N [] ls) a r:=by
  intro r
  induction r with
  | nil=>intro a _ _;simp[wtRs,partsR]
  | cons p r ih =>
   intro a hsub hle
   rw[partsR]at hle ⊢
   have hp:=hsub p List.mem_cons_self
   have hacc:=partsR_acc ls N (sizesL ls N [] ls) r (a+countGo ls (sizesL ls N [] ls) 0 (segE N p.when)+countGo ls (sizesL ls N [] ls) 0 (segE N p.score))
   have ih':=ih _ (fun q hq=>hsub q (List.mem_cons_of_mem _ hq)) hle
   obtain ⟨t1,t2,_,_⟩:=hrt p hp
   have w1:(if p.hw then wtI ls N N.length ((p.when.behind:Int)-1) else 0)≤countGo ls (sizesL ls N [] ls) 0 (segE N p.when):=by
    split
    ·rename_i hh
     exact hexp p.when (t1 hh) (fun n hn ht=>namesR_all hnr p hp n (.inl hn) ht) (by omega) (hf.x.w p hp).lt
    ·exact Nat.zero_le _
   have w2:(if p.hs then wtI ls N N.length ((p.score.behind:Int)-1) else 0)≤countGo ls (sizesL ls N [] ls) 0 (segE N p.score):=by
    split
    ·rename_i hh
     exact hexp p.score (t2 hh) (fun n hn ht=>namesR_all hnr p hp n (.inr hn) ht) (by omega) (hf.x.s p hp).lt
    ·exact Nat.zero_le _
   rw[wtRs,wtR]
   omega
 have hpp':partsR ls N (sizesL ls N [] ls) 0 rs≤150:=by
  unfold pParts at hpp
  omega
 have:=key rs 0 (fun p hp=>hp) hpp'
 omega
end Go.Proofs.YtpcjadaeolkngaaGreatDoor
