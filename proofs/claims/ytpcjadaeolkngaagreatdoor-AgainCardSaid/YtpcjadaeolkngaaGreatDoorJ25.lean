/-
  What a node is worth; what is known ahead is what it is worth; the piece of a node tells it.
-/
import Derived.Test.YtpcjadaeolkngaaGreatDoorJ24
set_option linter.unusedVariables false
set_option linter.unusedSimpArgs false
namespace Go.Proofs.YtpcjadaeolkngaaGreatDoor
def evI(ls:List PLet)(N:List PNode)(x:Itm)(y:Bn):Nat→Int→Int×Nat
  | 0,_=>(0,0)
  | f+1,i =>
    match N[i.toNat]? with
    | none=>(0,0)
    | some n =>
      if n.ops=1 then
        (if (evI ls N x y f n.left).2≠0 then (0,(evI ls N x y f n.left).2) else oneN (opK (kindP n.tok.text) n.ops) (evI ls N x y f n.left).1)
      else if isChK (kindP n.tok.text) then
        (if (evI ls N x y f n.left).2≠0 then (0,(evI ls N x y f n.left).2) else if (evI ls N x y f n.left).1=decK (kindP n.tok.text) then (decK (kindP n.tok.text),0) else evI ls N x y f n.right)
      else if n.ops=2 then
        (if (evI ls N x y f n.left).2≠0 then (0,(evI ls N x y f n.left).2) else if (evI ls N x y f n.right).2≠0 then (0,(evI ls N x y f n.right).2) else joinN (opK (kindP n.tok.text) n.ops) (evI ls N x y f n.left).1 (evI ls N x y f n.right).1)
      else if kindP n.tok.text=2 then evI ls N x y f (meantI ls n.tok.text)
      else match singleF n.tok with
        | some v=>(v,0)
        | none=>(attrN (kindP n.tok.text-15:Nat) x y,0)
theorem evI_at{ls:List PLet}{N:List PNode}{x:Itm}{y:Bn}{f i:Nat}{n:PNode}(hn:N[i]?=some n):evI ls N x y (f+1) (i:Int) =
      if n.ops=1 then
        (if (evI ls N x y f n.left).2≠0 then (0,(evI ls N x y f n.left).2) else oneN (opK (kindP n.tok.text) n.ops) (evI ls N x y f n.left).1)
      else if isChK (kindP n.tok.text) then
        (if (evI ls N x y f n.left).2≠0 then (0,(evI ls N x y f n.left).2) else if (evI ls N x y f n.left).1=decK (kindP n.tok.text) then (decK (kindP n.tok.text),0) else evI ls N x y f n.right)
      else if n.ops=2 then
        (if (evI ls N x y f n.left).2≠0 then (0,(evI ls N x y f n.left).2) else if (evI ls N x y f n.right).2≠0 then (0,(evI ls N x y f n.right).2) else joinN (opK (kindP n.tok.text) n.ops) (evI ls N x y f n.left).1 (evI ls N x y f n.right).1)
      else if kindP n.tok.text=2 then evI ls N x y f (meantI ls n.tok.text)
      else match singleF n.tok with
        | some v=>(v,0)
        | none=>(attrN (kindP n.tok.text-15:Nat) x y,0):=by
  rw[evI]
  simp only[Int.toNat_natCast,hn]
theorem factsG_pre(ls:List PLet):∀ (N:List PNode) (gs:List Fact) (j:Nat),j<gs.length→(factsG ls gs N).getD j none=gs.getD j none
  | [],gs,j,_=>rfl
  | n :: r,gs,j,h=>by
    rw[factsG,factsG_pre ls r _ j (by simp;omega)]
    simp only[List.getD_eq_getElem?_getD]
    rw[List.getElem?_append_left h]
theorem facts_at(ls:List PLet)(N:List PNode)(i:Nat)(n:PNode)(hn:N[i]?=some n):atF (factsP ls N) (i:Int)=factN ls (factsP ls (N.take i)) n∧∀ j:Int,j<(i:Int)→atF (factsP ls (N.take i)) j=atF (factsP ls N) j:=by
  obtain ⟨hlt,hni⟩:=List.getElem?_eq_some_iff.1 hn
  have hsplit:N=N.take i++(n :: N.drop (i+1)):=by
    conv=>lhs;rw[← List.take_append_drop i N]
    rw[List.drop_eq_getElem_cons hlt,hni]
  have hG:factsP ls N=factsG ls (factsP ls (N.take i)++[factN ls (factsP ls (N.take i)) n]) (N.drop (i+1)):=by
    conv=>lhs;rw[hsplit]
    unfold factsP
    rw[factsG_append]
    rfl
  have hl:(factsP ls (N.take i)).length=i:=by rw[factsP_length];simp;omega
  refine ⟨?_,fun j hj=>?_⟩
  · rw[atF_nat,hG,factsG_pre _ _ _ i (by simp[hl])]
    simp only[List.getD_eq_getElem?_getD]
    rw[List.getElem?_append_right (by omega),hl,Nat.sub_self]
    rfl
  · by_cases h0:j<0
    · rw[atF_neg h0,atF_neg h0]
    · obtain ⟨k,rfl⟩:∃ k:Nat,j=(k:Int):=⟨j.toNat,by omega⟩
      rw[atF_nat,atF_nat,hG,factsG_pre _ _ _ k (by simp[hl];omega)]
      simp only[List.getD_eq_getElem?_getD]
      rw[List.getElem?_append_left (by omega)]
theorem fact_ev{ls:List PLet}{N:List PNode}(x:Itm)(y:Bn)(hR:RefsOk ls (factsP ls N) N):∀ (f i:Nat) (v:Int),i<f→atF (factsP ls N) (i:Int)=some v→evI ls N x y f (i:Int)=(v,0)
  | 0,i,_,h,_=>by omega
  | f+1,i,v,hif,hv=>by
    have hlt:i<N.length:=by
      rw[atF_nat]at hv
      rcases Nat.lt_or_ge i (factsP ls N).length with h | h
      · rwa [factsP_length]at h
      · simp only[List.getD_eq_getElem?_getD]at hv
        rw[List.getElem?_eq_none h]at hv
        cases hv
    obtain ⟨n,hn⟩:∃ n,N[i]?=some n:=⟨N[i],List.getElem?_eq_getElem hlt⟩
    obtain ⟨hok,hrf⟩:=hR i n hn
    obtain ⟨hfa,hpre⟩:=facts_at ls N i n hn
    rw[hfa]at hv
    rw[evI_at hn]
    unfold factN at hv
    by_cases h1:n.ops=1
    · rw[if_pos h1]at hv ⊢
      have hl:=hrf.one h1
      rw[hpre _ (by omega)]at hv
      cases ha:atF (factsP ls N) (n.left:Int) with
      | none=>rw[ha]at hv;cases hv
      | some a =>
        rw[ha]at hv
        simp only[oneF]at hv
        rw[fact_ev x y hR f n.left a (by omega) ha]
        simp only[ne_eq,not_true_eq_false,if_false]
        split at hv
        · rename_i h0
          have:=Option.some.inj hv
          exact Prod.ext this h0
        · cases hv
    · rw[if_neg h1]at hv ⊢
      cases hc:isChK (kindP n.tok.text) with
      | true =>
        rw[hc,if_pos rfl]at hv
        rw[if_pos rfl]
        obtain ⟨hl,hr⟩:=hrf.two h1 (.inl hc)
        rw[hpre _ (by omega),hpre _ (by omega)]at hv
        cases ha:atF (factsP ls N) (n.left:Int) with
        | none=>rw[ha]at hv;cases hv
        | some a =>
          rw[ha]at hv
          simp only[choiceF]at hv
          rw[fact_ev x y hR f n.left a (by omega) ha]
          simp only[ne_eq,not_true_eq_false,if_false]
          by_cases hd:a=decK (kindP n.tok.text)
          · rw[if_pos hd]at hv ⊢
            have:=Option.some.inj hv
            rw[← hd,this]
          · rw[if_neg hd]at hv ⊢
            exact fact_ev x y hR f n.right v (by omega) hv
      | false =>
        rw[hc]at hv
        simp only[Bool.false_eq_true,if_false]at hv ⊢
        by_cases h2:n.ops=2
        · rw[if_pos h2]at hv ⊢
          obtain ⟨hl,hr⟩:=hrf.two h1 (.inr h2)
          rw[hpre _ (by omega),hpre _ (by omega)]at hv
          cases ha:atF (factsP ls N) (n.left:Int) with
          | none=>rw[ha]at hv;cases hv
          | some a =>
            cases hb:atF (factsP ls N) (n.right:Int) with
            | none=>rw[ha,hb]at hv;cases hv
            | some b =>
              rw[ha,hb]at hv
              simp only[twoF]at hv
              rw[fact_ev x y hR f n.left a (by omega) ha,fact_ev x y hR f n.right b (by omega) hb]
              simp only[ne_eq,not_true_eq_false,if_false]
              split at hv
              · rename_i h0
                exact Prod.ext (Option.some.inj hv) h0
              · cases hv
        · rw[if_neg h2]at hv ⊢
          have h0:n.ops=0:=by have:=hok.ops;omega
          by_cases hk:kindP n.tok.text=2
          · rw[if_pos hk]at hv ⊢
            obtain ⟨hm0,hm1⟩:=hrf.nam h0 hc hk
            rw[hpre _ hm1]at hv
            obtain ⟨j,hj⟩:∃ j:Nat,meantI ls n.tok.text=(j:Int):=⟨(meantI ls n.tok.text).toNat,by omega⟩
            rw[hj]at hv hm1 ⊢
            exact fact_ev x y hR f j v (by omega) hv
          · rw[if_neg hk]at hv ⊢
            rw[hv]
def TruthsOk(ls:List PLet)(N:List PNode)(x:Itm)(y:Bn):Prop:=∀ (j:Nat) (n:PNode),N[j]?=some n→n.ops≠1→isChK (kindP n.tok.text)=true→∀ f,n.left<f→(evI ls N x y f n.left).2=0→(evI ls N x y f n.left).1=0∨(evI ls N x y f n.left).1=1
theorem isCh_cases{k:Nat}(h:isChK k=true):k=7∨k=8:=by unfold isChK at h;simpa using h
theorem pb_ev{ls:List PLet}{N:List PNode}(x:Itm)(y:Bn)(hR:RefsOk ls (factsP ls N) N)(hT:TruthsOk ls N x y):∀ (f i:Nat),i<f→i<N.length→(pbI (factsP ls N) ls N x y f (i:Int)).flt=(evI ls N x y f (i:Int)).2∧((evI ls N x y f (i:Int)).2=0→(pbI (factsP ls N) ls N x y f (i:Int)).v=(evI ls N x y f (i:Int)).1)
  | 0,i,h,_=>by omega
  | f+1,i,hif,hlt=>by
    obtain ⟨n,hn⟩:∃ n,N[i]?=some n:=⟨N[i],List.getElem?_eq_getElem hlt⟩
    obtain ⟨hok,hrf⟩:=hR i n hn
    have hpb:pbI (factsP ls N) ls N x y (f+1) (i:Int)=match atF (factsP ls N) (i:Int) with
      | some v=>leafI v
      | none =>
        if n.ops=1 then oneP (opK (kindP n.tok.text) n.ops) (pbI (factsP ls N) ls N x y f n.left)
        else if isChK (kindP n.tok.text) then choiceP (leaK (kindP n.tok.text)) (pbI (factsP ls N) ls N x y f n.left) (pbI (factsP ls N) ls N x y f n.right) (leafI (decK (kindP n.tok.text)))
        else if n.ops=2 then twoP (opK (kindP n.tok.text) n.ops) (pbI (factsP ls N) ls N x y f n.left) (pbI (factsP ls N) ls N x y f n.right)
        else if kindP n.tok.text=2 then pbI (factsP ls N) ls N x y f (meantI ls n.tok.text)
        else leafA (kindP n.tok.text-15) x y:=by
      rw[pbI]
      simp only[Int.toNat_natCast,hn]
      first | done | (cases atF (factsP ls N) (i:Int) <;> rfl)
    cases hfa:atF (factsP ls N) (i:Int) with
    | some v =>
      rw[fact_ev x y hR (f+1) i v hif hfa,hpb,hfa]
      exact ⟨rfl,fun _=>rfl⟩
    | none =>
      rw[hpb,hfa,evI_at hn]
      simp only
      by_cases h1:n.ops=1
      · rw[if_pos h1,if_pos h1]
        have hl:=hrf.one h1
        obtain ⟨e1,e2⟩:=pb_ev x y hR hT f n.left (by omega) (by omega)
        have hop:=hok.one h1
        unfold oneP
        rw[e1]
        by_cases hf:(evI ls N x y f n.left).2=0
        · rw[e2 hf]
          simp only[hf,ne_eq,not_true_eq_false,if_false]
          unfold oneN
          rcases hop with ho | ho <;> rw[ho] <;> simp
        · simp only[ne_eq,hf,not_false_eq_true,if_true]
          exact ⟨trivial,fun h=>h.elim⟩
      · rw[if_neg h1,if_neg h1]
        cases hc:isChK (kindP n.tok.text) with
        | true =>
          simp only[if_true]
          obtain ⟨hl,hr⟩:=hrf.two h1 (.inl hc)
          obtain ⟨e1,e2⟩:=pb_ev x y hR hT f n.left (by omega) (by omega)
          obtain ⟨e3,e4⟩:=pb_ev x y hR hT f n.right (by omega) (by omega)
          have ht:=hT i n hn h1 hc f (by omega)
          unfold choiceP
          rw[e1]
          by_cases hf:(evI ls N x y f n.left).2=0
          · rw[e2 hf]
            simp only[hf,ne_eq,not_true_eq_false,if_false]
            rcases isCh_cases hc with hk | hk <;> rw[hk] <;> rcases ht hf with hv | hv <;> rw[hv] <;> simp[leaK,decK,leafI]
            all_goals first
              | done
              | (by_cases hq:(evI ls N x y f n.right).2=0
                 · rw[e3];simp only[hq,if_true];exact ⟨by first | rfl | trivial,fun _=>e4 hq⟩
                 · rw[e3];simp only[hq,if_false];exact ⟨by first | rfl | trivial,fun h=>by simp_all⟩)
              | skip
          · simp only[ne_eq,hf,not_false_eq_true,if_true]
            exact ⟨trivial,fun h=>h.elim⟩
        | false =>
          simp only[Bool.false_eq_true,if_false]
          by_cases h2:n.ops=2
          · rw[if_pos h2,if_pos h2]
            obtain ⟨hl,hr⟩:=hrf.two h1 (.inr h2)
            obtain ⟨e1,e2⟩:=pb_ev x y hR hT f n.left (by omega) (by omega)
            obtain ⟨e3,e4⟩:=pb_ev x y hR hT f n.right (by omega) (by omega)
            unfold twoP
            rw[e1,e3]
            by_cases hf:(evI ls N x y f n.left).2=0
            · by_cases hg:(evI ls N x y f n.right).2=0
              · rw[e2 hf,e4 hg]
                simp only[hf,hg,ne_eq,not_true_eq_false,if_false]
                exact ⟨trivial,fun _=>trivial⟩
              · simp only[hf,hg,ne_eq,not_true_eq_false,not_false_eq_true,if_false,if_true]
                exact ⟨trivial,fun _=>trivial⟩
            · simp only[ne_eq,hf,not_false_eq_true,if_true]
              exact ⟨trivial,fun _=>trivial⟩
          · rw[if_neg h2,if_neg h2]
            have h0:n.ops=0:=by have:=hok.ops;omega
            by_cases hk:kindP n.tok.text=2
            · rw[if_pos hk,if_pos hk]
              obtain ⟨hm0,hm1⟩:=hrf.nam h0 hc hk
              obtain ⟨j,hj⟩:∃ j:Nat,meantI ls n.tok.text=(j:Int):=⟨(meantI ls n.tok.text).toNat,by omega⟩
              rw[hj]at hm1 ⊢
              exact pb_ev x y hR hT f j (by omega) (by omega)
            · rw[if_neg hk,if_neg hk]
              have hs:singleF n.tok=none:=by
                have:=(facts_at ls N i n hn).1
                rw[hfa]at this
                unfold factN at this
                rw[if_neg h1,hc]at this
                simp only[Bool.false_eq_true,if_false]at this
                rw[if_neg h2,if_neg hk]at this
                exact this.symm
              rw[hs]
              exact ⟨rfl,fun _=>rfl⟩
def IdxOk(j:Nat)(n:PNode):Prop:=(n.ops=1→n.left<j)∧(n.ops=2→n.left<j∧n.right<j)
theorem get_append{α:Type}{a b:List α}{k:Nat}{n:α}(h:(a++b)[k]?=some n):(k<a.length∧a[k]?=some n)∨(a.length≤k∧b[k-a.length]?=some n):=by
 rcases Nat.lt_or_ge k a.length with hk | hk
 ·rw[List.getElem?_append_left hk]at h;exact .inl ⟨hk,h⟩
 ·rw[List.getElem?_append_right hk]at h;exact .inr ⟨hk,h⟩
theorem get_single{α:Type}{a n:α}{k:Nat}(h:[a][k]?=some n):k=0∧a=n:=by
 cases k with
 | zero=>exact ⟨rfl,by simpa using h⟩
 | succ k=>simp at h
theorem Tr.idx(t:Tr)(h:t.wf):∀ (b k:Nat) (n:PNode),(t.flat b)[k]?=some n→IdxOk (b+k) n:=by
 refine Tr.ind (P:=fun t=>∀ (b k:Nat) (n:PNode),(t.flat b)[k]?=some n→IdxOk (b+k) n) t h ?_ ?_ ?_ ?_
 ·intro a _ b k n hk
  rw[Tr.flat_leaf]at hk
  obtain ⟨rfl,rfl⟩:=get_single hk
  exact ⟨(fun h=>by cases h),(fun h=>by cases h)⟩
 ·intro op e hw ih b k n hk
  rw[Tr.flat_un]at hk
  rcases get_append hk with ⟨_,h1⟩ | ⟨h1,h2⟩
  ·exact ih b k n h1
  ·obtain ⟨h3,rfl⟩:=get_single h2
   have hl:=e.flat_len (Tr.wf_un hw).2.2 b
   have hp:=e.num_pos (Tr.wf_un hw).2.2
   refine ⟨fun _=>?_,(fun h=>by cases h)⟩
   simp only
   omega
 ·intro op l r hw ihl ihr b k n hk
  rw[Tr.flat_bin]at hk
  have hwb:=Tr.wf_bin hw
  have hl:=l.flat_len hwb.2.2.2.2.2.1 b
  have hr:=r.flat_len hwb.2.2.2.2.2.2 (b+l.num)
  have hpl:=l.num_pos hwb.2.2.2.2.2.1
  have hpr:=r.num_pos hwb.2.2.2.2.2.2
  rcases get_append hk with ⟨_,h1⟩ | ⟨h1,h2⟩
  ·rcases get_append h1 with ⟨_,h3⟩ | ⟨h3,h4⟩
   ·exact ihl b k n h3
   ·have:=ihr (b+l.num) (k-(l.flat b).length) n h4
    rw[show b+l.num+(k-(l.flat b).length)=b+k by omega]at this
    exact this
  ·obtain ⟨h3,rfl⟩:=get_single h2
   rw[List.length_append]at h1 h3
   refine ⟨(fun h=>by cases h),fun _=>?_⟩
   simp only
   omega
 ·intro o e c hw ih b k n hk
  rw[Tr.flat_par]at hk
  exact ih b k n hk
theorem optNodes_idx{o:Option Tr}(h:∀ e,o=some e→e.wf)(b:Nat):∀ (k:Nat) (n:PNode),(optNodes b o)[k]?=some n→IdxOk (b+k) n:=by
 cases o with
 | none=>intro k n hk;simp[optNodes]at hk
 | some e=>exact fun k n hk=>e.idx (h e rfl) b k n hk
theorem RSt.idx(s:RSt)(h:s.wf)(b:Nat):∀ (k:Nat) (n:PNode),(s.nodes b)[k]?=some n→IdxOk (b+k) n:=by
 rcases s.cases with ⟨kw,name,eq,e,semi,rfl⟩ | ⟨wh,act,sc,semi,rfl⟩
 ·exact fun k n hk=>e.idx h.2.2.2.1 b k n hk
 ·intro k n hk
  rw[RSt.nodes_rule]at hk
  have hwf:∀ e,wh.map Prod.snd=some e→e.wf:=fun e he=>by
   cases wh with
   | none=>cases he
   | some p=>cases he;exact (h.1 p.1 p.2 rfl).2
  have hl:=optNodes_len (wh.map Prod.snd) hwf b
  rcases get_append hk with ⟨_,h1⟩ | ⟨h1,h2⟩
  ·exact optNodes_idx hwf b k n h1
  ·have:=optNodes_idx (fun e he=>h.2.2.1 e he) (b+optNum (wh.map Prod.snd)) _ n h2
   rw[show b+optNum (wh.map Prod.snd)+(k-(optNodes b (wh.map Prod.snd)).length)=b+k by omega]at this
   exact this
theorem nodes_idx:∀ (l:List RSt),(∀ s∈l,s.wf)→∀ (b k:Nat) (n:PNode),(nodesS b l)[k]?=some n→IdxOk (b+k) n
 | [],_,_,k,n,hk=>by simp[nodesS]at hk
 | s :: r,h,b,k,n,hk=>by
  rw[nodesS]at hk
  have hl:=s.nodes_len (h s List.mem_cons_self) b
  rcases get_append hk with ⟨_,h1⟩ | ⟨h1,h2⟩
  ·exact s.idx (h s List.mem_cons_self) b k n h1
  ·have:=nodes_idx r (fun x hx=>h x (List.mem_cons_of_mem _ hx)) (b+s.num) _ n h2
   rw[show b+s.num+(k-(s.nodes b).length)=b+k by omega]at this
   exact this
def NamesAhead(ls:List PLet)(N:List PNode):Prop:=∀ (j:Nat) (n:PNode),N[j]?=some n→n.ops=0→kindP n.tok.text=2→0≤meantI ls n.tok.text∧meantI ls n.tok.text<(j:Int)
theorem refs_ok{s:Txt}{L R:List RSt}(h:PolicyOf s L R)(hN:(nodesS 0 (L++R)).length≤401)(hna:NamesAhead (letsS 0 (L++R)) (nodesS 0 (L++R))):RefsOk (letsS 0 (L++R)) (factsP (letsS 0 (L++R)) (nodesS 0 (L++R))) (nodesS 0 (L++R)):=by
 intro j n hn
 have hmem:=List.mem_of_getElem? hn
 have hok:=(policy_ok h hN).nd n hmem
 have hmay:=(fits_of h hN).x.may n hmem
 have K:=kindOf n.tok.text hmay
 have hsh:=nodes_shapes (L++R) h.wf 0 n hmem
 have hix:=nodes_idx (L++R) h.wf 0 j n hn
 rw[Nat.zero_add]at hix
 refine ⟨hok,hix.1,fun h1 hor=>?_,fun h0 hc hk=>hna j n hn h0 hk,fun h0 hc hk hfa=>?_⟩
 ·rcases hor with hc | h2
  ·rcases hsh with ⟨h0,hs⟩ | ⟨h0,_⟩ | ⟨h2,_⟩
   ·exfalso
    rw[← K.single]at hs
    rcases isCh_cases hc with hk | hk <;> rw[hk]at hs <;> exact absurd hs (by decide)
   ·exact absurd h0 h1
   ·exact hix.2 h2
  ·exact hix.2 h2
 ·have hf:=(facts_at (letsS 0 (L++R)) (nodesS 0 (L++R)) j n hn).1
  rw[hfa]at hf
  unfold factN at hf
  rw[if_neg (by omega),hc]at hf
  simp only[Bool.false_eq_true,if_false]at hf
  rw[if_neg (by omega),if_neg hk]at hf
  have hs:singleK (kindP n.tok.text)=true:=by
   rcases hsh with ⟨_,hs⟩ | ⟨h1,_⟩ | ⟨h1,_⟩
   ·rw[K.single];exact hs
   ·omega
   ·omega
  unfold singleF at hf
  unfold singleK at hs
  simp only[Bool.or_eq_true,Bool.and_eq_true,decide_eq_true_eq]at hs
  (repeat' split at hf) <;> first | (cases hf;done) | omega
def stepR(b:Nat)(p:PRule):Nat:=if p.hs then p.score.behind else if p.hw then p.when.behind else b
def endR:Nat→List PRule→Nat
 | b,[]=>b
 | b,p :: r=>endR (stepR b p) r
theorem end_rules:∀ (R:List RSt),(∀ s∈R,s.wf)→isRuleL' R→∀ b,endR b (rulesS b R)=b+numS R
 | [],_,_,b=>rfl
 | s :: r,hw,hl,b=>by
  rcases s.cases with ⟨kw,name,eq,e,semi,rfl⟩ | ⟨wh,act,sc,semi,rfl⟩
  ·have:=hl _ List.mem_cons_self;cases this
  ·have ih:=end_rules r (fun x hx=>hw x (by simp[hx])) (fun x hx=>hl x (by simp[hx])) (b+(RSt.rule wh act sc semi).num)
   rw[rulesS,RSt.rules_rule,List.singleton_append,endR,numS]
   have e:stepR b ⟨wh.isSome,optE b (wh.map Prod.snd),sc.isSome,optE (b+optNum (wh.map Prod.snd)) sc⟩=b+(RSt.rule wh act sc semi).num:=by
    rw[RSt.num_rule]
    cases wh with
    | none=>cases sc <;> simp[stepR,optNum,optE,layE]
    | some p=>cases sc <;> simp[stepR,optNum,optE,layE,Nat.add_assoc]
   rw[e,ih]
   omega
theorem endL_ge:∀ (ls:List PLet) (b:Nat),ConsL b ls→b≤endL b ls
 | [],b,_=>Nat.le_refl _
 | p :: r,b,h=>by
  have:=endL_ge r p.val.behind h.2.2
  rw[endL]
  have:=h.2.1
  omega
theorem consL_le:∀ (ls:List PLet) (b:Nat),ConsL b ls→∀ (k:Nat) (p:PLet),ls[k]?=some p→b≤p.val.fr∧p.val.fr<p.val.behind∧p.val.behind≤endL b ls
 | [],b,_,k,p,h=>by simp at h
 | q :: r,b,h,0,p,hp=>by
  have e:q=p:=by simpa using hp
  subst e
  have:=endL_ge r q.val.behind h.2.2
  rw[endL]
  exact ⟨by rw[h.1];exact Nat.le_refl _,by rw[h.1];exact h.2.1,this⟩
 | q :: r,b,h,k+1,p,hp=>by
  have ih:=consL_le r q.val.behind h.2.2 k p (by simpa using hp)
  have:=h.2.1
  rw[endL]
  exact ⟨by omega,ih.2.1,ih.2.2⟩
theorem consL_ord:∀ (ls:List PLet) (b:Nat),ConsL b ls→∀ (k k':Nat) (p p':PLet),k'<k→ls[k]?=some p→ls[k']?=some p'→p'.val.behind≤p.val.fr
 | [],b,_,k,k',p,p',_,h,_=>by simp at h
 | q :: r,b,h,0,k',p,p',hk,_,_=>by omega
 | q :: r,b,h,k+1,0,p,p',_,hp,hp'=>by
  have e:q=p':=by simpa using hp'
  subst e
  exact (consL_le r q.val.behind h.2.2 k p (by simpa using hp)).1
 | q :: r,b,h,k+1,k'+1,p,p',hk,hp,hp'=>consL_ord r q.val.behind h.2.2 k k' p p' (by omega) (by simpa using hp) (by simpa using hp')
theorem coverL:∀ (ls:List PLet) (b:Nat),ConsL b ls→∀ j:Nat,b≤j→j<endL b ls→∃ (k:Nat) (p:PLet),ls[k]?=some p∧p.val.fr≤j∧j<p.val.behind
 | [],b,_,j,h1,h2=>by rw[endL]at h2;omega
 | q :: r,b,h,j,h1,h2=>by
  by_cases hj:j<q.val.behind
  ·exact ⟨0,q,rfl,by rw[h.1];exact h1,hj⟩
  ·rw[endL]at h2
   obtain ⟨k,p,hp,a1,a2⟩:=coverL r q.val.behind h.2.2 j (by omega) h2
   exact ⟨k+1,p,by simpa using hp,a1,a2⟩
theorem coverR:∀ (rs:List PRule) (b:Nat),ConsR b rs→∀ j:Nat,b≤j→j<endR b rs→∃ p∈rs,(p.when.fr≤j∧j<p.when.behind)∨(p.score.fr≤j∧j<p.score.behind)
 | [],b,_,j,h1,h2=>by rw[endR]at h2;omega
 | p :: r,b,h,j,h1,h2=>by
  obtain ⟨hw,hs,hc⟩:=h
  rw[endR]at h2
  by_cases hj:stepR b p≤j
  ·obtain ⟨q,hq,hor⟩:=coverR r (stepR b p) hc j hj h2
   exact ⟨q,List.mem_cons_of_mem _ hq,hor⟩
  ·refine ⟨p,List.mem_cons_self, ?_⟩
   unfold stepR at hj
   cases hps:p.hs with
   | true =>
    rw[hps]at hj
    simp only[if_true]at hj
    obtain ⟨e1,e2⟩:=hs hps
    cases hpw:p.hw with
    | true =>
     rw[hpw,if_pos rfl]at e1
     obtain ⟨e3,e4⟩:=hw hpw
     by_cases hjw:j<p.when.behind
     ·exact .inl ⟨by omega,hjw⟩
     ·exact .inr ⟨by omega,by omega⟩
    | false =>
     rw[hpw]at e1
     simp only[Bool.false_eq_true,if_false]at e1
     exact .inr ⟨by omega,by omega⟩
   | false =>
    rw[hps]at hj
    simp only[Bool.false_eq_true,if_false]at hj
    cases hpw:p.hw with
    | true =>
     rw[hpw]at hj
     simp only[if_true]at hj
     obtain ⟨e3,e4⟩:=hw hpw
     exact .inl ⟨by omega,by omega⟩
    | false =>
     rw[hpw]at hj
     simp only[Bool.false_eq_true,if_false]at hj
     omega
theorem seg_mem{N:List PNode}{e:PExp}{j:Nat}{n:PNode}(hn:N[j]?=some n)(h1:e.fr≤j)(h2:j<e.behind):n∈segE N e:=by
 unfold segE
 apply List.mem_of_getElem? (i:=j-e.fr)
 rw[List.getElem?_take,if_pos (by omega),List.getElem?_drop,show e.fr+(j-e.fr)=j by omega]
 exact hn
theorem namesE_all{ls:List PLet}{a:Nat}:∀ {l:List PNode},namesE ls a l=none→∀ n∈l,nameT n.tok.text=true→letIx ls n.tok.text<a
 | [],_,n,hn,_=>by cases hn
 | m :: r,h,n,hn,ht=>by
  rw[namesE]at h
  split at h
  ·cases h
  ·rename_i hc
   rcases List.mem_cons.1 hn with rfl | hn
   ·rw[ht]at hc
    simpa using hc
   ·exact namesE_all h n hn ht
theorem namesL_all{N:List PNode}{ls:List PLet}:∀ {r:List PLet} {i:Nat},pNamesL N ls i r=none→∀ (k:Nat) (p:PLet),r[k]?=some p→∀ n∈segE N p.val,nameT n.tok.text=true→letIx ls n.tok.text<i+k
 | [],i,_,k,p,hp,_,_,_=>by simp at hp
 | q :: r,i,h,k,p,hp,n,hn,ht=>by
  rw[pNamesL]at h
  split at h
  ·cases h
  ·split at h
   ·cases h
   ·rename_i he
    cases k with
    | zero =>
     have e:q=p:=by simpa using hp
     subst e
     exact namesE_all he n hn ht
    | succ k =>
     have:=namesL_all h k p (by simpa using hp) n hn ht
     omega
theorem namesR_all{N:List PNode}{ls:List PLet}:∀ {r:List PRule},pNamesR N ls r=none→∀ p∈r,∀ n:PNode,n∈segE N p.when∨n∈segE N p.score→nameT n.tok.text=true→letIx ls n.tok.text<ls.length
 | [],_,p,hp,_,_,_=>by cases hp
 | q :: r,h,p,hp,n,hn,ht=>by
  rw[pNamesR]at h
  split at h
  ·cases h
  ·rename_i h1
   split at h
   ·cases h
   ·rename_i h2
    rcases List.mem_cons.1 hp with rfl | hp
    ·rcases hn with hn | hn
     ·exact namesE_all h1 n hn ht
     ·exact namesE_all h2 n hn ht
    ·exact namesR_all h p hp n hn ht
theorem names_ahead{s:Txt}{L R:List RSt}(h:PolicyOf s L R)(hN:(nodesS 0 (L++R)).length≤401)(hn:pNames (nodesS 0 (L++R)) (letsS 0 (L++R)) (rulesS 0 (L++R))=none):NamesAhead (letsS 0 (L++R)) (nodesS 0 (L++R)):=by
 have hf:=fits_of h hN
 have hlen:=nodesS_len (L++R) h.wf 0
 have h1:letsS 0 (L++R)=letsS 0 L:=by rw[letsS_append,lets_none R h.rules,List.append_nil]
 have h2:rulesS 0 (L++R)=rulesS (numS L) R:=by rw[rulesS_append,rules_none L h.lets,List.nil_append,Nat.zero_add]
 have hc:=cons_lets L (fun x hx=>h.wf x (by simp[hx])) h.lets 0
 have he:=end_rules R (fun x hx=>h.wf x (by simp[hx])) h.rules (numS L)
 rw[← h1,Nat.zero_add]at hc
 rw[← h2]at he
 have hlt:=hf.lets hN
 unfold pNames at hn
 split at hn
 ·cases hn
 rename_i hnl
 intro j n hj h0 hk
 have hnm:nameT n.tok.text=true:=(kindOf n.tok.text (hf.x.may n (List.mem_of_getElem? hj))).kname.1 hk
 have hjl:j<(nodesS 0 (L++R)).length:=(List.getElem?_eq_some_iff.1 hj).1
 have key:∀ a,letIx (letsS 0 (L++R)) n.tok.text<a→a≤(letsS 0 (L++R)).length→(∀ p',(letsS 0 (L++R))[letIx (letsS 0 (L++R)) n.tok.text]?=some p'→p'.val.behind≤j)→0≤meantI (letsS 0 (L++R)) n.tok.text∧meantI (letsS 0 (L++R)) n.tok.text<(j:Int):=by
  intro a ha hal hp
  obtain ⟨p',hp'⟩:∃ p',(letsS 0 (L++R))[letIx (letsS 0 (L++R)) n.tok.text]?=some p':=⟨_,List.getElem?_eq_getElem (by omega)⟩
  have hb:=hp p' hp'
  have hb1:=(hlt p' (List.mem_of_getElem? hp')).1
  unfold meantI
  rw[hp']
  simp only
  omega
 by_cases hjL:j<numS L
 ·obtain ⟨k,p,hp,a1,a2⟩:=coverL _ 0 hf.l j (Nat.zero_le _) (by rw[hc.2];exact hjL)
  have hix:=namesL_all hnl k p hp n (seg_mem hj a1 a2) hnm
  rw[Nat.zero_add]at hix
  have hkl:k<(letsS 0 (L++R)).length:=(List.getElem?_eq_some_iff.1 hp).1
  refine key k hix (by omega) fun p' hp'=>?_
  have:=consL_ord _ 0 hf.l k _ p p' hix hp hp'
  omega
 ·have hrc:ConsR (numS L) (rulesS 0 (L++R)):=by have:=hf.r;rw[hc.2]at this;exact this
  obtain ⟨p,hp,hor⟩:=coverR _ (numS L) hrc j (by omega) (by rw[he];rw[hlen,numS_append]at hjl;exact hjl)
  have hix:=namesR_all hn p hp n (by
   rcases hor with ⟨a1,a2⟩ | ⟨a1,a2⟩
   ·exact .inl (seg_mem hj a1 a2)
   ·exact .inr (seg_mem hj a1 a2)) hnm
  refine key _ hix (Nat.le_refl _) fun p' hp'=>?_
  have:=(consL_le _ 0 hf.l _ p' hp').2.2
  rw[hc.2]at this
  omega
end Go.Proofs.YtpcjadaeolkngaaGreatDoor
