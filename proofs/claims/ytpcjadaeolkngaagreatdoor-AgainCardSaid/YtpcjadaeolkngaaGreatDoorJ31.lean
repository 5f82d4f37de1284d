/-
  The image of a policy with which nothing is wrong is one, and ends as its rows say.
-/
import Derived.Test.YtpcjadaeolkngaaGreatDoorJ27
import Derived.Test.YtpcjadaeolkngaaGreatDoorJ30
set_option linter.unusedVariables false
set_option linter.unusedSimpArgs false
namespace Go.Proofs.YtpcjadaeolkngaaGreatDoor
theorem bytesN_low:∀ (n u:Nat),∀ c∈bytesN u n,c<256
 | 0,_,c,h=>by cases h
 | n+1,u,c,h=>by
  rcases List.mem_cons.1 h with rfl | h
  ·omega
  ·exact bytesN_low n _ c h
theorem jumpC_low{k d:Nat}(hk:k<256)(hd:d<65536):∀ c∈jumpC k d,c<256:=by
 intro c hc
 simp only[jumpC,List.mem_cons,List.mem_nil_iff,or_false]at hc
 omega
theorem leafI_low(v:Int):∀ c∈(leafI v).code,c<256:=by
 intro c hc
 rcases List.mem_cons.1 hc with rfl | hc
 ·omega
 ·exact bytesN_low _ _ c hc
theorem opK_low(k o:Nat):opK k o<256:=by unfold opK;(repeat' split) <;> omega
theorem pb_low{ls:List PLet}{N:List PNode}(x:Itm)(y:Bn)(hk:∀ n∈N,kindP n.tok.text≤100):∀ (f:Nat) (i:Int),(pbI (factsP ls N) ls N x y f i).code.length≤60000→∀ c∈(pbI (factsP ls N) ls N x y f i).code,c<256
 | 0,i,_=>leafI_low 0
 | f+1,i,hl=>by
  rw[pbI]at hl ⊢
  cases hn:N[i.toNat]? with
  | none=>exact leafI_low 0
  | some n =>
   rw[hn]at hl
   simp only at hl ⊢
   cases hfa:atF (factsP ls N) i with
   | some v=>exact leafI_low v
   | none =>
    rw[hfa]at hl
    simp only at hl ⊢
    by_cases h1:n.ops=1
    ·rw[if_pos h1]at hl ⊢
     rw[(oneP_code _ _).1]at hl ⊢
     simp only[List.length_append]at hl
     intro c hc
     rcases List.mem_append.1 hc with hc | hc
     ·exact pb_low x y hk f _ (by omega) c hc
     ·rw[List.mem_singleton.1 hc];exact opK_low _ _
    ·rw[if_neg h1]at hl ⊢
     cases hc:isChK (kindP n.tok.text) with
     | true =>
      rw[hc]at hl
      simp only[if_true]at hl ⊢
      rw[(choiceP_code _ _ _ _).1]at hl ⊢
      simp only[choiceC,List.length_append]at hl
      intro c hm
      simp only[choiceC,List.mem_append]at hm
      rcases hm with hm | hm | hm | hm | hm
      ·exact pb_low x y hk f _ (by omega) c hm
      ·exact jumpC_low (by have:=leaK_lt (kindP n.tok.text);omega) (by omega) c hm
      ·exact pb_low x y hk f _ (by omega) c hm
      ·exact jumpC_low (by omega) (by omega) c hm
      ·exact leafI_low _ c hm
     | false =>
      rw[hc]at hl
      simp only[Bool.false_eq_true,if_false]at hl ⊢
      by_cases h2:n.ops=2
      ·rw[if_pos h2]at hl ⊢
       rw[(twoP_code _ _ _).1]at hl ⊢
       simp only[List.length_append]at hl
       intro c hm
       simp only[List.mem_append,List.mem_singleton]at hm
       rcases hm with (hm | hm) | rfl
       ·exact pb_low x y hk f _ (by omega) c hm
       ·exact pb_low x y hk f _ (by omega) c hm
       ·exact opK_low _ _
      ·rw[if_neg h2]at hl ⊢
       by_cases hk2:kindP n.tok.text=2
       ·rw[if_pos hk2]at hl ⊢
        exact pb_low x y hk f _ hl
       ·rw[if_neg hk2]
        have:=hk n (List.mem_of_getElem? hn)
        intro c hm
        simp only[leafA,List.mem_cons,List.mem_nil_iff,or_false]at hm
        omega
section
variable {ls:List PLet} {N:List PNode} {x:Itm} {y:Bn}
theorem act_size(r:PRule):(actC ls N x y r).length≤12*(if r.hs then wtI ls N N.length ((r.score.behind:Int)-1) else 0)+1∧actHi ls N x y r≤(if r.hs then wtI ls N N.length ((r.score.behind:Int)-1) else 0)∧(actR ls N x y r).2.2≤(actC ls N x y r).length:=by
 unfold actC actHi actR rootP
 obtain ⟨a0,a1,a2,a3⟩:=pb_size (ls:=ls) (N:=N) x y N.length ((r.score.behind:Int)-1)
 cases r.hs with
 | true =>
  simp only[if_true,List.length_append,List.length_singleton]
  refine ⟨by omega,a2, ?_⟩
  split <;> simp only <;> omega
 | false =>
  simp
theorem tail_size:∀ (rs:List PRule),(tailC ls N x y rs).length≤13*wtRs ls N rs+1∧tailHi ls N x y rs≤wtRs ls N rs∧(tailR ls N x y rs).2.2≤(tailC ls N x y rs).length
 | []=>by simp[tailC,tailHi,tailR,wtRs]
 | r :: rs=>by
  obtain ⟨i1,i2,i3⟩:=tail_size rs
  obtain ⟨b1,b2,b3⟩:=act_size (ls:=ls) (N:=N) (x:=x) (y:=y) r
  obtain ⟨a0,a1,a2,a3⟩:=pb_size (ls:=ls) (N:=N) x y N.length ((r.when.behind:Int)-1)
  rw[tailC,tailHi,tailR,wtRs,wtR]
  by_cases h2:appliesF (factsP ls N) r=2
  ·rw[if_pos h2,if_pos h2,if_pos h2]
   exact ⟨by omega,by omega,b3⟩
  ·rw[if_neg h2,if_neg h2,if_neg h2]
   by_cases h1:appliesF (factsP ls N) r=1
   ·have hw:=applies_when h1
    have hwp:=wtI_pos ls N N.length ((r.when.behind:Int)-1)
    rw[if_pos h1,if_pos h1,if_pos h1,if_pos hw]
    have ej:(jumpC 14 (actC ls N x y r).length).length=3:=rfl
    simp only[List.length_append,ej]
    unfold rootP
    refine ⟨by omega,by omega, ?_⟩
    split
    ·simp only;omega
    ·split <;> simp only <;> omega
   ·rw[if_neg h1,if_neg h1,if_neg h1]
    exact ⟨by omega,by omega,i3⟩
theorem tail_low(hk:∀ n∈N,kindP n.tok.text≤100):∀ (rs:List PRule),(∀ r∈rs,RuleFit ls N x y r)→∀ c∈tailC ls N x y rs,c<256
 | [],_,c,hc=>by rw[tailC,List.mem_singleton]at hc;omega
 | r :: rs,hf,c,hc=>by
  have hfr:=hf r List.mem_cons_self
  have hal:=actC_len hfr
  have hact:∀ c∈actC ls N x y r,c<256:=by
   intro c hc
   unfold actC at hc
   cases hs:r.hs with
   | true =>
    rw[hs]at hc
    simp only[if_true,List.mem_append,List.mem_singleton]at hc
    rcases hc with hc | rfl
    ·have hl:=hfr.sl hs
     exact pb_low x y hk _ _ (by have h:=hl;unfold rootP at h;omega) c hc
    ·omega
   | false =>
    rw[hs]at hc
    simp only[Bool.false_eq_true,if_false,List.mem_singleton]at hc
    omega
  rw[tailC]at hc
  split at hc
  ·exact hact c hc
  ·split at hc
   ·rename_i h1
    have hl:=hfr.wl (applies_when h1)
    simp only[List.mem_append]at hc
    rcases hc with ((hc | hc) | hc) | hc
    ·exact pb_low x y hk _ _ (by have h:=hl;unfold rootP at h;omega) c hc
    ·exact jumpC_low (by omega) (by omega) c hc
    ·exact hact c hc
    ·exact tail_low hk rs (fun q hq=>hf q (List.mem_cons_of_mem _ hq)) c hc
   ·exact tail_low hk rs (fun q hq=>hf q (List.mem_cons_of_mem _ hq)) c hc
end
theorem wtRs_mem(ls:List PLet)(N:List PNode):∀ (rs:List PRule) (r:PRule),r∈rs→wtR ls N r≤wtRs ls N rs
 | [],r,h=>by cases h
 | q :: rs,r,h=>by
  rw[wtRs]
  rcases List.mem_cons.1 h with rfl | h
  ·omega
  ·have:=wtRs_mem ls N rs r h
   omega
structure ImageOf(N:List PNode)(ls:List PLet)(rs:List PRule)(x:Itm)(y:Bn):Prop where
 len:(rulesH (factsP ls N) ls N rs [] 0).1.length≤60000
 high:(rulesH (factsP ls N) ls N rs [] 0).2<100000
 img:IsImg (bsN (imageC N ls rs))
 run:runM (bsN (imageC N ls rs)) x y ((bsN (imageC N ls rs)).size+1) 3 [] 0=tailR ls N x y rs
theorem policy_image{s:Txt}{L R:List RSt}(h:PolicyOf s L R)(hN:(nodesS 0 (L++R)).length≤401)(he:errsOf (nodesS 0 (L++R)) (letsS 0 (L++R)) (rulesS 0 (L++R))=(0,0)){x:Itm}{y:Bn}(hx:x.Ok)(hy:y.Ok) :
  ImageOf (nodesS 0 (L++R)) (letsS 0 (L++R)) (rulesS 0 (L++R)) x y:=by
 obtain ⟨hR,hT,hK⟩:=truths_ok h hN he x y
 have hok:=policy_ok h hN
 have hw:=rules_wt h hN he
 have hf:=fits_of h hN
 have hl0:LiesAt (nodesS 0 (L++R)) 0 (nodesS 0 (L++R)):=fun k n hk=>by rw[Nat.zero_add];exact hk
 have hrt:=rule_trees (L++R) h.wf 0 hl0
 generalize hNN:nodesS 0 (L++R)=N at *
 generalize hll:letsS 0 (L++R)=ls at *
 generalize hrr:rulesS 0 (L++R)=rs at *
 have hfit:∀ r∈rs,RuleFit ls N x y r:=by
  intro r hr
  obtain ⟨t1,t2,_,_⟩:=hrt r hr
  have hwr:=wtRs_mem ls N rs r hr
  unfold wtR at hwr
  refine ⟨fun hh=>?_,fun hh=>?_,fun hh=>?_,fun hh=>?_⟩
  ·obtain ⟨t,hwt,hbe,_⟩:=t1 hh
   have:=t.num_pos hwt
   exact ⟨by omega,(hf.x.w r hr).lt⟩
  ·obtain ⟨t,hwt,hbe,_⟩:=t2 hh
   have:=t.num_pos hwt
   exact ⟨by omega,(hf.x.s r hr).lt⟩
  ·rw[if_pos hh]at hwr
   obtain ⟨a0,a1,a2,a3⟩:=pb_size (ls:=ls) (N:=N) x y N.length ((r.when.behind:Int)-1)
   unfold rootP
   omega
  ·rw[if_pos hh]at hwr
   obtain ⟨a0,a1,a2,a3⟩:=pb_size (ls:=ls) (N:=N) x y N.length ((r.score.behind:Int)-1)
   unfold rootP
   omega
 obtain ⟨z1,z2,z3⟩:=tail_size (ls:=ls) (N:=N) (x:=x) (y:=y) rs
 have hrl:=rules_pb x y hR rs hfit [] 0
 rw[List.nil_append,Nat.zero_max]at hrl
 have him:imageC N ls rs=imgC (tailHi ls N x y rs) (tailC ls N x y rs):=by
  unfold imageC
  rw[hrl]
  simp only
  rw[Nat.mod_eq_of_lt (by omega)]
 have hsm:∀ c∈imgC (tailHi ls N x y rs) (tailC ls N x y rs),c<256:=by
  intro c hc
  simp only[imgC,List.mem_cons]at hc
  rcases hc with rfl | rfl | rfl | hc
  ·omega
  ·omega
  ·omega
  ·exact tail_low hok.kd rs hfit c hc
 have hsit:=sits_bsN2 _ hsm
 obtain ⟨b0,b1,b2,hc⟩:=hsit.img
 have hz:(bsN (imgC (tailHi ls N x y rs) (tailC ls N x y rs))).size=(tailC ls N x y rs).length+3:=by rw[bsN_len];simp[imgC]
 obtain ⟨⟨l,H,tl⟩,en⟩:=rules_tail hx hy hok.fi hR rs hfit 3 hc
 have hlt:=tl.lt
 refine ⟨by rw[hrl];simp only;omega,by rw[hrl];simp only;omega, ?_, ?_⟩
 ·rw[him]
  refine ⟨⟨by omega,by omega,b0,b1⟩,l, ?_,H, ?_⟩
  ·rw[hz,Nat.add_comm];exact tl.chain
  ·exact tl.lawful (by rw[b2];exact Int.le_refl _)
 ·rw[him]
  have:=en ((bsN (imgC (tailHi ls N x y rs) (tailC ls N x y rs))).size+1) 0 (by omega)
  rw[this,Nat.zero_add]
theorem item_one:(⟨1,0,0⟩:Itm).Ok:=by unfold Itm.Ok;simp
theorem bin_one:(⟨0,0,1,0,0⟩:Bn).Ok:=by unfold Bn.Ok;simp
theorem known_of{s:Txt}{L R:List RSt}(h:PolicyOf s L R)(hN:(nodesS 0 (L++R)).length≤401)(he:errsOf (nodesS 0 (L++R)) (letsS 0 (L++R)) (rulesS 0 (L++R))=(0,0)):KnownP s (nodesS 0 (L++R)) (letsS 0 (L++R)) (rulesS 0 (L++R)):=by
 have hi:=policy_image h hN he item_one bin_one
 exact ⟨⟨L,R,h,rfl,rfl,rfl⟩,he,hi.len,hi.high⟩
open Go.Deep
structure Wo where
 v:Int
 flt:Nat
 steps:Nat
 fix:Bool
def settleW(w:Wo):Wo:=if w.fix=true∧w.flt=0 then { w with steps:=1 } else w
def oneW(k:Nat)(p:Wo):Wo :=
 if p.flt≠0 then ⟨0,p.flt,p.steps,p.fix⟩
 else settleW ⟨(oneN (opK k 1) p.v).1,(oneN (opK k 1) p.v).2,p.steps+1,p.fix⟩
def twoW(k:Nat)(p q:Wo):Wo :=
 if p.flt≠0 then ⟨0,p.flt,p.steps,p.fix&&q.fix⟩
 else if q.flt≠0 then ⟨0,q.flt,p.steps+q.steps,p.fix&&q.fix⟩
 else settleW ⟨(joinN (opK k 2) p.v q.v).1,(joinN (opK k 2) p.v q.v).2,p.steps+q.steps+1,p.fix&&q.fix⟩
def choW(k:Nat)(p q:Wo):Wo :=
 if p.flt≠0 then ⟨0,p.flt,p.steps,p.fix&&q.fix⟩
 else if p.v=decK k then settleW ⟨decK k,0,p.steps+2,p.fix&&q.fix⟩
 else if q.flt≠0 then ⟨0,q.flt,p.steps+1+q.steps,p.fix&&q.fix⟩
 else settleW ⟨q.v,0,p.steps+1+q.steps+1,p.fix&&q.fix⟩
def binW(k:Nat)(p q:Wo):Wo:=if isChK k then choW k p q else twoW k p q
def leafW(env:Txt→Wo)(x:Itm)(y:Bn)(a:RTok):Wo :=
 if kindP a.text=2 then env a.text
 else match singleF a with
  | some v=>⟨v,0,1,true⟩
  | none=>⟨attrN (kindP a.text-15:Nat) x y,0,1,false⟩
def worB(env:Txt→Wo)(x:Itm)(y:Bn):BT (RTok×RTok)→Wo
 | .nil=>⟨0,0,1,true⟩
 | .node 0 _ a _ _=>leafW env x y a.1
 | .node 1 _ a e _=>oneW (kindP a.1.text) (worB env x y e)
 | .node 2 _ a l r=>binW (kindP a.1.text) (worB env x y l) (worB env x y r)
 | .node _ _ a e _=>worB env x y e
def Tr.wor(env:Txt→Wo)(x:Itm)(y:Bn)(t:Tr):Wo:=worB env x y t
theorem Tr.wor_leaf(env:Txt→Wo)(x:Itm)(y:Bn)(t:RTok):(Tr.leaf t).wor env x y=leafW env x y t:=rfl
theorem Tr.wor_un(env:Txt→Wo)(x:Itm)(y:Bn)(op:RTok)(e:Tr):(Tr.un op e).wor env x y=oneW (kindP op.text) (e.wor env x y):=rfl
theorem Tr.wor_bin(env:Txt→Wo)(x:Itm)(y:Bn)(op:RTok)(l r:Tr):(Tr.bin op l r).wor env x y=binW (kindP op.text) (l.wor env x y) (r.wor env x y):=rfl
theorem Tr.wor_par(env:Txt→Wo)(x:Itm)(y:Bn)(o:RTok)(e:Tr)(c:RTok):(Tr.par o e c).wor env x y=e.wor env x y:=rfl
structure RootW(ls:List PLet)(N:List PNode)(x:Itm)(y:Bn)(i:Nat)(w:Wo):Prop where
 ev:∀ f,i<f→evI ls N x y f (i:Int)=(w.v,w.flt)
 known:w.fix=true→w.flt=0→atF (factsP ls N) (i:Int)=some w.v
 steps:∀ f,i<f→(pbI (factsP ls N) ls N x y f (i:Int)).steps≤w.steps
 pos:1≤w.steps
 nul:w.flt≠0→w.v=0
theorem pbI_at{fs:List Fact}{ls:List PLet}{N:List PNode}{x:Itm}{y:Bn}{f i:Nat}{n:PNode}(hn:N[i]?=some n):pbI fs ls N x y (f+1) (i:Int)=match atF fs (i:Int) with
   | some v=>leafI v
   | none =>
    if n.ops=1 then oneP (opK (kindP n.tok.text) n.ops) (pbI fs ls N x y f n.left)
    else if isChK (kindP n.tok.text) then choiceP (leaK (kindP n.tok.text)) (pbI fs ls N x y f n.left) (pbI fs ls N x y f n.right) (leafI (decK (kindP n.tok.text)))
    else if n.ops=2 then twoP (opK (kindP n.tok.text) n.ops) (pbI fs ls N x y f n.left) (pbI fs ls N x y f n.right)
    else if kindP n.tok.text=2 then pbI fs ls N x y f (meantI ls n.tok.text)
    else leafA (kindP n.tok.text-15) x y:=by
 rw[pbI]
 simp only[Int.toNat_natCast,hn]
 first | done | (cases atF fs (i:Int) <;> rfl)
theorem settle_eq(w:Wo):(settleW w).v=w.v∧(settleW w).flt=w.flt∧(settleW w).fix=w.fix∧(settleW w).steps=(if w.fix=true∧w.flt=0 then 1 else w.steps):=by
 unfold settleW
 split <;> exact ⟨rfl,rfl,rfl,rfl⟩
theorem exact_nul(v:Int)(h:(exact64 v).2≠0):(exact64 v).1=0:=by
 unfold exact64 at h ⊢
 by_cases hv:In64 v
 ·rw[if_pos hv]at h;exact absurd rfl h
 ·rw[if_neg hv]
theorem joinN_nul(c:Nat)(a b:Int)(h:(joinN c a b).2≠0):(joinN c a b).1=0:=by
 unfold joinN at h ⊢
 repeat' split
 all_goals first | rfl | (simp only[*,if_true,if_false]at h;first | exact exact_nul _ h | exact absurd rfl h)
theorem oneN_nul(c:Nat)(a:Int)(h:(oneN c a).2≠0):(oneN c a).1=0:=by
 unfold oneN at h ⊢
 by_cases hc:c=2
 ·rw[if_pos hc]at h ⊢;exact exact_nul _ h
 ·rw[if_neg hc]at h;exact absurd rfl h
theorem rootW_of{ls:List PLet}{N:List PNode}{x:Itm}{y:Bn}{i:Nat}{w:Wo}(ev:∀ f,i<f→evI ls N x y f (i:Int)=(w.v,w.flt))(known:w.fix=true→w.flt=0→atF (factsP ls N) (i:Int)=some w.v)(pos:1≤w.steps)(nul:w.flt≠0→w.v=0)
  {n:PNode} (hn:N[i]?=some n) (steps:atF (factsP ls N) (i:Int)=none→∀ f,i<f+1→(pbI (factsP ls N) ls N x y (f+1) (i:Int)).steps≤w.steps):RootW ls N x y i w:=by
 refine ⟨ev,known,fun f hf=>?_,pos,nul⟩
 obtain ⟨g,rfl⟩:∃ g,f=g+1:=⟨f-1,by omega⟩
 cases hfa:atF (factsP ls N) (i:Int) with
 | some v=>rw[pbI_at hn,hfa];exact pos
 | none=>exact steps hfa g hf
section
variable {ls:List PLet} {N:List PNode} {x:Itm} {y:Bn}
theorem root_one(hR:RefsOk ls (factsP ls N) N)(hT:TruthsOk ls N x y){i:Nat}{n:PNode}(hn:N[i]?=some n)(h1:n.ops=1){p:Wo}(hp:RootW ls N x y n.left p):RootW ls N x y i (oneW (kindP n.tok.text) p):=by
 obtain ⟨hok,hrf⟩:=hR i n hn
 have hl:=hrf.one h1
 have hlt:=(List.getElem?_eq_some_iff.1 hn).1
 obtain ⟨hfa,hpre⟩:=facts_at ls N i n hn
 unfold factN at hfa
 rw[if_pos h1,hpre _ (by omega)]at hfa
 by_cases hf:p.flt=0
 ·have e:oneW (kindP n.tok.text) p=settleW ⟨(oneN (opK (kindP n.tok.text) 1) p.v).1,(oneN (opK (kindP n.tok.text) 1) p.v).2,p.steps+1,p.fix⟩:=by unfold oneW;rw[if_neg (by omega)]
  rw[e]
  obtain ⟨s1,s2,s3,s4⟩:=settle_eq ⟨(oneN (opK (kindP n.tok.text) 1) p.v).1,(oneN (opK (kindP n.tok.text) 1) p.v).2,p.steps+1,p.fix⟩
  have kn:p.fix=true→(oneN (opK (kindP n.tok.text) 1) p.v).2=0→atF (factsP ls N) (i:Int)=some (oneN (opK (kindP n.tok.text) 1) p.v).1:=by
   intro a b
   rw[hfa,hp.known a hf,h1]
   simp only[oneF]
   rw[if_pos b]
  refine rootW_of (fun f hif=>?_) (fun a b=>?_) ?_ (fun a=>?_) hn (fun hno f hif=>?_)
  ·obtain ⟨g,rfl⟩:∃ g,f=g+1:=⟨f-1,by omega⟩
   rw[evI_at hn,if_pos h1,hp.ev g (by omega),s1,s2]
   simp only[hf,ne_eq,not_true_eq_false,if_false,h1]
  ·rw[s3]at a;rw[s2]at b;rw[s1];exact kn a b
  ·rw[s4];split <;> first | omega | (simp only;omega)
  ·rw[s2]at a;rw[s1];exact oneN_nul _ _ a
  ·rw[s4,pbI_at hn,hno]
   simp only
   rw[if_pos h1,if_neg (fun hh=>by rw[kn hh.1 hh.2]at hno;cases hno)]
   have:=oneP_steps (opK (kindP n.tok.text) n.ops) (pbI (factsP ls N) ls N x y f n.left)
   have:=hp.steps f (by omega)
   simp only at *
   omega
 ·have e:oneW (kindP n.tok.text) p=⟨0,p.flt,p.steps,p.fix⟩:=by unfold oneW;rw[if_pos hf]
  rw[e]
  refine rootW_of (fun f hif=>?_) (fun a b=>(hf b).elim) hp.pos (fun a=>rfl) hn (fun hno f hif=>?_)
  ·obtain ⟨g,rfl⟩:∃ g,f=g+1:=⟨f-1,by omega⟩
   rw[evI_at hn,if_pos h1,hp.ev g (by omega)]
   simp only[ne_eq,hf,not_false_eq_true,if_true]
  ·rw[pbI_at hn,hno]
   simp only
   rw[if_pos h1]
   have e1:=(pb_ev x y hR hT f n.left (by omega) (by omega)).1
   rw[hp.ev f (by omega)]at e1
   unfold oneP
   rw[if_pos (by rw[e1];exact hf)]
   exact hp.steps f (by omega)
theorem root_two(hR:RefsOk ls (factsP ls N) N)(hT:TruthsOk ls N x y){i:Nat}{n:PNode}(hn:N[i]?=some n)(h2:n.ops=2)(hc:isChK (kindP n.tok.text)=false){p q:Wo}(hp:RootW ls N x y n.left p)(hq:RootW ls N x y n.right q):RootW ls N x y i (twoW (kindP n.tok.text) p q):=by
 obtain ⟨hok,hrf⟩:=hR i n hn
 have h1:n.ops≠1:=by omega
 obtain ⟨hl,hr⟩:=hrf.two h1 (.inr h2)
 have hlt:=(List.getElem?_eq_some_iff.1 hn).1
 obtain ⟨hfa,hpre⟩:=facts_at ls N i n hn
 unfold factN at hfa
 rw[if_neg h1,hc]at hfa
 simp only[Bool.false_eq_true,if_false]at hfa
 rw[if_pos h2,hpre _ (by omega),hpre _ (by omega)]at hfa
 have hev:∀ f,evI ls N x y (f+1) (i:Int)=(if (evI ls N x y f n.left).2≠0 then (0,(evI ls N x y f n.left).2) else if (evI ls N x y f n.right).2≠0 then (0,(evI ls N x y f n.right).2) else joinN (opK (kindP n.tok.text) n.ops) (evI ls N x y f n.left).1 (evI ls N x y f n.right).1):=by
  intro f
  rw[evI_at hn,if_neg h1,hc]
  simp only[Bool.false_eq_true,if_false]
  rw[if_pos h2]
 have hpb:atF (factsP ls N) (i:Int)=none→∀ f,pbI (factsP ls N) ls N x y (f+1) (i:Int)=twoP (opK (kindP n.tok.text) n.ops) (pbI (factsP ls N) ls N x y f n.left) (pbI (factsP ls N) ls N x y f n.right):=by
  intro hno f
  rw[pbI_at hn,hno]
  simp only
  rw[if_neg h1,hc]
  simp only[Bool.false_eq_true,if_false]
  rw[if_pos h2]
 by_cases hf:p.flt=0
 ·by_cases hg:q.flt=0
  ·have e:twoW (kindP n.tok.text) p q=settleW ⟨(joinN (opK (kindP n.tok.text) 2) p.v q.v).1,(joinN (opK (kindP n.tok.text) 2) p.v q.v).2,p.steps+q.steps+1,p.fix&&q.fix⟩:=by unfold twoW;rw[if_neg (by omega),if_neg (by omega)]
   rw[e]
   obtain ⟨s1,s2,s3,s4⟩:=settle_eq ⟨(joinN (opK (kindP n.tok.text) 2) p.v q.v).1,(joinN (opK (kindP n.tok.text) 2) p.v q.v).2,p.steps+q.steps+1,p.fix&&q.fix⟩
   have kn:(p.fix&&q.fix)=true→(joinN (opK (kindP n.tok.text) 2) p.v q.v).2=0→atF (factsP ls N) (i:Int)=some (joinN (opK (kindP n.tok.text) 2) p.v q.v).1:=by
    intro a b
    rw[Bool.and_eq_true]at a
    rw[hfa,hp.known a.1 hf,hq.known a.2 hg,h2]
    simp only[twoF]
    rw[if_pos b]
   refine rootW_of (fun f hif=>?_) (fun a b=>?_) ?_ (fun a=>?_) hn (fun hno f hif=>?_)
   ·obtain ⟨g,rfl⟩:∃ g,f=g+1:=⟨f-1,by omega⟩
    rw[hev,hp.ev g (by omega),hq.ev g (by omega),s1,s2]
    simp only[hf,hg,ne_eq,not_true_eq_false,if_false,h2]
   ·rw[s3]at a;rw[s2]at b;rw[s1];exact kn a b
   ·rw[s4];split <;> first | omega | (simp only;omega)
   ·rw[s2]at a;rw[s1];exact joinN_nul _ _ _ a
   ·rw[s4,hpb hno,if_neg (fun hh=>by rw[kn hh.1 hh.2]at hno;cases hno)]
    have:=twoP_steps (opK (kindP n.tok.text) n.ops) (pbI (factsP ls N) ls N x y f n.left) (pbI (factsP ls N) ls N x y f n.right)
    have:=hp.steps f (by omega)
    have:=hq.steps f (by omega)
    simp only at *
    omega
  ·have e:twoW (kindP n.tok.text) p q=⟨0,q.flt,p.steps+q.steps,p.fix&&q.fix⟩:=by unfold twoW;rw[if_neg (by omega),if_pos hg]
   rw[e]
   have:=hp.pos
   refine rootW_of (fun f hif=>?_) (fun a b=>(hg b).elim) (by simp only;omega) (fun a=>rfl) hn (fun hno f hif=>?_)
   ·obtain ⟨g,rfl⟩:∃ g,f=g+1:=⟨f-1,by omega⟩
    rw[hev,hp.ev g (by omega),hq.ev g (by omega)]
    simp only[hf,hg,ne_eq,not_true_eq_false,not_false_eq_true,if_false,if_true]
   ·rw[hpb hno]
    have e1:=(pb_ev x y hR hT f n.left (by omega) (by omega)).1
    have e2:=(pb_ev x y hR hT f n.right (by omega) (by omega)).1
    rw[hp.ev f (by omega)]at e1
    rw[hq.ev f (by omega)]at e2
    unfold twoP
    rw[if_neg (by rw[e1];simp only;omega),if_pos (by rw[e2];exact hg)]
    have:=hp.steps f (by omega)
    have:=hq.steps f (by omega)
    simp only at *
    omega
 ·have e:twoW (kindP n.tok.text) p q=⟨0,p.flt,p.steps,p.fix&&q.fix⟩:=by unfold twoW;rw[if_pos hf]
  rw[e]
  refine rootW_of (fun f hif=>?_) (fun a b=>(hf b).elim) hp.pos (fun a=>rfl) hn (fun hno f hif=>?_)
  ·obtain ⟨g,rfl⟩:∃ g,f=g+1:=⟨f-1,by omega⟩
   rw[hev,hp.ev g (by omega)]
   simp only[ne_eq,hf,not_false_eq_true,if_true]
  ·rw[hpb hno]
   have e1:=(pb_ev x y hR hT f n.left (by omega) (by omega)).1
   rw[hp.ev f (by omega)]at e1
   unfold twoP
   rw[if_pos (by rw[e1];exact hf)]
   exact hp.steps f (by omega)
theorem root_cho(hR:RefsOk ls (factsP ls N) N)(hT:TruthsOk ls N x y){i:Nat}{n:PNode}(hn:N[i]?=some n)(h2:n.ops=2)(hc:isChK (kindP n.tok.text)=true){p q:Wo}(hp:RootW ls N x y n.left p)(hq:RootW ls N x y n.right q):RootW ls N x y i (choW (kindP n.tok.text) p q):=by
 obtain ⟨hok,hrf⟩:=hR i n hn
 have h1:n.ops≠1:=by omega
 obtain ⟨hl,hr⟩:=hrf.two h1 (.inl hc)
 have hlt:=(List.getElem?_eq_some_iff.1 hn).1
 obtain ⟨hfa,hpre⟩:=facts_at ls N i n hn
 unfold factN at hfa
 rw[if_neg h1,hc,if_pos rfl,hpre _ (by omega),hpre _ (by omega)]at hfa
 have hev:∀ f,evI ls N x y (f+1) (i:Int)=(if (evI ls N x y f n.left).2≠0 then (0,(evI ls N x y f n.left).2) else if (evI ls N x y f n.left).1=decK (kindP n.tok.text) then (decK (kindP n.tok.text),0) else evI ls N x y f n.right):=by
  intro f
  rw[evI_at hn,if_neg h1,hc,if_pos rfl]
 have hpb:atF (factsP ls N) (i:Int)=none→∀ f,pbI (factsP ls N) ls N x y (f+1) (i:Int)=choiceP (leaK (kindP n.tok.text)) (pbI (factsP ls N) ls N x y f n.left) (pbI (factsP ls N) ls N x y f n.right) (leafI (decK (kindP n.tok.text))):=by
  intro hno f
  rw[pbI_at hn,hno]
  simp only
  rw[if_neg h1,hc,if_pos rfl]
 by_cases hf:p.flt=0
 ·have htr:p.v=0∨p.v=1:=by
   have:=hT i n hn h1 hc (n.left+1) (by omega)
   rw[hp.ev _ (by omega)]at this
   exact this hf
  have hdec:(decide (p.v≠0)=decide (leaK (kindP n.tok.text)=15))↔p.v=decK (kindP n.tok.text):=by
   rcases isCh_cases hc with hk | hk <;> rw[hk] <;> rcases htr with hv | hv <;> rw[hv] <;> simp[leaK,decK]
  by_cases hd:p.v=decK (kindP n.tok.text)
  ·have e:choW (kindP n.tok.text) p q=settleW ⟨decK (kindP n.tok.text),0,p.steps+2,p.fix&&q.fix⟩:=by unfold choW;rw[if_neg (by omega),if_pos hd]
   rw[e]
   obtain ⟨s1,s2,s3,s4⟩:=settle_eq ⟨decK (kindP n.tok.text),0,p.steps+2,p.fix&&q.fix⟩
   have kn:(p.fix&&q.fix)=true→atF (factsP ls N) (i:Int)=some (decK (kindP n.tok.text)):=by
    intro a
    rw[Bool.and_eq_true]at a
    rw[hfa,hp.known a.1 hf]
    simp only[choiceF]
    rw[if_pos hd,hd]
   refine rootW_of (fun f hif=>?_) (fun a b=>?_) ?_ (fun a=>?_) hn (fun hno f hif=>?_)
   ·obtain ⟨g,rfl⟩:∃ g,f=g+1:=⟨f-1,by omega⟩
    rw[hev,hp.ev g (by omega),s1,s2]
    simp only[hf,ne_eq,not_true_eq_false,if_false,hd,if_true]
   ·rw[s3]at a;rw[s1];exact kn a
   ·rw[s4];split <;> first | omega | (simp only;omega)
   ·rw[s2]at a;exact absurd rfl a
   ·rw[s4,hpb hno,if_neg (fun hh=>by rw[kn hh.1]at hno;cases hno)]
    obtain ⟨e1,e3⟩:=pb_ev x y hR hT f n.left (by omega) (by omega)
    rw[hp.ev f (by omega)]at e1 e3
    unfold choiceP
    rw[if_neg (by rw[e1];simp only;omega),if_pos (by rw[e3 hf];exact hdec.2 hd)]
    have:=hp.steps f (by omega)
    simp only[leafI]at *
    omega
  ·by_cases hg:q.flt=0
   ·have e:choW (kindP n.tok.text) p q=settleW ⟨q.v,0,p.steps+1+q.steps+1,p.fix&&q.fix⟩:=by unfold choW;rw[if_neg (by omega),if_neg hd,if_neg (by omega)]
    rw[e]
    obtain ⟨s1,s2,s3,s4⟩:=settle_eq ⟨q.v,0,p.steps+1+q.steps+1,p.fix&&q.fix⟩
    have kn:(p.fix&&q.fix)=true→atF (factsP ls N) (i:Int)=some q.v:=by
     intro a
     rw[Bool.and_eq_true]at a
     rw[hfa,hp.known a.1 hf,hq.known a.2 hg]
     simp only[choiceF]
     rw[if_neg hd]
    refine rootW_of (fun f hif=>?_) (fun a b=>?_) ?_ (fun a=>?_) hn (fun hno f hif=>?_)
    ·obtain ⟨g,rfl⟩:∃ g,f=g+1:=⟨f-1,by omega⟩
     rw[hev,hp.ev g (by omega),hq.ev g (by omega),s1,s2]
     simp only[hf,hg,ne_eq,not_true_eq_false,if_false]
     rw[if_neg hd]
    ·rw[s3]at a;rw[s1];exact kn a
    ·rw[s4];split <;> first | omega | (simp only;omega)
    ·rw[s2]at a;exact absurd rfl a
    ·rw[s4,hpb hno,if_neg (fun hh=>by rw[kn hh.1]at hno;cases hno)]
     obtain ⟨e1,e3⟩:=pb_ev x y hR hT f n.left (by omega) (by omega)
     obtain ⟨e2,e4⟩:=pb_ev x y hR hT f n.right (by omega) (by omega)
     rw[hp.ev f (by omega)]at e1 e3
     rw[hq.ev f (by omega)]at e2 e4
     unfold choiceP
     rw[if_neg (by rw[e1];simp only;omega),if_neg (by rw[e3 hf];exact fun hh=>hd (hdec.1 hh)),if_pos (by rw[e2];exact hg)]
     have:=hp.steps f (by omega)
     have:=hq.steps f (by omega)
     simp only at *
     omega
   ·have e:choW (kindP n.tok.text) p q=⟨0,q.flt,p.steps+1+q.steps,p.fix&&q.fix⟩:=by unfold choW;rw[if_neg (by omega),if_neg hd,if_pos hg]
    rw[e]
    refine rootW_of (fun f hif=>?_) (fun a b=>(hg b).elim) (by simp only;omega) (fun a=>rfl) hn (fun hno f hif=>?_)
    ·obtain ⟨g,rfl⟩:∃ g,f=g+1:=⟨f-1,by omega⟩
     rw[hev,hp.ev g (by omega),hq.ev g (by omega)]
     simp only[hf,hg,ne_eq,not_true_eq_false,if_false]
     rw[if_neg hd,hq.nul hg]
    ·rw[hpb hno]
     obtain ⟨e1,e3⟩:=pb_ev x y hR hT f n.left (by omega) (by omega)
     obtain ⟨e2,e4⟩:=pb_ev x y hR hT f n.right (by omega) (by omega)
     rw[hp.ev f (by omega)]at e1 e3
     rw[hq.ev f (by omega)]at e2 e4
     unfold choiceP
     rw[if_neg (by rw[e1];simp only;omega),if_neg (by rw[e3 hf];exact fun hh=>hd (hdec.1 hh)),if_neg (by rw[e2];exact hg)]
     have:=hp.steps f (by omega)
     have:=hq.steps f (by omega)
     simp only at *
     omega
 ·have e:choW (kindP n.tok.text) p q=⟨0,p.flt,p.steps,p.fix&&q.fix⟩:=by unfold choW;rw[if_pos hf]
  rw[e]
  refine rootW_of (fun f hif=>?_) (fun a b=>(hf b).elim) hp.pos (fun a=>rfl) hn (fun hno f hif=>?_)
  ·obtain ⟨g,rfl⟩:∃ g,f=g+1:=⟨f-1,by omega⟩
   rw[hev,hp.ev g (by omega)]
   simp only[ne_eq,hf,not_false_eq_true,if_true]
  ·rw[hpb hno]
   have e1:=(pb_ev x y hR hT f n.left (by omega) (by omega)).1
   rw[hp.ev f (by omega)]at e1
   unfold choiceP
   rw[if_pos (by rw[e1];exact hf)]
   exact hp.steps f (by omega)
theorem root_leaf(hR:RefsOk ls (factsP ls N) N){i:Nat}{n:PNode}(hn:N[i]?=some n)(h0:n.ops=0)(hc:isChK (kindP n.tok.text)=false)(env:Txt→Wo)(he:kindP n.tok.text=2→RootW ls N x y (meantI ls n.tok.text).toNat (env n.tok.text)):RootW ls N x y i (leafW env x y n.tok):=by
 obtain ⟨hok,hrf⟩:=hR i n hn
 have hlt:=(List.getElem?_eq_some_iff.1 hn).1
 obtain ⟨hfa,hpre⟩:=facts_at ls N i n hn
 unfold factN at hfa
 rw[if_neg (by omega),hc]at hfa
 simp only[Bool.false_eq_true,if_false]at hfa
 rw[if_neg (by omega)]at hfa
 unfold leafW
 by_cases hk:kindP n.tok.text=2
 ·rw[if_pos hk]
  rw[if_pos hk]at hfa
  obtain ⟨m0,m1⟩:=hrf.nam h0 hc hk
  have hp:=he hk
  have hm:((meantI ls n.tok.text).toNat:Int)=meantI ls n.tok.text:=by omega
  rw[hpre _ m1]at hfa
  refine rootW_of (fun f hif=>?_) (fun a b=>?_) hp.pos hp.nul hn (fun hno f hif=>?_)
  ·obtain ⟨g,rfl⟩:∃ g,f=g+1:=⟨f-1,by omega⟩
   rw[evI_at hn,if_neg (by omega),hc]
   simp only[Bool.false_eq_true,if_false]
   rw[if_neg (by omega),if_pos hk,← hm]
   exact hp.ev g (by omega)
  ·rw[hfa,← hm];exact hp.known a b
  ·rw[pbI_at hn,hno]
   simp only
   rw[if_neg (by omega),hc]
   simp only[Bool.false_eq_true,if_false]
   rw[if_neg (by omega),if_pos hk,← hm]
   exact hp.steps f (by omega)
 ·rw[if_neg hk]
  rw[if_neg hk]at hfa
  cases hs:singleF n.tok with
  | some v =>
   rw[hs]at hfa
   refine rootW_of (fun f hif=>?_) (fun a b=>hfa) (Nat.le_refl _) (fun a=>absurd rfl a) hn (fun hno f hif=>?_)
   ·obtain ⟨g,rfl⟩:∃ g,f=g+1:=⟨f-1,by omega⟩
    rw[evI_at hn,if_neg (by omega),hc]
    simp only[Bool.false_eq_true,if_false]
    rw[if_neg (by omega),if_neg hk,hs]
   ·rw[hfa]at hno;cases hno
  | none =>
   refine rootW_of (fun f hif=>?_) (fun a b=>by cases a) (Nat.le_refl _) (fun a=>absurd rfl a) hn (fun hno f hif=>?_)
   ·obtain ⟨g,rfl⟩:∃ g,f=g+1:=⟨f-1,by omega⟩
    rw[evI_at hn,if_neg (by omega),hc]
    simp only[Bool.false_eq_true,if_false]
    rw[if_neg (by omega),if_neg hk,hs]
   ·rw[pbI_at hn,hno]
    simp only
    rw[if_neg (by omega),hc]
    simp only[Bool.false_eq_true,if_false]
    rw[if_neg (by omega),if_neg hk]
    exact Nat.le_refl _
end
theorem tree_w{ls:List PLet}{N:List PNode}{x:Itm}{y:Bn}(hR:RefsOk ls (factsP ls N) N)(hT:TruthsOk ls N x y)(hm:∀ n∈N,mayT n.tok.text=true)(env:Txt→Wo)(t:Tr)(h:t.wf):∀ b,LiesAt N b (t.flat b) →
  (∀ n∈t.flat b,n.ops=0→kindP n.tok.text=2→RootW ls N x y (meantI ls n.tok.text).toNat (env n.tok.text))→RootW ls N x y (b+t.num-1) (t.wor env x y):=by
 refine Tr.ind (P:=fun t=>∀ b,LiesAt N b (t.flat b)→(∀ n∈t.flat b,n.ops=0→kindP n.tok.text=2→RootW ls N x y (meantI ls n.tok.text).toNat (env n.tok.text))→RootW ls N x y (b+t.num-1) (t.wor env x y)) t h ?_ ?_ ?_ ?_
 ·intro a ha b hl he
  rw[Tr.flat_leaf]at hl he
  rw[Tr.num_leaf,Nat.add_sub_cancel,Tr.wor_leaf]
  have hn:N[b]?=some ⟨a,0,0,0⟩:=hl 0 _ rfl
  have hcf:isChK (kindP a.text)=false:=by
   have K:=kindOf a.text (hm _ (List.mem_of_getElem? hn))
   have hsg:=(Tr.wf_leaf ha).1
   rw[← K.single]at hsg
   cases hc:isChK (kindP a.text) with
   | false=>rfl
   | true=>rcases isCh_cases hc with hk | hk <;> rw[hk]at hsg <;> exact absurd hsg (by decide)
  exact root_leaf hR hn rfl hcf env (fun hk=>he _ List.mem_cons_self rfl hk)
 ·intro op e hw ih b hl he
  rw[Tr.flat_un]at hl he
  have hwe:=(Tr.wf_un hw).2.2
  have hlen:=e.flat_len hwe b
  have hp:=e.num_pos hwe
  have hn:=hl.right 0 _ rfl
  rw[hlen,Nat.add_zero]at hn
  rw[Tr.num_un,Tr.wor_un,show b+(e.num+1)-1=b+e.num by omega]
  exact root_one hR hT hn rfl (ih b hl.left (fun n hn=>he n (List.mem_append_left _ hn)))
 ·intro op l r hw ihl ihr b hl he
  rw[Tr.flat_bin]at hl he
  obtain ⟨hb,_,_,_,_,hwl,hwr⟩:=Tr.wf_bin hw
  have hlen:=l.flat_len hwl b
  have hlen2:=r.flat_len hwr (b+l.num)
  have hpl:=l.num_pos hwl
  have hpr:=r.num_pos hwr
  have hn:=hl.right 0 _ rfl
  rw[List.length_append,hlen,hlen2,Nat.add_zero]at hn
  have hL:=ihl b hl.left.left (fun n hn=>he n (List.mem_append_left _ (List.mem_append_left _ hn)))
  have hRr:=hl.left.right
  rw[hlen]at hRr
  have hQ:=ihr (b+l.num) hRr (fun n hn=>he n (List.mem_append_left _ (List.mem_append_right _ hn)))
  rw[Tr.num_bin,Tr.wor_bin,show b+(l.num+r.num+1)-1=b+(l.num+r.num) by omega]
  unfold binW
  cases hc:isChK (kindP op.text) with
  | true=>exact root_cho hR hT hn rfl hc hL hQ
  | false=>exact root_two hR hT hn rfl hc hL hQ
 ·intro o e c hw ih b hl he
  rw[Tr.flat_par]at hl he
  rw[Tr.num_par,Tr.wor_par]
  exact ih b hl he
end Go.Proofs.YtpcjadaeolkngaaGreatDoor
