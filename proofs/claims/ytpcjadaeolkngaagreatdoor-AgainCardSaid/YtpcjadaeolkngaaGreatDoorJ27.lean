/-
  Rows of an image that end by themselves: a Reject; a piece and a Score; a piece, a jump over such a row, and another.
-/
import Derived.Test.YtpcjadaeolkngaaGreatDoorJ26
import Derived.Test.YtpcjadaeolkngaaGreatDoorJ24
import Derived.Deep.RegionWith
import Derived.Deep.DeepCutAuto
import Derived.Test.YtpcjadaeolkngaaGreatDoorProg
import Derived.Test.YtpcjadaeolkngaaGreatDoorJ06
import Derived.Test.YtpcjadaeolkngaaGreatDoorJ04
import Derived.WalkLawsBesides
import Derived.Deep.QuietTactic
import Derived.BigQuiet
import Derived.Deep.Light
import Derived.Test.YtpcjadaeolkngaaGreatDoorJ00
import Derived.Test.YtpcjadaeolkngaaGreatDoorJ05
import Derived.Laws.BitsAllLaws
set_option linter.unusedVariables false
set_option linter.unusedSimpArgs false
namespace Go.Proofs.YtpcjadaeolkngaaGreatDoor
structure Tail(s:ByteArray)(p q:Nat)(hi:Int)(l:List Ins)(H:Nat→Int):Prop where
 chain:Chain s p l q
 start:H p=0
 lt:p<q
 ops:∀ o∈l,(takesN o.op:Int)≤H o.pos∧H o.pos≤hi∧∀ r,Flows o r→(∃ o'∈l,o'.pos=r)∧H r=H o.pos-takesN o.op+laysN o.op
 reach:∀ o∈l,o.pos=p∨∃ o'∈l,Flows o' o.pos
theorem Tail.first{s:ByteArray}{p q:Nat}{hi:Int}{l:List Ins}{H:Nat→Int}(g:Tail s p q hi l H):∃ o∈l,o.pos=p:=by
 obtain ⟨o,ho,h1,h2⟩:=g.chain.cover p (Nat.le_refl _) g.lt
 exact ⟨o,ho,by have:=(g.chain.mem o ho).1;omega⟩
theorem Tail.before{s:ByteArray}{p q:Nat}{hi:Int}{l:List Ins}{H:Nat→Int}(g:Tail s p q hi l H){o:Ins}(ho:o∈l):p≤o.pos∧o.pos<q:=by
 have hm:=g.chain.mem o ho
 have:=next_pos s o.pos
 rw[← hm.2.2.2]at this
 omega
theorem Tail.lawful{s:ByteArray}{q:Nat}{hi:Int}{l:List Ins}{H:Nat→Int}{most:Nat}(g:Tail s 3 q hi l H)(hm:hi≤most):Lawful l most H :=
 ⟨g.start,fun o ho=>by
  obtain ⟨a1,a2,a3⟩:=g.ops o ho
  exact ⟨a1,by omega,a3,g.reach o ho⟩⟩
theorem Tail.more{s:ByteArray}{p q:Nat}{hi hi':Int}{l:List Ins}{H:Nat→Int}(g:Tail s p q hi l H)(h:hi≤hi'):Tail s p q hi' l H :=
 ⟨g.chain,g.start,g.lt,fun o ho=>by
  obtain ⟨a1,a2,a3⟩:=g.ops o ho
  exact ⟨a1,by omega,a3⟩,g.reach⟩
theorem end_flows{s:ByteArray}{q:Nat}(hk:bt s q=16∨bt s q=17)(r:Nat):¬ Flows (mkIns s q) r:=by
 intro hr
 rcases hr with ⟨_,h2,h3,_⟩ | ⟨h2,_⟩
 ·simp only[mkIns]at h2 h3;omega
 ·simp only[mkIns]at h2;omega
theorem end_op{s:ByteArray}{p:Nat}(h1:p<s.size)(h2:bt s p=16∨bt s p=17):OpOkI s p∧(mkIns s p).next=p+1:=by
 have hb:behindN (bt s p)=0:=by rcases h2 with h | h <;> rw[h] <;> rfl
 exact ⟨⟨h1,by omega,by rw[hb];omega,by omega⟩,by simp only[mkIns,hb]⟩
theorem tail_reject{s:ByteArray}{p:Nat}(h1:p<s.size)(h2:bt s p=17):Tail s p (p+1) 0 [mkIns s p] (fun _=>0):=by
 obtain ⟨ok,hn⟩:=end_op h1 (.inr h2)
 refine ⟨⟨ok,rfl,hn⟩,rfl,by omega,fun o ho=>?_,fun o ho=>?_⟩
 ·obtain rfl:o=mkIns s p:=by simpa using ho
  have:(mkIns s p).op=17:=h2
  rw[this]
  exact ⟨by decide,Int.le_refl _,fun r hr=>absurd hr (end_flows (.inr h2) r)⟩
 ·obtain rfl:o=mkIns s p:=by simpa using ho
  exact .inl rfl
theorem tail_score{s:ByteArray}{p q:Nat}{hi:Int}{l:List Ins}{H:Nat→Int}(g:Seg s p q 0 1 hi l H)(h1:q<s.size)(h2:bt s q=16):Tail s p (q+1) hi (l++[mkIns s q]) H:=by
 obtain ⟨ok,hn⟩:=end_op h1 (.inl h2)
 have hch:=g.chain.snoc ok
 rw[hn]at hch
 have hlt:=g.lt
 have he:=g.ends
 refine ⟨hch,g.start,by omega,fun o ho=>?_,fun o ho=>?_⟩
 ·rcases List.mem_append.1 ho with h3 | h3
  ·obtain ⟨a1,a2,a3⟩:=g.ops o h3
   refine ⟨a1,a2,fun r hr=>?_⟩
   obtain ⟨b1,b2⟩:=a3 r hr
   refine ⟨?_,b2⟩
   rcases b1 with rfl | ⟨o',ho',hp⟩
   ·exact ⟨mkIns s r,by simp,rfl⟩
   ·exact ⟨o',List.mem_append_left _ ho',hp⟩
  ·obtain rfl:o=mkIns s q:=by simpa using h3
   have hop:(mkIns s q).op=16:=h2
   have hps:(mkIns s q).pos=q:=rfl
   rw[hop,hps,g.fin]
   exact ⟨by decide,he,fun r hr=>absurd hr (end_flows (.inl h2) r)⟩
 ·rcases List.mem_append.1 ho with h3 | h3
  ·rcases g.reach o h3 with h4 | ⟨o',ho',hf⟩
   ·exact .inl h4
   ·exact .inr ⟨o',List.mem_append_left _ ho',hf⟩
  ·obtain rfl:o=mkIns s q:=by simpa using h3
   obtain ⟨o',ho',hf⟩:=g.out
   exact .inr ⟨o',List.mem_append_left _ ho',hf⟩
theorem jump_flows{s:ByteArray}{q r d:Nat}(ho:(mkIns s q).op=14)(hn:(mkIns s q).next=q+3)(ha:(mkIns s q).arg=d):Flows (mkIns s q) r↔r=q+3∨r=q+3+d:=by
 constructor
 ·rintro (⟨_,_,_,h⟩ | ⟨_,h⟩)
  ·exact .inl (by omega)
  ·exact .inr (by rw[hn,ha]at h;omega)
 ·rintro (rfl | rfl)
  ·exact .inl ⟨by omega,by omega,by omega,hn.symm⟩
  ·exact .inr ⟨.inr (.inl ho),by rw[hn,ha];omega⟩
theorem tail_guard{s:ByteArray}{p q d e:Nat}{h1 h2 h3:Int}{lw la lr:List Ins}{Hw Ha Hr:Nat→Int}(gw:Seg s p q 0 1 h1 lw Hw)(ok:OpOkI s q)(hop:(mkIns s q).op=14)(hnx:(mkIns s q).next=q+3)(harg:(mkIns s q).arg=d)
  (ga:Tail s (q+3) (q+3+d) h2 la Ha) (gr:Tail s (q+3+d) e h3 lr Hr) :
  ∃ l H,Tail s p e (max h1 (max h2 h3)) l H:=by
 have hpq:=gw.lt
 have haq:=ga.lt
 have hre:=gr.lt
 have hwe:=gw.ends
 obtain ⟨oa,hoa,hpa⟩:=ga.first
 obtain ⟨orr,horr,hpr⟩:=gr.first
 have hps:(mkIns s q).pos=q:=rfl
 have htk:takesN 14=1:=rfl
 have hly:laysN 14=0:=rfl
 refine ⟨lw++(mkIns s q :: (la++lr)),fun x=>if x≤q then Hw x else if x<q+3+d then Ha x else Hr x, ?_, ?_,by omega, ?_, ?_⟩
 ·have c1:Chain s (q+3) (la++lr) e:=ga.chain.append gr.chain
  have c2:Chain s q (mkIns s q :: (la++lr)) e:=⟨ok,rfl,by rw[hnx];exact c1⟩
  exact gw.chain.append c2
 ·show (if p≤q then Hw p else if p<q+3+d then Ha p else Hr p)=0
  rw[if_pos (by omega)]
  exact gw.start
 ·intro o ho
  have ew:∀ o∈lw,(if o.pos≤q then Hw o.pos else if o.pos<q+3+d then Ha o.pos else Hr o.pos)=Hw o.pos:=fun o ho=>if_pos (by have:=(gw.before ho).2;omega)
  have ea:∀ o∈la,(if o.pos≤q then Hw o.pos else if o.pos<q+3+d then Ha o.pos else Hr o.pos)=Ha o.pos:=fun o ho=>by
   have:=ga.before ho
   rw[if_neg (by omega),if_pos (by omega)]
  have er:∀ o∈lr,(if o.pos≤q then Hw o.pos else if o.pos<q+3+d then Ha o.pos else Hr o.pos)=Hr o.pos:=fun o ho=>by
   have:=gr.before ho
   rw[if_neg (by omega),if_neg (by omega)]
  show (takesN o.op:Int)≤(if o.pos≤q then Hw o.pos else if o.pos<q+3+d then Ha o.pos else Hr o.pos)∧(if o.pos≤q then Hw o.pos else if o.pos<q+3+d then Ha o.pos else Hr o.pos)≤_∧∀ r,Flows o r→_∧(if r≤q then Hw r else if r<q+3+d then Ha r else Hr r)=(if o.pos≤q then Hw o.pos else if o.pos<q+3+d then Ha o.pos else Hr o.pos)-takesN o.op+laysN o.op
  rcases List.mem_append.1 ho with hm | hm
  ·obtain ⟨a1,a2,a3⟩:=gw.ops o hm
   rw[ew o hm]
   refine ⟨a1,by omega,fun r hr=>?_⟩
   obtain ⟨b1,b2⟩:=a3 r hr
   rcases b1 with rfl | ⟨o',ho',rfl⟩
   ·exact ⟨⟨mkIns s r,by simp,rfl⟩,by rw[if_pos (Nat.le_refl _)];exact b2⟩
   ·exact ⟨⟨o',List.mem_append_left _ ho',rfl⟩,by rw[ew o' ho'];exact b2⟩
  ·rcases List.mem_cons.1 hm with rfl | hm
   ·rw[hps,hop,htk,hly,if_pos (Nat.le_refl _),gw.fin]
    refine ⟨by decide,by omega,fun r hr=>?_⟩
    rcases (jump_flows hop hnx harg).1 hr with rfl | rfl
    ·refine ⟨⟨oa,by simp[hoa],hpa⟩, ?_⟩
     rw[if_neg (by omega),if_pos (by omega),ga.start]
     rfl
    ·refine ⟨⟨orr,by simp[horr],hpr⟩, ?_⟩
     rw[if_neg (by omega),if_neg (by omega),gr.start]
     rfl
   ·rcases List.mem_append.1 hm with hm | hm
    ·obtain ⟨a1,a2,a3⟩:=ga.ops o hm
     rw[ea o hm]
     refine ⟨a1,by omega,fun r hr=>?_⟩
     obtain ⟨⟨o',ho',rfl⟩,b2⟩:=a3 r hr
     exact ⟨⟨o',by simp[ho'],rfl⟩,by rw[ea o' ho'];exact b2⟩
    ·obtain ⟨a1,a2,a3⟩:=gr.ops o hm
     rw[er o hm]
     refine ⟨a1,by omega,fun r hr=>?_⟩
     obtain ⟨⟨o',ho',rfl⟩,b2⟩:=a3 r hr
     exact ⟨⟨o',by simp[ho'],rfl⟩,by rw[er o' ho'];exact b2⟩
 ·intro o ho
  rcases List.mem_append.1 ho with hm | hm
  ·rcases gw.reach o hm with h4 | ⟨o',ho',hf⟩
   ·exact .inl h4
   ·exact .inr ⟨o',List.mem_append_left _ ho',hf⟩
  ·rcases List.mem_cons.1 hm with rfl | hm
   ·obtain ⟨o',ho',hf⟩:=gw.out
    exact .inr ⟨o',List.mem_append_left _ ho',hf⟩
   ·rcases List.mem_append.1 hm with hm | hm
    ·rcases ga.reach o hm with h4 | ⟨o',ho',hf⟩
     ·exact .inr ⟨mkIns s q,by simp,(jump_flows hop hnx harg).2 (.inl h4)⟩
     ·exact .inr ⟨o',by simp[ho'],hf⟩
    ·rcases gr.reach o hm with h4 | ⟨o',ho',hf⟩
     ·exact .inr ⟨mkIns s q,by simp,(jump_flows hop hnx harg).2 (.inr h4)⟩
     ·exact .inr ⟨o',by simp[ho'],hf⟩
def Ends(s:ByteArray)(x:Itm)(y:Bn)(p:Nat)(r:Nat×Int×Nat):Prop:=∀ f n,r.2.2≤f→runM s x y f p [] n=(r.1,r.2.1,n+r.2.2)
theorem ends_reject{s:ByteArray}(x:Itm)(y:Bn){p:Nat}(h:bt s p=17):Ends s x y p (0,0,1):=by
 intro f n hf
 obtain ⟨f',rfl⟩:∃ f',f=f'+1:=⟨f-1,by simp only at hf;omega⟩
 have hop:(mkIns s p).op=17:=h
 exact runM_end (by unfold stepM;rw[hop];rfl)
theorem ends_score{s:ByteArray}{x:Itm}{y:Bn}{p q:Nat}{v:Int}{flt steps:Nat}(hd:DoesSo s x y p q v flt steps)(h:bt s q=16):Ends s x y p (if flt=0 then (1,v,steps+1) else (2,(flt:Int),steps)):=by
 intro f n hf
 rcases hd with ⟨h0,h1⟩ | ⟨h0,h1⟩
 ·rw[if_pos h0]at hf ⊢
  simp only at hf ⊢
  obtain ⟨f',rfl⟩:∃ f',f=(f'+1)+steps:=⟨f-steps-1,by omega⟩
  rw[h1]
  have hop:(mkIns s q).op=16:=h
  rw[runM_end (k:=1) (v:=v) (by unfold stepM;rw[hop];rfl)]
  rfl
 ·rw[if_neg h0]at hf ⊢
  exact h1 f [] n hf
theorem ends_guard{s:ByteArray}{x:Itm}{y:Bn}{p q d:Nat}{v:Int}{flt steps:Nat}{ra rr:Nat×Int×Nat}(hd:DoesSo s x y p q v flt steps)(hop:(mkIns s q).op=14)(hnx:(mkIns s q).next=q+3)(hto:(mkIns s q).to=q+3+d)(ha:Ends s x y (q+3) ra)(hr:Ends s x y (q+3+d) rr) :
  Ends s x y p (if flt≠0 then (2,(flt:Int),steps) else if v=0 then (rr.1,rr.2.1,steps+1+rr.2.2) else (ra.1,ra.2.1,steps+1+ra.2.2)):=by
 intro f n hf
 rcases hd with ⟨h0,h1⟩ | ⟨h0,h1⟩
 ·rw[if_neg (by simp[h0])]at hf ⊢
  by_cases hv:v=0
  ·rw[if_pos hv]at hf ⊢
   simp only at hf ⊢
   obtain ⟨f',rfl⟩:∃ f',f=(f'+1)+steps:=⟨f-steps-1,by omega⟩
   have hst:stepM x y (mkIns s q) [v]=.inr (q+3+d,[]):=by
    unfold stepM
    rw[hop,hto]
    simp[fst,hv]
   rw[h1,runM_go hst,hr f' _ (by omega)]
   simp only[Prod.mk.injEq,true_and]
   omega
  ·rw[if_neg hv]at hf ⊢
   simp only at hf ⊢
   obtain ⟨f',rfl⟩:∃ f',f=(f'+1)+steps:=⟨f-steps-1,by omega⟩
   have hst:stepM x y (mkIns s q) [v]=.inr (q+3,[]):=by
    unfold stepM
    rw[hop,hnx]
    simp[fst,hv]
   rw[h1,runM_go hst,ha f' _ (by omega)]
   simp only[Prod.mk.injEq,true_and]
   omega
 ·rw[if_pos h0]at hf ⊢
  exact h1 f [] n hf
theorem code_pb2{fs:List Fact}{ls:List PLet}{N:List PNode}(x:Itm)(y:Bn)(hR:RefsOk ls fs N):∀ (f b i below h:Nat),i<b→b≤f→b≤N.length→(pbI fs ls N x y f (i:Int)).code.length≤60000→codeH fs ls N f b (i:Int) below h=((pbI fs ls N x y f (i:Int)).code,max h (below+(pbI fs ls N x y f (i:Int)).high))
  | 0,b,i,_,_,hi,hb,_,_=>by omega
  | f+1,b,i,below,h,hi,hb,hN,hlen=>by
    obtain ⟨n,hn⟩:∃ n,N[i]?=some n:=⟨N[i]'(by omega),List.getElem?_eq_getElem (by omega)⟩
    obtain ⟨hok,hrf⟩:=hR i n hn
    have hpb:pbI fs ls N x y (f+1) (i:Int)=match atF fs (i:Int) with
      | some v=>leafI v
      | none =>
        if n.ops=1 then oneP (opK (kindP n.tok.text) n.ops) (pbI fs ls N x y f n.left)
        else if isChK (kindP n.tok.text) then choiceP (leaK (kindP n.tok.text)) (pbI fs ls N x y f n.left) (pbI fs ls N x y f n.right) (leafI (decK (kindP n.tok.text)))
        else if n.ops=2 then twoP (opK (kindP n.tok.text) n.ops) (pbI fs ls N x y f n.left) (pbI fs ls N x y f n.right)
        else if kindP n.tok.text=2 then pbI fs ls N x y f (meantI ls n.tok.text)
        else leafA (kindP n.tok.text-15) x y:=by
      rw[pbI]
      simp only[Int.toNat_natCast,hn]
      first | done | (cases atF fs (i:Int) <;> rfl)
    cases hfa:atF fs (i:Int) with
    | some v =>
      rw[codeH_some hi hn hfa,hpb,hfa,layH_max]
      rfl
    | none =>
      rw[codeH_none hi hn hfa]
      rw[hpb,hfa]at hlen ⊢
      simp only at hlen ⊢
      by_cases h1:n.ops=1
      · rw[if_pos h1]at hlen
        rw[if_pos h1,if_pos h1]
        rw[(oneP_code _ _).1,List.length_append]at hlen
        have ih:=code_pb2 x y hR f i n.left below h (hrf.one h1) (by omega) (by omega) (by omega)
        have hop:=hok.one h1
        rw[ih,opC_bare _ (behind_op (by omega) (by omega)),(oneP_code _ _).1,(oneP_code _ _).2]
      · rw[if_neg h1]at hlen
        rw[if_neg h1,if_neg h1]
        cases hc:isChK (kindP n.tok.text) with
        | true =>
          rw[hc,if_pos rfl]at hlen
          rw[if_pos rfl,if_pos rfl]
          obtain ⟨hl,hr⟩:=hrf.two h1 (.inl hc)
          unfold chcH
          rw[(choiceP_code _ _ _ _).1]at hlen
          simp only[choiceC,List.length_append]at hlen
          have ih1:=code_pb2 x y hR f i n.left below h hl (by omega) (by omega) (by omega)
          have ih2:=code_pb2 x y hR f i n.right below (codeH fs ls N f i n.left below h).2 hr (by omega) (by omega) (by omega)
          rw[ih2,ih1]
          simp only
          have e9:(leafI (decK (kindP n.tok.text))).code.length=9:=by simp[leafI,eightC,bytesN_length]
          have e13:opC 13 9=jumpC 13 9:=by decide
          rw[opC_jump (lea_behind _) _ (by omega),layH_max,(choiceP_code _ _ _ _).1,(choiceP_code _ _ _ _).2]
          refine Prod.ext ?_ ?_
          · simp only[choiceC,opC_int,List.append_assoc,e9,e13]
          · simp only[choiceH,maxN_max]
            have:(leafI (decK (kindP n.tok.text))).high=1:=rfl
            rw[this]
            omega
        | false =>
          rw[hc]at hlen
          simp only[Bool.false_eq_true,if_false]at hlen ⊢
          by_cases h2:n.ops=2
          · rw[if_pos h2]at hlen
            rw[if_pos h2,if_pos h2]
            obtain ⟨hl,hr⟩:=hrf.two h1 (.inr h2)
            rw[(twoP_code _ _ _).1]at hlen
            simp only[List.length_append]at hlen
            have ih1:=code_pb2 x y hR f i n.left below h hl (by omega) (by omega) (by omega)
            have ih2:=code_pb2 x y hR f i n.right (below+1) (codeH fs ls N f i n.left below h).2 hr (by omega) (by omega) (by omega)
            have hop:=hok.two hc h2
            rw[ih2,ih1,opC_bare _ (behind_op (by omega) (by omega)),(twoP_code _ _ _).1,(twoP_code _ _ _).2,maxN_max]
            simp only
            refine Prod.ext rfl ?_
            simp only
            omega
          · rw[if_neg h2]at hlen
            rw[if_neg h2,if_neg h2]
            have h0:n.ops=0:=by have:=hok.ops;omega
            by_cases hk:kindP n.tok.text=2
            · rw[if_pos hk]at hlen
              rw[if_pos hk,if_pos hk]
              obtain ⟨hm0,hm1⟩:=hrf.nam h0 hc hk
              obtain ⟨j,hj⟩:∃ j:Nat,meantI ls n.tok.text=(j:Int):=⟨(meantI ls n.tok.text).toNat,by omega⟩
              rw[hj]at hlen hm1 ⊢
              exact code_pb2 x y hR f i j below h (by omega) (by omega) (by omega) hlen
            · rw[if_neg hk,if_neg hk]
              obtain ⟨hk1,hk2⟩:=hrf.att h0 hc hk hfa
              rw[opC_attr hk1 hk2 x y,layH_max]
              rfl
section
variable (ls:List PLet) (N:List PNode) (x:Itm) (y:Bn)
def rootP(e:PExp):PB:=pbI (factsP ls N) ls N x y N.length ((e.behind:Int)-1)
def actC(r:PRule):List Nat:=if r.hs then (rootP ls N x y r.score).code++[16] else [17]
def actR(r:PRule):Nat×Int×Nat:=if r.hs then (if (rootP ls N x y r.score).flt=0 then (1,(rootP ls N x y r.score).v,(rootP ls N x y r.score).steps+1) else (2,((rootP ls N x y r.score).flt:Int),(rootP ls N x y r.score).steps)) else (0,0,1)
def actHi(r:PRule):Nat:=if r.hs then (rootP ls N x y r.score).high else 0
def tailC:List PRule→List Nat
  | []=>[17]
  | r :: rs=>if appliesF (factsP ls N) r=2 then actC ls N x y r
    else if appliesF (factsP ls N) r=1 then (rootP ls N x y r.when).code++jumpC 14 (actC ls N x y r).length++actC ls N x y r++tailC rs
    else tailC rs
def tailHi:List PRule→Nat
  | []=>0
  | r :: rs=>if appliesF (factsP ls N) r=2 then actHi ls N x y r
    else if appliesF (factsP ls N) r=1 then max (rootP ls N x y r.when).high (max (actHi ls N x y r) (tailHi rs))
    else tailHi rs
def tailR:List PRule→Nat×Int×Nat
  | []=>(0,0,1)
  | r :: rs=>if appliesF (factsP ls N) r=2 then actR ls N x y r
    else if appliesF (factsP ls N) r=1 then
      (if (rootP ls N x y r.when).flt≠0 then (2,((rootP ls N x y r.when).flt:Int),(rootP ls N x y r.when).steps)
       else if (rootP ls N x y r.when).v=0 then ((tailR rs).1,(tailR rs).2.1,(rootP ls N x y r.when).steps+1+(tailR rs).2.2)
       else ((actR ls N x y r).1,(actR ls N x y r).2.1,(rootP ls N x y r.when).steps+1+(actR ls N x y r).2.2))
    else tailR rs
end
structure RuleFit(ls:List PLet)(N:List PNode)(x:Itm)(y:Bn)(r:PRule):Prop where
  wb:r.hw=true→1≤r.when.behind∧r.when.behind≤N.length
  sb:r.hs=true→1≤r.score.behind∧r.score.behind≤N.length
  wl:r.hw=true→(rootP ls N x y r.when).code.length≤2000
  sl:r.hs=true→(rootP ls N x y r.score).code.length≤2000
theorem applies_when{fs:List Fact}{r:PRule}(h:appliesF fs r=1):r.hw=true:=by
  unfold appliesF at h
  split at h
  · assumption
  · omega
theorem expr_pb{ls:List PLet}{N:List PNode}(x:Itm)(y:Bn)(hR:RefsOk ls (factsP ls N) N){e:PExp}(h1:1≤e.behind)(h2:e.behind≤N.length)(hl:(rootP ls N x y e).code.length≤2000)(h:Nat):exprH (factsP ls N) ls N e h=((rootP ls N x y e).code,max h (rootP ls N x y e).high):=by
  unfold exprH
  unfold rootP at hl ⊢
  have e1:((e.behind:Int)-1)=((e.behind-1:Nat):Int):=by omega
  rw[e1]at hl ⊢
  rw[code_pb2 x y hR N.length N.length (e.behind-1) 0 h (by omega) (Nat.le_refl _) (Nat.le_refl _) (by omega),Nat.zero_add]
theorem act_pb{ls:List PLet}{N:List PNode}(x:Itm)(y:Bn)(hR:RefsOk ls (factsP ls N) N){r:PRule}(hf:RuleFit ls N x y r)(h:Nat):actH (factsP ls N) ls N r h=(actC ls N x y r,max h (actHi ls N x y r)):=by
  unfold actH actC actHi
  cases hs:r.hs with
  | true =>
    obtain ⟨a1,a2⟩:=hf.sb hs
    simp only[if_true]
    rw[expr_pb x y hR a1 a2 (hf.sl hs)]
    exact Prod.ext (by rw[opC_bare _ rfl]) rfl
  | false =>
    simp only[Bool.false_eq_true,if_false]
    exact Prod.ext (opC_bare _ rfl) (by simp)
theorem actC_len{ls:List PLet}{N:List PNode}{x:Itm}{y:Bn}{r:PRule}(hf:RuleFit ls N x y r):(actC ls N x y r).length≤2001:=by
  unfold actC
  split
  · rename_i hs
    have:=hf.sl hs
    simp only[List.length_append,List.length_singleton]
    omega
  · simp
theorem rules_pb{ls:List PLet}{N:List PNode}(x:Itm)(y:Bn)(hR:RefsOk ls (factsP ls N) N):∀ (rs:List PRule),(∀ r∈rs,RuleFit ls N x y r)→∀ (c:List Nat) (h:Nat),rulesH (factsP ls N) ls N rs c h=(c++tailC ls N x y rs,max h (tailHi ls N x y rs))
  | [],_,c,h=>by
    rw[rulesH,tailC,tailHi,opC_bare _ rfl]
    simp
  | r :: rs,hf,c,h=>by
    have hfr:=hf r List.mem_cons_self
    have hl:=actC_len hfr
    rw[rulesH,tailC,tailHi]
    by_cases h2:appliesF (factsP ls N) r=2
    · rw[if_pos h2,if_pos h2,if_pos h2,act_pb x y hR hfr]
    · rw[if_neg h2,if_neg h2,if_neg h2]
      by_cases h1:appliesF (factsP ls N) r=1
      · rw[if_pos h1,if_pos h1,if_pos h1]
        have hw:=applies_when h1
        obtain ⟨a1,a2⟩:=hfr.wb hw
        have hg:guardH (factsP ls N) ls N r h=((rootP ls N x y r.when).code++jumpC 14 (actC ls N x y r).length++actC ls N x y r,max (max h (rootP ls N x y r.when).high) (actHi ls N x y r)):=by
          unfold guardH
          rw[expr_pb x y hR a1 a2 (hfr.wl hw)]
          simp only
          rw[act_pb x y hR hfr]
          simp only
          rw[opC_jump rfl _ (by omega)]
        rw[hg,rules_pb x y hR rs (fun q hq=>hf q (List.mem_cons_of_mem _ hq))]
        refine Prod.ext ?_ ?_
        · simp only[List.append_assoc]
        · simp only
          omega
      · rw[if_neg h1,if_neg h1,if_neg h1]
        exact rules_pb x y hR rs (fun q hq=>hf q (List.mem_cons_of_mem _ hq)) c h
theorem act_tail{ls:List PLet}{N:List PNode}{x:Itm}{y:Bn}(hx:x.Ok)(hy:y.Ok)(hfi:∀ i,FactIn (atF (factsP ls N) i))(hR:RefsOk ls (factsP ls N) N){r:PRule}(hf:RuleFit ls N x y r){s:ByteArray}{p:Nat}(hs:Sits s p (actC ls N x y r)) :
    (∃ l H,Tail s p (p+(actC ls N x y r).length) (actHi ls N x y r:Nat) l H)∧Ends s x y p (actR ls N x y r):=by
  unfold actC at hs ⊢
  unfold actHi actR
  cases hh:r.hs with
  | true =>
    rw[hh]at hs
    simp only[if_true]at hs ⊢
    have hl:=hf.sl hh
    have hok:(rootP ls N x y r.score).Ok x y:=pb_ok hx hy hfi hR _ _ (by have:=(hf.sb hh).1;omega) (by have h:=hl;unfold rootP at h;omega)
    obtain ⟨l,H,g⟩:=hok.seg s p 0 hs.left (by omega)
    have hsc:=hs.right.head
    have g':=g.cast rfl (Int.zero_add 1) (Int.zero_add _)
    refine ⟨⟨l++[mkIns s (p+(rootP ls N x y r.score).code.length)],H, ?_⟩,ends_score (hok.does s p hs.left) hsc.2⟩
    have:=tail_score g' hsc.1 hsc.2
    rw[List.length_append,List.length_singleton,← Nat.add_assoc]
    exact this
  | false =>
    rw[hh]at hs
    simp only[Bool.false_eq_true,if_false]at hs ⊢
    have hsc:=hs.head
    exact ⟨⟨_,_,tail_reject hsc.1 hsc.2⟩,ends_reject x y hsc.2⟩
theorem rules_tail{ls:List PLet}{N:List PNode}{x:Itm}{y:Bn}(hx:x.Ok)(hy:y.Ok)(hfi:∀ i,FactIn (atF (factsP ls N) i))(hR:RefsOk ls (factsP ls N) N){s:ByteArray}:∀ (rs:List PRule),(∀ r∈rs,RuleFit ls N x y r)→∀ p,Sits s p (tailC ls N x y rs) →
    (∃ l H,Tail s p (p+(tailC ls N x y rs).length) (tailHi ls N x y rs:Nat) l H)∧Ends s x y p (tailR ls N x y rs)
  | [],_,p,hs=>by
    rw[tailC]at hs ⊢
    have hsc:=hs.head
    exact ⟨⟨_,_,tail_reject hsc.1 hsc.2⟩,ends_reject x y hsc.2⟩
  | r :: rs,hf,p,hs=>by
    have hfr:=hf r List.mem_cons_self
    rw[tailC]at hs ⊢
    rw[tailHi,tailR]
    by_cases h2:appliesF (factsP ls N) r=2
    · rw[if_pos h2]at hs ⊢
      rw[if_pos h2,if_pos h2]
      exact act_tail hx hy hfi hR hfr hs
    · rw[if_neg h2]at hs ⊢
      rw[if_neg h2,if_neg h2]
      by_cases h1:appliesF (factsP ls N) r=1
      · rw[if_pos h1]at hs ⊢
        rw[if_pos h1,if_pos h1]
        have hw:=applies_when h1
        have hl:=hfr.wl hw
        have hal:=actC_len hfr
        have hok:(rootP ls N x y r.when).Ok x y:=pb_ok hx hy hfi hR _ _ (by have:=(hfr.wb hw).1;omega) (by have h:=hl;unfold rootP at h;omega)
        have s1:=hs.left.left.left
        have s2:=hs.left.left.right
        have s3:=hs.left.right
        have s4:=hs.right
        have ej:(jumpC 14 (actC ls N x y r).length).length=3:=rfl
        simp only[List.length_append,ej]at s3 s4
        obtain ⟨l,H,g⟩:=hok.seg s p 0 s1 (by omega)
        have g':=g.cast rfl (Int.zero_add 1) (Int.zero_add _)
        obtain ⟨a1,a2,a3,a4,a5,a6⟩:=jump_op' s2 (.inr (.inl rfl)) (by omega)
        obtain ⟨⟨la,Ha,ta⟩,ea⟩:=act_tail hx hy hfi hR hfr (s:=s) (p:=p+(rootP ls N x y r.when).code.length+3) (by rw[Nat.add_assoc];exact s3)
        obtain ⟨⟨lr,Hr,tr⟩,er⟩:=rules_tail hx hy hfi hR rs (fun q hq=>hf q (List.mem_cons_of_mem _ hq)) (p+(rootP ls N x y r.when).code.length+3+(actC ls N x y r).length) (by rw[show p+(rootP ls N x y r.when).code.length+3+(actC ls N x y r).length=p+((rootP ls N x y r.when).code.length+3+(actC ls N x y r).length) by omega];exact s4)
        obtain ⟨l',H',tg⟩:=tail_guard g' a1 a4 a2 a6 ta tr
        refine ⟨⟨l',H', ?_⟩,ends_guard (hok.does s p s1) a4 a2 a5 ea er⟩
        have e1:p+((rootP ls N x y r.when).code++jumpC 14 (actC ls N x y r).length++actC ls N x y r++tailC ls N x y rs).length=p+(rootP ls N x y r.when).code.length+3+(actC ls N x y r).length+(tailC ls N x y rs).length:=by
          simp only[List.length_append,ej]
          omega
        rw[e1]
        refine tg.more ?_
        omega
      · rw[if_neg h1]at hs ⊢
        rw[if_neg h1,if_neg h1]
        exact rules_tail hx hy hfi hR rs (fun q hq=>hf q (List.mem_cons_of_mem _ hq)) p hs
open Go.RowKit Go.Deep
theorem lowU_step(s:ByteArray)(p j n:Nat)(hj:0<j)(hn:j≤n):lowU s (p+(j-1)) (n-(j-1))=bt s (p+(j-1))+256*lowU s (p+j) (n-j):=by
 have e:n-(j-1)=(n-j)+1:=by omega
 rw[e]
 simp only[lowU]
 rw[show p+(j-1)+1=p+j by omega]
structure GlobP(w:World):Prop where
 bytes:∀ c,c<18→w.cell? ⟨0,c,none⟩=some (.int .i64 (behindN c))
 takes:∀ c,c<18→w.cell? ⟨1,c,none⟩=some (.int .i64 (takesN c))
 lays:∀ c,c<18→w.cell? ⟨2,c,none⟩=some (.int .i64 (laysN c))
 size:0<w.heap.size∧1<w.heap.size∧2<w.heap.size
theorem GlobP.below{w w':World}(h:GlobP w)(hb:Below w.heap.size w w'):GlobP w' :=
 ⟨fun c hc=>(hb.cell (p:=⟨0,c,none⟩) h.size.1).trans (h.bytes c hc),fun c hc=>(hb.cell (p:=⟨1,c,none⟩) h.size.2.1).trans (h.takes c hc),fun c hc=>(hb.cell (p:=⟨2,c,none⟩) h.size.2.2).trans (h.lays c hc),⟨Nat.lt_of_lt_of_le h.size.1 hb.size,Nat.lt_of_lt_of_le h.size.2.1 hb.size,Nat.lt_of_lt_of_le h.size.2.2 hb.size⟩⟩
structure GlobY(w:World):Prop where
 bytes:∀ c,c<18→w.cell? ⟨0,c,none⟩=some (.int .i64 (behindN c))
 size:0<w.heap.size
theorem GlobY.below{w w':World}(h:GlobY w)(hb:Below w.heap.size w w'):GlobY w' :=
 ⟨fun c hc=>(hb.cell (p:=⟨0,c,none⟩) h.size).trans (h.bytes c hc),Nat.lt_of_lt_of_le h.size hb.size⟩
theorem GlobP.y{w:World}(h:GlobP w):GlobY w:=⟨h.bytes,h.size.1⟩
def headB(s:ByteArray):Bool:=decide (4≤s.size)&&decide (s.size≤4000)&&decide (bt s 0=83)&&decide (bt s 1=76)
theorem headB_iff(s:ByteArray):headB s=true↔HeadOk s:=by
 unfold headB HeadOk
 simp only[Bool.and_eq_true,decide_eq_true_eq,and_assoc]
theorem headB_false{s:ByteArray}(h:¬ HeadOk s):headB s=false:=by
 cases hb:headB s
 ·rfl
 ·exact absurd ((headB_iff s).1 hb) h
set_option maxHeartbeats 400000 in
theorem hasHead_any(s:ByteArray)(w:World) :
  Calls Tryz.prog 50 #[.string s] w fun e w'=>e=.returned (.bool (headB s))∧w'=w:=by
 by_cases h1:s.size≤3
 ·go_enter Tryz.func50,Tryz.ntmps50
  go_wp2
  go_ret
  exact ⟨ret_bool (by symm;apply headB_false;intro h;have:=h.1;omega),rfl⟩
 by_cases h2:4000<s.size
 ·go_enter Tryz.func50,Tryz.ntmps50
  go_wp2
  go_ret
  exact ⟨ret_bool (by symm;apply headB_false;intro h;have:=h.2.1;omega),rfl⟩
 have hi0:=fun wx=>run_index_nat (P:=Tryz.prog) wx 9 s .i64 0 0 Tryz.underlying9 rfl (by omega)
 have hi1:=fun wx=>run_index_nat (P:=Tryz.prog) wx 9 s .i64 1 1 Tryz.underlying9 rfl (by omega)
 have HB0:Hid (bt s 0=s[0].toNat):=bt_get s 0 (by omega)
 have HB1:Hid (bt s 1=s[1].toNat):=bt_get s 1 (by omega)
 obtain ⟨c0,hc0⟩:∃ c,c=(s[0]'(by omega)).toNat:=⟨_,rfl⟩
 obtain ⟨c1,hc1⟩:∃ c,c=(s[1]'(by omega)).toNat:=⟨_,rfl⟩
 rw[← hc0]at hi0 HB0
 rw[← hc1]at hi1 HB1
 clear hc0 hc1
 have HD:Hid (headB s=(((c0:Int)==83)&&((c1:Int)==76))):=(by
  rw[Bool.eq_iff_iff,headB_iff]
  unfold HeadOk
  rw[HB0.out,HB1.out]
  simp
  omega:headB s=(((c0:Int)==83)&&((c1:Int)==76)))
 cases h3:((c0:Int)==83)
 all_goals
  go_enter Tryz.func50,Tryz.ntmps50
  go_wp2
  go_ret
  exact ⟨ret_bool (by rw[HD.out];simp[h3]),rfl⟩
theorem bt_ext(s:ByteArray)(a b i:Nat)(h:i<(s.extract a b).size):bt (s.extract a b) i=bt s (a+i):=by
 have h2:a+i<s.size:=by rw[ByteArray.size_extract]at h;omega
 rw[bt_get _ _ h,bt_get _ _ h2]
 congr 1
 have h3:=getElem_toList (s.extract a b) i h
 have h4:=getElem_toList s (a+i) h2
 have e:(s.extract a b).toList=(s.toList.drop a).take (b-a):=by rw[extract_bsOf,bsOf_toList]
 rw[ByteArray.size_extract]at h
 rw[e,List.getElem?_take,if_pos (by omega),List.getElem?_drop,h4]at h3
 exact (Option.some.inj h3).symm
theorem lowU_ext(s:ByteArray)(a b:Nat):∀ (n k:Nat),k+n≤(s.extract a b).size→lowU (s.extract a b) k n=lowU s (a+k) n
 | 0,_,_=>rfl
 | n+1,k,h=>by
  simp only[lowU]
  rw[bt_ext s a b k (by omega),lowU_ext s a b n (k+1) (by omega),Nat.add_assoc]
theorem lowU_lt(s:ByteArray):∀ (n k:Nat),lowU s k n<256 ^ n
 | 0,_=>by simp[lowU]
 | n+1,k=>by
  have h1:=lowU_lt s n (k+1)
  have h2:=bt_lt s k
  simp only[lowU,Nat.pow_succ]
  omega
theorem or_low(L b:Nat)(hL:L<72057594037927936)(hb:b<256):bits .or .u64 (IntKind.u64.wrap ((L:Int)*256)) (IntKind.u64.wrap (b:Nat))=((b+256*L:Nat):Int):=by
 rw[IntWalk.u64_in _ ⟨by omega,by omega⟩,IntWalk.u64_in _ ⟨by omega,by omega⟩]
 have e:(L:Int)*256=((L*256:Nat):Int):=by omega
 rw[e,u64_or_nat _ _ (by omega) (by omega)]
 have h:=Nat.shiftLeft_add_eq_or_of_lt (i:=8) (b:=b) (by omega) L
 rw[Nat.shiftLeft_eq]at h
 rw[← h]
 omega
set_option maxHeartbeats 1000000 in
theorem lowestFirst_any(t:ByteArray)(ht:t.size≤8)(w:World) :
  Calls Tryz.prog 86 #[.string t] w fun e w'=>e=.returned (.int .i64 (IntKind.i64.wrap (lowU t 0 t.size:Nat)))∧w'=w:=by
 go_enter Tryz.func86,Tryz.ntmps86
 go_wp2
 go_loop [3,4] (fun v i=>∃ j:Nat,j≤t.size∧i=.int .i64 ((j:Int)-1)∧v=.int .u64 (lowU t j (t.size-j):Nat)) (fun _ i=>(intOf i+1).toNat)
 case atStart=>exact ⟨t.size,Nat.le_refl _,by go_num,by simp[lowU]⟩
 case round =>
  obtain ⟨j,hj,rfl,rfl⟩:=hrel
  by_cases h0:0<j
  ·have hb:j-1<t.size:=by omega
   have hbt:(t[j-1]'hb).toNat=bt t (j-1):=(bt_get t _ hb).symm
   have hix:=fun wx=>run_index_nat (P:=Tryz.prog) wx 9 t .i64 ((j:Int)-1) (j-1) Tryz.underlying9 (by omega) hb
   go_wp2
   go_round
   case rel=>exact ⟨j-1,by omega,by go_num,by
     have hL:=lowU_lt t (t.size-j) j
     have h7:256 ^ (t.size-j)≤256 ^ 7:=Nat.pow_le_pow_right (by omega) (by omega)
     have e:=lowU_step t 0 j t.size h0 hj
     simp only[Nat.zero_add]at e
     rw[e,or_low _ _ (by omega) (bt_lt t (j-1))]⟩
   case measure=>simp[intOf];omega
  ·go_wp2
   go_ret
   have:j=0:=by omega
   subst this
   exact ⟨ret_int (by rw[IntWalk.i64_left];simp),rfl⟩
end Go.Proofs.YtpcjadaeolkngaaGreatDoor
