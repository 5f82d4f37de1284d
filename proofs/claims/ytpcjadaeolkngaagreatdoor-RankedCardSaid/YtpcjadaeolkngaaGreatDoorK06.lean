/-
  Images of known making: the heights of a row of operations that is entered at its first and left at its end; plain.
-/
import Derived.Test.YtpcjadaeolkngaaGreatDoorK05
set_option linter.unusedVariables false
set_option linter.unusedSimpArgs false
namespace Go.Proofs.YtpcjadaeolkngaaGreatDoor
open Go.RowKit
structure Seg (s:ByteArray) (p q:Nat) (h e hi:Int) (l:List Ins) (H:Nat→Int):Prop where
 chain:Chain s p l q
 start:H p=h
 fin:H q=e
 ops:∀ o∈l,(takesN o.op:Int)≤H o.pos∧H o.pos≤hi∧∀ r,Flows o r→(r=q∨∃ o'∈l,o'.pos=r)∧H r=H o.pos - takesN o.op+laysN o.op
 reach:∀ o∈l,o.pos=p∨∃ o'∈l,Flows o' o.pos
 out:∃ o∈l,Flows o q
 ends:e≤hi
 top:(∃ o∈l,H o.pos=hi)∨e=hi
theorem Seg.lt {s:ByteArray} {p q:Nat} {h e hi:Int} {l:List Ins} {H:Nat→Int} (g:Seg s p q h e hi l H):p < q:=by
 obtain ⟨o,ho,hf⟩:=g.out
 have hm:=g.chain.mem o ho
 rw[hm.2.2.2] at hf
 have:=hf.lt
 omega
theorem Seg.first {s:ByteArray} {p q:Nat} {h e hi:Int} {l:List Ins} {H:Nat→Int} (g:Seg s p q h e hi l H):∃ o∈l,o.pos=p:=by
 obtain ⟨o,ho,h1,h2⟩:=g.chain.cover p (Nat.le_refl _) g.lt
 exact ⟨o,ho,by have:=(g.chain.mem o ho).1;omega⟩
theorem Seg.before {s:ByteArray} {p q:Nat} {h e hi:Int} {l:List Ins} {H:Nat→Int} (g:Seg s p q h e hi l H) {o:Ins} (ho:o∈l):p≤o.pos∧o.pos < q:=by
 have hm:=g.chain.mem o ho
 have:=next_pos s o.pos
 rw[← hm.2.2.2] at this
 omega
theorem seg_op {s:ByteArray} {p:Nat} {h:Int} (ho:OpOkI s p) (ht:(takesN (bt s p):Int)≤h) (hf:∀ r,Flows (mkIns s p) r ↔ r=(mkIns s p).next) :
  Seg s p (mkIns s p).next h (h - takesN (bt s p)+laysN (bt s p)) (max h (h - takesN (bt s p)+laysN (bt s p))) [mkIns s p] (fun x=>if x=p then h else h - takesN (bt s p)+laysN (bt s p)):=by
 have hn:=next_pos s p
 have hne:¬ ((mkIns s p).next=p):=by omega
 refine ⟨⟨ho,rfl,rfl⟩,by simp,by simp[hne], ?_, ?_,⟨_,by simp,(hf _).2 rfl⟩,by omega, ?_⟩
 ·intro o hm
  obtain rfl:o=mkIns s p:=by simpa using hm
  refine ⟨?_, ?_,fun r hr=>?_⟩
  ·show (takesN (bt s p):Int)≤(if p=p then h else _);simpa using ht
  ·show (if p=p then h else _)≤_;simp;omega
  ·obtain rfl:=(hf r).1 hr
   refine ⟨.inl rfl, ?_⟩
   show (if (mkIns s p).next=p then h else _)=(if p=p then h else _) - takesN (bt s p)+laysN (bt s p)
   simp[hne]
 ·intro o hm
  obtain rfl:o=mkIns s p:=by simpa using hm
  exact .inl rfl
 ·by_cases hc:h - takesN (bt s p)+laysN (bt s p)≤h
  ·exact .inl ⟨mkIns s p,by simp,by show (if p=p then h else _)=_;simp;omega⟩
  ·exact .inr (by omega)
theorem Seg.seq {s:ByteArray} {p q r:Nat} {h e f hi1 hi2:Int} {l1 l2:List Ins} {H1 H2:Nat→Int} (g1:Seg s p q h e hi1 l1 H1) (g2:Seg s q r e f hi2 l2 H2) :
  Seg s p r h f (max hi1 hi2) (l1++l2) (fun x=>if x < q then H1 x else H2 x):=by
 have hpq:=g1.lt
 have hqr:=g2.lt
 have e1:∀ o∈l1,(if o.pos < q then H1 o.pos else H2 o.pos)=H1 o.pos:=fun o ho=>if_pos (g1.before ho).2
 have e2:∀ o∈l2,(if o.pos < q then H1 o.pos else H2 o.pos)=H2 o.pos:=fun o ho=>if_neg (by have:=(g2.before ho).1;omega)
 obtain ⟨o2,ho2,hp2⟩:=g2.first
 refine ⟨g1.chain.append g2.chain,by simp[hpq,g1.start], ?_, ?_, ?_, ?_, ?_, ?_⟩
 ·show (if r < q then H1 r else H2 r)=f
  rw[if_neg (by omega),g2.fin]
 ·intro o ho
  rcases List.mem_append.1 ho with h1 | h1
  ·obtain ⟨a1,a2,a3⟩:=g1.ops o h1
   show _≤(if o.pos < q then H1 o.pos else H2 o.pos)∧(if o.pos < q then H1 o.pos else H2 o.pos)≤_∧∀ t,Flows o t→_∧(if t < q then H1 t else H2 t)=(if o.pos < q then H1 o.pos else H2 o.pos) - _+_
   rw[e1 o h1]
   refine ⟨a1,by omega,fun t ht=>?_⟩
   obtain ⟨b1,b2⟩:=a3 t ht
   rcases b1 with rfl | ⟨o',ho',rfl⟩
   ·refine ⟨.inr ⟨o2,List.mem_append_right _ ho2,hp2⟩, ?_⟩
    rw[if_neg (by omega),g2.start,← b2,g1.fin]
   ·refine ⟨.inr ⟨o',List.mem_append_left _ ho',rfl⟩, ?_⟩
    rw[if_pos (g1.before ho').2,b2]
  ·obtain ⟨a1,a2,a3⟩:=g2.ops o h1
   show _≤(if o.pos < q then H1 o.pos else H2 o.pos)∧(if o.pos < q then H1 o.pos else H2 o.pos)≤_∧∀ t,Flows o t→_∧(if t < q then H1 t else H2 t)=(if o.pos < q then H1 o.pos else H2 o.pos) - _+_
   rw[e2 o h1]
   refine ⟨a1,by omega,fun t ht=>?_⟩
   obtain ⟨b1,b2⟩:=a3 t ht
   rcases b1 with rfl | ⟨o',ho',rfl⟩
   ·exact ⟨.inl rfl,by rw[if_neg (by omega),b2]⟩
   ·exact ⟨.inr ⟨o',List.mem_append_right _ ho',rfl⟩,by rw[if_neg (by have:=(g2.before ho').1;omega),b2]⟩
 ·intro o ho
  rcases List.mem_append.1 ho with h1 | h1
  ·rcases g1.reach o h1 with h2 | ⟨o',ho',hf⟩
   ·exact .inl h2
   ·exact .inr ⟨o',List.mem_append_left _ ho',hf⟩
  ·rcases g2.reach o h1 with h2 | ⟨o',ho',hf⟩
   ·obtain ⟨o',ho',hf⟩:=g1.out
    exact .inr ⟨o',List.mem_append_left _ ho',by rw[h2];exact hf⟩
   ·exact .inr ⟨o',List.mem_append_right _ ho',hf⟩
 ·obtain ⟨o',ho',hf⟩:=g2.out
  exact ⟨o',List.mem_append_right _ ho',hf⟩
 ·have:=g2.ends;omega
 ·by_cases hc:hi2≤hi1
  ·refine .inl ?_
   rcases g1.top with ⟨o,ho,he⟩ | he
   ·exact ⟨o,List.mem_append_left _ ho,by rw[e1 o ho,he];omega⟩
   ·exact ⟨o2,List.mem_append_right _ ho2,by rw[e2 o2 ho2,hp2,g2.start,he];omega⟩
  ·rcases g2.top with ⟨o,ho,he⟩ | he
   ·exact .inl ⟨o,List.mem_append_right _ ho,by rw[e2 o ho,he];omega⟩
   ·exact .inr (by omega)
theorem seg_choice {s:ByteArray} {p q0 q1 q2 t e:Nat} {h hi1 hi2 hi3:Int} {lp la lb:List Ins} {Hp Ha Hb:Nat→Int} (hh:0≤h)
  (gp:Seg s p q0 h (h+1) hi1 lp Hp) (ok0:OpOkI s q0) (k0:bt s q0=14∨bt s q0=15) (n0:(mkIns s q0).next=q1) (t0:(mkIns s q0).to=t)
  (ga:Seg s q1 q2 h (h+1) hi2 la Ha) (ok2:OpOkI s q2) (k2:bt s q2=13) (n2:(mkIns s q2).next=t) (t2:(mkIns s q2).to=e)
  (gb:Seg s t e h (h+1) hi3 lb Hb) :
  Seg s p e h (h+1) (max hi1 (max hi2 hi3)) (lp++mkIns s q0 :: (la++mkIns s q2 :: lb)) (fun x=>if x≤q0 then Hp x else if x≤q2 then Ha x else Hb x):=by
 have h01:q0 < q1:=by rw[← n0];exact next_pos s q0
 have h2t:q2 < t:=by rw[← n2];exact next_pos s q2
 have hpl:=gp.lt
 have hal:=ga.lt
 have hbl:=gb.lt
 have f0:∀ r,Flows (mkIns s q0) r ↔ r=q1∨r=t:=by
  intro r
  have hto:=jump_to s q0 (.inr k0)
  constructor
  ·rintro (⟨_,_,_,h4⟩ | ⟨_,h4⟩)
   ·exact .inl (by rw[h4,n0])
   ·exact .inr (by rw[← t0];omega)
  ·rintro (h4 | h4)
   ·exact .inl ⟨by simp only[mkIns];omega,by simp only[mkIns];omega,by simp only[mkIns];omega,by rw[h4,n0]⟩
   ·exact .inr ⟨.inr k0,by rw[h4,← t0];omega⟩
 have f2:∀ r,Flows (mkIns s q2) r ↔ r=e:=by
  intro r
  have hto:=jump_to s q2 (.inl k2)
  constructor
  ·rintro (⟨h4,_⟩ | ⟨_,h4⟩)
   ·exact absurd k2 h4
   ·rw[← t2];omega
  ·intro h4
   exact .inr ⟨.inl k2,by rw[h4,← t2];omega⟩
 have tk0:takesN (bt s q0)=1∧laysN (bt s q0)=0:=by rcases k0 with h | h <;> rw[h] <;> exact ⟨rfl,rfl⟩
 have tk2:takesN (bt s q2)=0∧laysN (bt s q2)=0:=by rw[k2];exact ⟨rfl,rfl⟩
 obtain ⟨oa,hoa,hpa⟩:=ga.first
 obtain ⟨ob,hob,hpb⟩:=gb.first
 have mp:∀ {o},o∈lp→o∈lp++mkIns s q0 :: (la++mkIns s q2 :: lb):=fun h=>List.mem_append_left _ h
 have m0:mkIns s q0∈lp++mkIns s q0 :: (la++mkIns s q2 :: lb):=by simp
 have ma:∀ {o},o∈la→o∈lp++mkIns s q0 :: (la++mkIns s q2 :: lb):=fun h=>List.mem_append_right _ (List.mem_cons_of_mem _ (List.mem_append_left _ h))
 have m2:mkIns s q2∈lp++mkIns s q0 :: (la++mkIns s q2 :: lb):=by simp
 have mb:∀ {o},o∈lb→o∈lp++mkIns s q0 :: (la++mkIns s q2 :: lb):=fun h=>List.mem_append_right _ (List.mem_cons_of_mem _ (List.mem_append_right _ (List.mem_cons_of_mem _ h)))
 have ep:∀ x,x≤q0→(if x≤q0 then Hp x else if x≤q2 then Ha x else Hb x)=Hp x:=fun x hx=>if_pos hx
 have ea:∀ x,q0 < x→x≤q2→(if x≤q0 then Hp x else if x≤q2 then Ha x else Hb x)=Ha x:=fun x h1 h2=>by rw[if_neg (by omega),if_pos h2]
 have eb:∀ x,t≤x→(if x≤q0 then Hp x else if x≤q2 then Ha x else Hb x)=Hb x:=fun x h1=>by rw[if_neg (by omega),if_neg (by omega)]
 refine ⟨?_, ?_, ?_, ?_, ?_, ?_, ?_, ?_⟩
 ·refine gp.chain.append ⟨ok0,rfl, ?_⟩
  rw[n0]
  refine ga.chain.append ⟨ok2,rfl, ?_⟩
  rw[n2]
  exact gb.chain
 ·show (if p≤q0 then Hp p else _)=h
  rw[if_pos (by omega),gp.start]
 ·show (if e≤q0 then Hp e else if e≤q2 then Ha e else Hb e)=h+1
  rw[eb e (by omega),gb.fin]
 ·intro o hmem
  show (takesN o.op:Int)≤(if o.pos≤q0 then Hp o.pos else if o.pos≤q2 then Ha o.pos else Hb o.pos)∧(if o.pos≤q0 then Hp o.pos else if o.pos≤q2 then Ha o.pos else Hb o.pos)≤_∧∀ r,Flows o r→_∧(if r≤q0 then Hp r else if r≤q2 then Ha r else Hb r)=(if o.pos≤q0 then Hp o.pos else if o.pos≤q2 then Ha o.pos else Hb o.pos) - takesN o.op+laysN o.op
  rcases List.mem_append.1 hmem with h1 | h1
  ·have hb:=gp.before h1
   obtain ⟨a1,a2,a3⟩:=gp.ops o h1
   rw[ep o.pos (by omega)]
   refine ⟨a1,by omega,fun r hr=>?_⟩
   obtain ⟨b1,b2⟩:=a3 r hr
   rcases b1 with rfl | ⟨o',ho',rfl⟩
   ·exact ⟨.inr ⟨_,m0,rfl⟩,by rw[ep r (Nat.le_refl _),b2]⟩
   ·exact ⟨.inr ⟨o',mp ho',rfl⟩,by rw[ep o'.pos (by have:=gp.before ho';omega),b2]⟩
  ·rcases List.mem_cons.1 h1 with rfl | h1
   ·have hpos:(mkIns s q0).pos=q0:=rfl
    have hop:(mkIns s q0).op=bt s q0:=rfl
    have hge:=gp.ends
    rw[hpos,hop,ep q0 (Nat.le_refl _),gp.fin,tk0.1,tk0.2]
    refine ⟨by omega,by omega,fun r hr=>?_⟩
    rcases (f0 r).1 hr with rfl | rfl
    ·exact ⟨.inr ⟨oa,ma hoa,hpa⟩,by rw[ea r h01 (by omega),ga.start];omega⟩
    ·exact ⟨.inr ⟨ob,mb hob,hpb⟩,by rw[eb r (Nat.le_refl _),gb.start];omega⟩
   ·rcases List.mem_append.1 h1 with h1 | h1
    ·have hb:=ga.before h1
     obtain ⟨a1,a2,a3⟩:=ga.ops o h1
     rw[ea o.pos (by omega) (by omega)]
     refine ⟨a1,by omega,fun r hr=>?_⟩
     obtain ⟨b1,b2⟩:=a3 r hr
     rcases b1 with rfl | ⟨o',ho',rfl⟩
     ·exact ⟨.inr ⟨_,m2,rfl⟩,by rw[ea r (by omega) (Nat.le_refl _),b2]⟩
     ·exact ⟨.inr ⟨o',ma ho',rfl⟩,by have:=ga.before ho';rw[ea o'.pos (by omega) (by omega),b2]⟩
    ·rcases List.mem_cons.1 h1 with rfl | h1
     ·have hpos:(mkIns s q2).pos=q2:=rfl
      have hop:(mkIns s q2).op=bt s q2:=rfl
      have hge:=ga.ends
      rw[hpos,hop,ea q2 (by omega) (Nat.le_refl _),ga.fin,tk2.1,tk2.2]
      refine ⟨by omega,by omega,fun r hr=>?_⟩
      obtain rfl:=(f2 r).1 hr
      exact ⟨.inl rfl,by rw[eb r (by omega),gb.fin];omega⟩
     ·have hb:=gb.before h1
      obtain ⟨a1,a2,a3⟩:=gb.ops o h1
      rw[eb o.pos hb.1]
      refine ⟨a1,by omega,fun r hr=>?_⟩
      obtain ⟨b1,b2⟩:=a3 r hr
      rcases b1 with rfl | ⟨o',ho',rfl⟩
      ·exact ⟨.inl rfl,by rw[eb r (by omega),b2]⟩
      ·exact ⟨.inr ⟨o',mb ho',rfl⟩,by rw[eb o'.pos (gb.before ho').1,b2]⟩
 ·intro o hmem
  rcases List.mem_append.1 hmem with h1 | h1
  ·rcases gp.reach o h1 with h2 | ⟨o',ho',hf⟩
   ·exact .inl h2
   ·exact .inr ⟨o',mp ho',hf⟩
  ·rcases List.mem_cons.1 h1 with rfl | h1
   ·obtain ⟨o',ho',hf⟩:=gp.out
    exact .inr ⟨o',mp ho',hf⟩
   ·rcases List.mem_append.1 h1 with h1 | h1
    ·rcases ga.reach o h1 with h2 | ⟨o',ho',hf⟩
     ·exact .inr ⟨_,m0,by rw[h2];exact (f0 q1).2 (.inl rfl)⟩
     ·exact .inr ⟨o',ma ho',hf⟩
    ·rcases List.mem_cons.1 h1 with rfl | h1
     ·obtain ⟨o',ho',hf⟩:=ga.out
      exact .inr ⟨o',ma ho',hf⟩
     ·rcases gb.reach o h1 with h2 | ⟨o',ho',hf⟩
      ·exact .inr ⟨_,m0,by rw[h2];exact (f0 t).2 (.inr rfl)⟩
      ·exact .inr ⟨o',mb ho',hf⟩
 ·obtain ⟨o,ho,hf⟩:=gb.out
  exact ⟨o,mb ho,hf⟩
 ·have:=gp.ends;omega
 ·have t1:∃ o∈lp++mkIns s q0 :: (la++mkIns s q2 :: lb),(if o.pos≤q0 then Hp o.pos else if o.pos≤q2 then Ha o.pos else Hb o.pos)=hi1:=by
   rcases gp.top with ⟨o,ho,he⟩ | he
   ·exact ⟨o,mp ho,by rw[ep o.pos (by have:=gp.before ho;omega),he]⟩
   ·exact ⟨_,m0,by show (if q0≤q0 then Hp q0 else _)=hi1;rw[if_pos (Nat.le_refl _),gp.fin,he]⟩
  have t2':∃ o∈lp++mkIns s q0 :: (la++mkIns s q2 :: lb),(if o.pos≤q0 then Hp o.pos else if o.pos≤q2 then Ha o.pos else Hb o.pos)=hi2:=by
   rcases ga.top with ⟨o,ho,he⟩ | he
   ·have hb:=ga.before ho
    exact ⟨o,ma ho,by rw[ea o.pos (by omega) (by omega),he]⟩
   ·exact ⟨_,m2,by show (if q2≤q0 then Hp q2 else if q2≤q2 then Ha q2 else Hb q2)=hi2;rw[ea q2 (by omega) (Nat.le_refl _),ga.fin,he]⟩
  by_cases c1:max hi2 hi3≤hi1
  ·obtain ⟨o,ho,he⟩:=t1
   exact .inl ⟨o,ho,by rw[he];omega⟩
  ·by_cases c2:hi3≤hi2
   ·obtain ⟨o,ho,he⟩:=t2'
    exact .inl ⟨o,ho,by rw[he];omega⟩
   ·rcases gb.top with ⟨o,ho,he⟩ | he
    ·exact .inl ⟨o,mb ho,by show (if o.pos≤q0 then Hp o.pos else if o.pos≤q2 then Ha o.pos else Hb o.pos)=_;rw[eb o.pos (gb.before ho).1,he];omega⟩
    ·exact .inr (by omega)
end Go.Proofs.YtpcjadaeolkngaaGreatDoor
namespace Go.Proofs.YtpcjadaeolkngaaGreatDoor
open Go.RowKit
structure PB where
 code:List Nat
 v:Int
 flt:Nat
 steps:Nat
 high:Nat
structure PB.Ok (x:Itm) (y:Bn) (b:PB):Prop where
 does:∀ s p,Sits s p b.code→DoesSo s x y p (p+b.code.length) b.v b.flt b.steps
 seg:∀ s p (h:Int),Sits s p b.code→0≤h→∃ l H,Seg s p (p+b.code.length) h (h+1) (h+b.high) l H
 num:In64 b.v
 le2:b.flt≤2
 pos:1≤b.high
theorem Sits.head {s:ByteArray} {p b:Nat} {c:List Nat} (h:Sits s p (b :: c)):p < s.size∧bt s p=b:=by
 have:=h 0 b rfl
 simpa using this
theorem Seg.cast {s:ByteArray} {p q q':Nat} {h e e' hi hi':Int} {l:List Ins} {H:Nat→Int} (g:Seg s p q h e hi l H) (hq:q=q') (he:e=e') (hh:hi=hi'):Seg s p q' h e' hi' l H:=by subst hq;subst he;subst hh;exact g
theorem bare_op {s:ByteArray} {p n:Nat} (hs:Sits s p [n]) (hn:2≤n∧n≤12):OpOkI s p∧(mkIns s p).next=p+1∧bt s p=n∧(mkIns s p).op=n:=by
 obtain ⟨h1,h2⟩:=hs.head
 have hb:behindN n=0:=by unfold behindN;rw[if_neg (by omega),if_neg (by omega),if_neg (by omega)]
 refine ⟨⟨h1,by omega,by rw[h2,hb];omega,by omega⟩,by simp only[mkIns,h2,hb],h2,h2⟩
theorem bare_flows {s:ByteArray} {p n:Nat} (hb:bt s p=n) (hn:2≤n∧n≤12):∀ r,Flows (mkIns s p) r ↔ r=(mkIns s p).next:=by
 have hop:(mkIns s p).op=n:=hb
 intro r
 constructor
 ·rintro (⟨_,_,_,h⟩ | ⟨h,_⟩)
  ·exact h
  ·rw[hop] at h;omega
 ·intro h
  exact .inl ⟨by omega,by omega,by omega,h⟩
def oneP (n:Nat) (p:PB):PB :=
 if p.flt≠0 then { p with code:=p.code++[n] }
 else if n=3 then { code:=p.code++[n],v:=bitN (decide (p.v=0)),flt:=0,steps:=p.steps+1,high:=p.high }
 else { code:=p.code++[n],v:=(negN p.v).1,flt:=(negN p.v).2,steps:=p.steps+1,high:=p.high }
theorem one_seg {s:ByteArray} {p n:Nat} {h:Int} {b:PB} {x:Itm} {y:Bn} (hb:b.Ok x y) (hn:n=2∨n=3) (hs:Sits s p (b.code++[n])) (hh:0≤h):∃ l H,Seg s p (p+(b.code++[n]).length) h (h+1) (h+b.high) l H:=by
 obtain ⟨l,H,g⟩:=hb.seg s p h hs.left hh
 obtain ⟨h1,h2,h3,h4⟩:=bare_op hs.right (by omega)
 have ht:takesN n=1∧laysN n=1:=by rcases hn with rfl | rfl <;> exact ⟨rfl,rfl⟩
 have g2:=seg_op (h:=h+1) h1 (by rw[h3,ht.1];omega) (bare_flows h3 (by omega))
 rw[h3,ht.1,ht.2] at g2
 have hp:=hb.pos
 exact ⟨_,_,(g.seq (g2.cast rfl rfl rfl)).cast (by rw[h2];simp;omega) (by omega) (by omega)⟩
theorem oneP_ok {x:Itm} {y:Bn} {b:PB} (hb:b.Ok x y) {n:Nat} (hn:n=2∨n=3):(oneP n b).Ok x y:=by
 have hnum:=hb.num
 by_cases hf:b.flt≠0
 ·have e:oneP n b={ b with code:=b.code++[n] }:=by unfold oneP;rw[if_pos hf]
  rw[e]
  exact ⟨fun s p hs=>(hb.does s p hs.left).fault hf,fun s p h hs hh=>one_seg hb hn hs hh,hb.num,hb.le2,hb.pos⟩
 ·have hf0:b.flt=0:=by omega
  have hd:∀ s p,Sits s p (b.code++[n])→DoesSo s x y p (p+b.code.length) b.v 0 b.steps:=fun s p hs=>by have:=hb.does s p hs.left;rw[hf0] at this;exact this
  rcases hn with rfl | rfl
  ·have e:oneP 2 b={ code:=b.code++[2],v:=(negN b.v).1,flt:=(negN b.v).2,steps:=b.steps+1,high:=b.high }:=by unfold oneP;rw[if_neg hf];rfl
   rw[e]
   refine ⟨fun s p hs=>?_,fun s p h hs hh=>one_seg hb (.inl rfl) hs hh,neg_in _,by unfold negN exact64;show (if _ then _ else _:Int × Nat).2≤2;split <;> simp,hb.pos⟩
   obtain ⟨h1,h2,h3,h4⟩:=bare_op hs.right (by omega)
   refine (hd s p hs).unary (fun st=>?_)
   have:p+(b.code++[2]).length=(mkIns s (p+b.code.length)).next:=by rw[h2];simp;omega
   rw[this]
   unfold stepM
   rw[h4]
   rfl
  ·have e:oneP 3 b={ code:=b.code++[3],v:=bitN (decide (b.v=0)),flt:=0,steps:=b.steps+1,high:=b.high }:=by unfold oneP;rw[if_neg hf];rfl
   rw[e]
   refine ⟨fun s p hs=>?_,fun s p h hs hh=>one_seg hb (.inr rfl) hs hh,by show In64 (bitN _);unfold bitN;split <;> decide,by simp,hb.pos⟩
   obtain ⟨h1,h2,h3,h4⟩:=bare_op hs.right (by omega)
   refine (hd s p hs).unary (fun st=>?_)
   have:p+(b.code++[3]).length=(mkIns s (p+b.code.length)).next:=by rw[h2];simp;omega
   rw[this]
   unfold stepM
   rw[h4]
   rfl
end Go.Proofs.YtpcjadaeolkngaaGreatDoor
namespace Go.Proofs.YtpcjadaeolkngaaGreatDoor
open Go.RowKit
def maxN (a b:Nat):Nat:=if b≤a then a else b
def twoP (n:Nat) (p q:PB):PB :=
 if p.flt≠0 then { code:=p.code++q.code++[n],v:=0,flt:=p.flt,steps:=p.steps,high:=maxN p.high (q.high+1) }
 else if q.flt≠0 then { code:=p.code++q.code++[n],v:=0,flt:=q.flt,steps:=p.steps+q.steps,high:=maxN p.high (q.high+1) }
 else { code:=p.code++q.code++[n],v:=(joinN n p.v q.v).1,flt:=(joinN n p.v q.v).2,steps:=p.steps+q.steps+1,high:=maxN p.high (q.high+1) }
theorem two_seg {s:ByteArray} {a n:Nat} {h:Int} {p q:PB} {x:Itm} {y:Bn} (hp:p.Ok x y) (hq:q.Ok x y) (hn:4≤n∧n≤12) (hs:Sits s a (p.code++q.code++[n])) (hh:0≤h):∃ l H,Seg s a (a+(p.code++q.code++[n]).length) h (h+1) (h+(maxN p.high (q.high+1):Nat)) l H:=by
 obtain ⟨l1,H1,g1⟩:=hp.seg s a h hs.left.left hh
 obtain ⟨l2,H2,g2⟩:=hq.seg s (a+p.code.length) (h+1) hs.left.right (by omega)
 have hs3:=hs.right
 rw[List.length_append,← Nat.add_assoc] at hs3
 obtain ⟨h1,h2,h3,h4⟩:=bare_op hs3 (by omega)
 have ht:takesN n=2∧laysN n=1:=⟨by unfold takesN;rw[if_neg (by omega),if_neg (by omega)],by unfold laysN;rw[if_neg (by omega)]⟩
 have g3:=seg_op (h:=h+1+1) h1 (by rw[h3,ht.1];omega) (bare_flows h3 (by omega))
 rw[h3,ht.1,ht.2] at g3
 have e1:=hp.pos
 have e2:=hq.pos
 refine ⟨_,_,((g1.seq g2).seq g3).cast (by rw[h2];simp;omega) (by omega) ?_⟩
 unfold maxN
 split <;> omega
theorem twoP_ok {x:Itm} {y:Bn} {p q:PB} (hp:p.Ok x y) (hq:q.Ok x y) {n:Nat} (hn:4≤n∧n≤12):(twoP n p q).Ok x y:=by
 have hpos:1≤maxN p.high (q.high+1):=by have:=hp.pos;unfold maxN;split <;> omega
 by_cases hf:p.flt≠0
 ·have e:twoP n p q={ code:=p.code++q.code++[n],v:=0,flt:=p.flt,steps:=p.steps,high:=maxN p.high (q.high+1) }:=by unfold twoP;rw[if_pos hf]
  rw[e]
  exact ⟨fun s a hs=>(hp.does s a hs.left.left).fault hf,fun s a h hs hh=>two_seg hp hq hn hs hh,(by decide:In64 (0:Int)),hp.le2,hpos⟩
 have hf0:p.flt=0:=by omega
 have hd:∀ s a,Sits s a (p.code++q.code++[n])→DoesSo s x y a (a+p.code.length) p.v 0 p.steps:=fun s a hs=>by have:=hp.does s a hs.left.left;rw[hf0] at this;exact this
 by_cases hg:q.flt≠0
 ·have e:twoP n p q={ code:=p.code++q.code++[n],v:=0,flt:=q.flt,steps:=p.steps+q.steps,high:=maxN p.high (q.high+1) }:=by unfold twoP;rw[if_neg hf,if_pos hg]
  rw[e]
  exact ⟨fun s a hs=>(hd s a hs).second (hq.does s _ hs.left.right) hg,fun s a h hs hh=>two_seg hp hq hn hs hh,(by decide:In64 (0:Int)),hq.le2,hpos⟩
 have hg0:q.flt=0:=by omega
 have e:twoP n p q={ code:=p.code++q.code++[n],v:=(joinN n p.v q.v).1,flt:=(joinN n p.v q.v).2,steps:=p.steps+q.steps+1,high:=maxN p.high (q.high+1) }:=by unfold twoP;rw[if_neg hf,if_neg hg]
 rw[e]
 refine ⟨fun s a hs=>?_,fun s a h hs hh=>two_seg hp hq hn hs hh,join_in _ _ _ hp.num hq.num, ?_,hpos⟩
 ·have h2:=hq.does s _ hs.left.right
  rw[hg0] at h2
  have hs3:=hs.right
  rw[List.length_append,← Nat.add_assoc] at hs3
  obtain ⟨h1,h2',h3,h4⟩:=bare_op hs3 (by omega)
  refine (hd s a hs).binary h2 (fun st=>?_)
  have:a+(p.code++q.code++[n]).length=(mkIns s (a+p.code.length+q.code.length)).next:=by rw[h2'];simp;omega
  rw[this]
  unfold stepM
  rw[h4,if_neg (by omega),if_neg (by omega),if_neg (by omega),if_neg (by omega),if_neg (by omega),if_neg (by omega),if_neg (by omega),if_neg (by omega),if_neg (by omega)]
  rfl
 ·have e2:∀ v,(exact64 v).2≤2:=fun v=>by unfold exact64;split <;> simp
  show (joinN n p.v q.v).2≤2
  unfold joinN
  (repeat' split) <;> first | exact e2 _ | simp
def jumpC (n k:Nat):List Nat:=[n,k % 256,k / 256]
theorem jump_op' {s:ByteArray} {p n k:Nat} (hs:Sits s p (jumpC n k)) (hn:n=13∨n=14∨n=15) (hk:k < 65536):OpOkI s p∧(mkIns s p).next=p+3∧bt s p=n∧(mkIns s p).op=n∧(mkIns s p).to=p+3+k∧(mkIns s p).arg=k:=by
 obtain ⟨h1,h2⟩:=hs.head
 have b1:=hs 1 (k % 256) rfl
 have b2:=hs 2 (k / 256) rfl
 have hb:behindN n=2:=by unfold behindN;rcases hn with rfl | rfl | rfl <;> rfl
 have hnx:(mkIns s p).next=p+3:=by simp only[mkIns,h2,hb]
 have harg:(mkIns s p).arg=k:=by
  rw[jump_arg s p (by show bt s p=13∨bt s p=14∨bt s p=15;rw[h2];exact hn)]
  simp only[lowU]
  rw[b1.2,show p+1+1=p+2 by omega,b2.2]
  omega
 refine ⟨⟨h1,by omega,by rw[h2,hb];omega,by omega⟩,hnx,h2,h2, ?_,harg⟩
 unfold Ins.to
 rw[hnx,harg]
 omega
def choiceC (n:Nat) (p a b:PB):List Nat:=p.code++(jumpC n (a.code.length+3)++(a.code++(jumpC 13 b.code.length++b.code)))
def choiceH (p a b:PB):Nat:=maxN (maxN p.high a.high) b.high
def choiceP (n:Nat) (p a b:PB):PB :=
 if p.flt≠0 then { code:=choiceC n p a b,v:=0,flt:=p.flt,steps:=p.steps,high:=choiceH p a b }
 else if (decide (p.v≠0))=(decide (n=15)) then { code:=choiceC n p a b,v:=b.v,flt:=b.flt,steps:=p.steps+1+b.steps,high:=choiceH p a b }
 else if a.flt=0 then { code:=choiceC n p a b,v:=a.v,flt:=0,steps:=p.steps+1+(a.steps+1),high:=choiceH p a b }
 else { code:=choiceC n p a b,v:=a.v,flt:=a.flt,steps:=p.steps+1+a.steps,high:=choiceH p a b }
theorem choice_parts {s:ByteArray} {o n:Nat} {p a b:PB} (hs:Sits s o (choiceC n p a b)) :
  Sits s o p.code∧Sits s (o+p.code.length) (jumpC n (a.code.length+3))∧Sits s (o+p.code.length+3) a.code∧Sits s (o+p.code.length+3+a.code.length) (jumpC 13 b.code.length)∧Sits s (o+p.code.length+3+a.code.length+3) b.code:=by
 have h1:=hs.right
 have h2:=h1.right
 have e1:(jumpC n (a.code.length+3)).length=3:=rfl
 rw[e1] at h2
 have h3:=h2.right
 have h4:=h3.right
 have e2:(jumpC 13 b.code.length).length=3:=rfl
 rw[e2] at h4
 exact ⟨hs.left,h1.left,h2.left,h3.left,h4⟩
theorem choice_len (n:Nat) (p a b:PB) (o:Nat):o+(choiceC n p a b).length=o+p.code.length+3+a.code.length+3+b.code.length:=by
 unfold choiceC jumpC
 simp
 omega
theorem choice_seg {s:ByteArray} {o n:Nat} {h:Int} {p a b:PB} {x:Itm} {y:Bn} (hp:p.Ok x y) (ha:a.Ok x y) (hb:b.Ok x y) (hn:n=14∨n=15) (hla:a.code.length < 60000) (hlb:b.code.length < 60000) (hs:Sits s o (choiceC n p a b)) (hh:0≤h) :
  ∃ l H,Seg s o (o+(choiceC n p a b).length) h (h+1) (h+(choiceH p a b:Nat)) l H:=by
 obtain ⟨s1,s2,s3,s4,s5⟩:=choice_parts hs
 obtain ⟨l1,H1,g1⟩:=hp.seg s o h s1 hh
 obtain ⟨l2,H2,g2⟩:=ha.seg s _ h s3 hh
 obtain ⟨l3,H3,g3⟩:=hb.seg s _ h s5 hh
 obtain ⟨a1,a2,a3,a4,a5,a6⟩:=jump_op' s2 (.inr hn) (by omega)
 obtain ⟨b1,b2,b3,b4,b5,b6⟩:=jump_op' s4 (.inl rfl) (by omega)
 have g:=seg_choice hh g1 a1 (by rw[a3];exact hn) a2 (by rw[a5];omega) g2 b1 b3 b2 b5 g3
 refine ⟨_,_,g.cast (choice_len n p a b o).symm rfl ?_⟩
 unfold choiceH maxN
 (repeat' split) <;> omega
theorem choiceP_ok {x:Itm} {y:Bn} {p a b:PB} (hp:p.Ok x y) (ha:a.Ok x y) (hb:b.Ok x y) {n:Nat} (hn:n=14∨n=15) (hla:a.code.length < 60000) (hlb:b.code.length < 60000):(choiceP n p a b).Ok x y:=by
 have hpos:1≤choiceH p a b:=by have:=hp.pos;unfold choiceH maxN;(repeat' split) <;> omega
 have hsg:∀ s o (h:Int),Sits s o (choiceC n p a b)→0≤h→∃ l H,Seg s o (o+(choiceC n p a b).length) h (h+1) (h+(choiceH p a b:Nat)) l H:=fun s o h hs hh=>choice_seg hp ha hb hn hla hlb hs hh
 by_cases hf:p.flt≠0
 ·have e:choiceP n p a b={ code:=choiceC n p a b,v:=0,flt:=p.flt,steps:=p.steps,high:=choiceH p a b }:=by unfold choiceP;rw[if_pos hf]
  rw[e]
  exact ⟨fun s o hs=>(hp.does s o (choice_parts hs).1).fault hf,hsg,(by decide:In64 (0:Int)),hp.le2,hpos⟩
 have hf0:p.flt=0:=by omega
 have hd:∀ s o,Sits s o (choiceC n p a b)→DoesSo s x y o (o+p.code.length) p.v 0 p.steps:=fun s o hs=>by have:=hp.does s o (choice_parts hs).1;rw[hf0] at this;exact this
 have hstep:∀ s o,Sits s o (choiceC n p a b)→∀ st,stepM x y (mkIns s (o+p.code.length)) (p.v :: st)=.inr (if (decide (p.v≠0))=(decide (n=15)) then o+p.code.length+3+a.code.length+3 else o+p.code.length+3,st):=by
  intro s o hs st
  obtain ⟨a1,a2,a3,a4,a5,a6⟩:=jump_op' (choice_parts hs).2.1 (.inr hn) (by omega)
  have hto:(mkIns s (o+p.code.length)).to=o+p.code.length+3+a.code.length+3:=by rw[a5];omega
  unfold stepM
  rw[a4]
  rcases hn with rfl | rfl
  ·show Sum.inr ((if p.v=0 then (mkIns s (o+p.code.length)).to else (mkIns s (o+p.code.length)).next),st)=_
   rw[hto,a2]
   by_cases hv:p.v=0 <;> simp[hv]
  ·show Sum.inr ((if p.v=0 then (mkIns s (o+p.code.length)).next else (mkIns s (o+p.code.length)).to),st)=_
   rw[hto,a2]
   by_cases hv:p.v=0 <;> simp[hv]
 by_cases hc:(decide (p.v≠0))=(decide (n=15))
 ·have e:choiceP n p a b={ code:=choiceC n p a b,v:=b.v,flt:=b.flt,steps:=p.steps+1+b.steps,high:=choiceH p a b }:=by unfold choiceP;rw[if_neg hf,if_pos hc]
  rw[e]
  refine ⟨fun s o hs=>?_,hsg,hb.num,hb.le2,hpos⟩
  have h2:=hb.does s _ (choice_parts hs).2.2.2.2
  rw[← choice_len n p a b o] at h2
  exact (hd s o hs).goTo (fun st=>by rw[hstep s o hs st,if_pos hc]) h2
 ·have hgo:∀ s o,Sits s o (choiceC n p a b)→∀ st,stepM x y (mkIns s (o+p.code.length)) (p.v :: st)=.inr (o+p.code.length+3,st):=fun s o hs st=>by rw[hstep s o hs st,if_neg hc]
  by_cases hg:a.flt=0
  ·have e:choiceP n p a b={ code:=choiceC n p a b,v:=a.v,flt:=0,steps:=p.steps+1+(a.steps+1),high:=choiceH p a b }:=by unfold choiceP;rw[if_neg hf,if_neg hc,if_pos hg]
   rw[e]
   refine ⟨fun s o hs=>?_,hsg,ha.num,by simp,hpos⟩
   have h2:=ha.does s _ (choice_parts hs).2.2.1
   rw[hg] at h2
   obtain ⟨b1,b2,b3,b4,b5,b6⟩:=jump_op' (choice_parts hs).2.2.2.1 (.inl rfl) (by omega)
   have h3:=h2.over (e:=o+(choiceC n p a b).length) (fun st=>by
    unfold stepM
    rw[b4]
    show Sum.inr ((mkIns s _).to,st)=_
    rw[b5,choice_len n p a b o])
   exact (hd s o hs).goTo (hgo s o hs) h3
  ·have e:choiceP n p a b={ code:=choiceC n p a b,v:=a.v,flt:=a.flt,steps:=p.steps+1+a.steps,high:=choiceH p a b }:=by unfold choiceP;rw[if_neg hf,if_neg hc,if_neg hg]
   rw[e]
   refine ⟨fun s o hs=>?_,hsg,ha.num,ha.le2,hpos⟩
   exact (hd s o hs).goTo (hgo s o hs) ((ha.does s _ (choice_parts hs).2.2.1).fault hg)
end Go.Proofs.YtpcjadaeolkngaaGreatDoor
