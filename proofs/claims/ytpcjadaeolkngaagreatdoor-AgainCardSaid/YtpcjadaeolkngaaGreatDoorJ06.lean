/-
  Images of known making: leaves, operations of one and of two numbers, choices: each does what it is worth, with heights up to its own; plain.
-/
import Derived.Test.YtpcjadaeolkngaaGreatDoorJ05
import Derived.WalkKit
import Derived.WalkSpells
import Derived.WalkLawsBesides
import Derived.Deep.QuietTactic
import Derived.BigQuiet
import Derived.Test.YtpcjadaeolkngaaGreatDoorProg
import Derived.Test.YtpcjadaeolkngaaGreatDoorJ04
import Derived.Deep.Light
set_option linter.unusedVariables false
set_option linter.unusedSimpArgs false
namespace Go.Proofs.YtpcjadaeolkngaaGreatDoor
open Go.RowKit
structure PB where
 code:List Nat
 v:Int
 flt:Nat
 steps:Nat
 high:Nat
structure PB.Ok(x:Itm)(y:Bn)(b:PB):Prop where
 does:∀ s p,Sits s p b.code→DoesSo s x y p (p+b.code.length) b.v b.flt b.steps
 seg:∀ s p (h:Int),Sits s p b.code→0≤h→∃ l H,Seg s p (p+b.code.length) h (h+1) (h+b.high) l H
 num:In64 b.v
 le2:b.flt≤2
 pos:1≤b.high
theorem Sits.head{s:ByteArray}{p b:Nat}{c:List Nat}(h:Sits s p (b :: c)):p<s.size∧bt s p=b:=by
 have:=h 0 b rfl
 simpa using this
theorem Seg.cast{s:ByteArray}{p q q':Nat}{h e e' hi hi':Int}{l:List Ins}{H:Nat→Int}(g:Seg s p q h e hi l H)(hq:q=q')(he:e=e')(hh:hi=hi'):Seg s p q' h e' hi' l H:=by subst hq;subst he;subst hh;exact g
theorem bare_op{s:ByteArray}{p n:Nat}(hs:Sits s p [n])(hn:2≤n∧n≤12):OpOkI s p∧(mkIns s p).next=p+1∧bt s p=n∧(mkIns s p).op=n:=by
 obtain ⟨h1,h2⟩:=hs.head
 have hb:behindN n=0:=by unfold behindN;rw[if_neg (by omega),if_neg (by omega),if_neg (by omega)]
 refine ⟨⟨h1,by omega,by rw[h2,hb];omega,by omega⟩,by simp only[mkIns,h2,hb],h2,h2⟩
theorem bare_flows{s:ByteArray}{p n:Nat}(hb:bt s p=n)(hn:2≤n∧n≤12):∀ r,Flows (mkIns s p) r↔r=(mkIns s p).next:=by
 have hop:(mkIns s p).op=n:=hb
 intro r
 constructor
 ·rintro (⟨_,_,_,h⟩ | ⟨h,_⟩)
  ·exact h
  ·rw[hop]at h;omega
 ·intro h
  exact .inl ⟨by omega,by omega,by omega,h⟩
def oneP(n:Nat)(p:PB):PB :=
 if p.flt≠0 then { p with code:=p.code++[n] }
 else if n=3 then { code:=p.code++[n],v:=bitN (decide (p.v=0)),flt:=0,steps:=p.steps+1,high:=p.high }
 else { code:=p.code++[n],v:=(negN p.v).1,flt:=(negN p.v).2,steps:=p.steps+1,high:=p.high }
theorem one_seg{s:ByteArray}{p n:Nat}{h:Int}{b:PB}{x:Itm}{y:Bn}(hb:b.Ok x y)(hn:n=2∨n=3)(hs:Sits s p (b.code++[n]))(hh:0≤h):∃ l H,Seg s p (p+(b.code++[n]).length) h (h+1) (h+b.high) l H:=by
 obtain ⟨l,H,g⟩:=hb.seg s p h hs.left hh
 obtain ⟨h1,h2,h3,h4⟩:=bare_op hs.right (by omega)
 have ht:takesN n=1∧laysN n=1:=by rcases hn with rfl | rfl <;> exact ⟨rfl,rfl⟩
 have g2:=seg_op (h:=h+1) h1 (by rw[h3,ht.1];omega) (bare_flows h3 (by omega))
 rw[h3,ht.1,ht.2]at g2
 have hp:=hb.pos
 exact ⟨_,_,(g.seq (g2.cast rfl rfl rfl)).cast (by rw[h2];simp;omega) (by omega) (by omega)⟩
theorem oneP_ok{x:Itm}{y:Bn}{b:PB}(hb:b.Ok x y){n:Nat}(hn:n=2∨n=3):(oneP n b).Ok x y:=by
 have hnum:=hb.num
 by_cases hf:b.flt≠0
 ·have e:oneP n b={ b with code:=b.code++[n] }:=by unfold oneP;rw[if_pos hf]
  rw[e]
  exact ⟨fun s p hs=>(hb.does s p hs.left).fault hf,fun s p h hs hh=>one_seg hb hn hs hh,hb.num,hb.le2,hb.pos⟩
 ·have hf0:b.flt=0:=by omega
  have hd:∀ s p,Sits s p (b.code++[n])→DoesSo s x y p (p+b.code.length) b.v 0 b.steps:=fun s p hs=>by have:=hb.does s p hs.left;rw[hf0]at this;exact this
  rcases hn with rfl | rfl
  ·have e:oneP 2 b={ code:=b.code++[2],v:=(negN b.v).1,flt:=(negN b.v).2,steps:=b.steps+1,high:=b.high }:=by unfold oneP;rw[if_neg hf];rfl
   rw[e]
   refine ⟨fun s p hs=>?_,fun s p h hs hh=>one_seg hb (.inl rfl) hs hh,neg_in _,by unfold negN exact64;show (if _ then _ else _:Int×Nat).2≤2;split <;> simp,hb.pos⟩
   obtain ⟨h1,h2,h3,h4⟩:=bare_op hs.right (by omega)
   refine (hd s p hs).unary (fun st=>?_)
   have:p+(b.code++[2]).length=(mkIns s (p+b.code.length)).next:=by rw[h2];simp;omega
   rw[this]
   unfold stepM
   rw[h4]
   rfl
  ·have e:oneP 3 b={ code:=b.code++[3],v:=bitN (decide (b.v=0)),flt:=0,steps:=b.steps+1,high:=b.high }:=by unfold oneP;rw[if_neg hf];rfl
   rw[e]
   refine ⟨fun s p hs=>?_,fun s p h hs hh=>one_seg hb (.inr rfl) hs hh,by show In64 (bitN _);unfold bitN;split <;> decide,by simp,hb.pos⟩
   obtain ⟨h1,h2,h3,h4⟩:=bare_op hs.right (by omega)
   refine (hd s p hs).unary (fun st=>?_)
   have:p+(b.code++[3]).length=(mkIns s (p+b.code.length)).next:=by rw[h2];simp;omega
   rw[this]
   unfold stepM
   rw[h4]
   rfl
def maxN(a b:Nat):Nat:=if b≤a then a else b
def twoP(n:Nat)(p q:PB):PB :=
 if p.flt≠0 then { code:=p.code++q.code++[n],v:=0,flt:=p.flt,steps:=p.steps,high:=maxN p.high (q.high+1) }
 else if q.flt≠0 then { code:=p.code++q.code++[n],v:=0,flt:=q.flt,steps:=p.steps+q.steps,high:=maxN p.high (q.high+1) }
 else { code:=p.code++q.code++[n],v:=(joinN n p.v q.v).1,flt:=(joinN n p.v q.v).2,steps:=p.steps+q.steps+1,high:=maxN p.high (q.high+1) }
theorem two_seg{s:ByteArray}{a n:Nat}{h:Int}{p q:PB}{x:Itm}{y:Bn}(hp:p.Ok x y)(hq:q.Ok x y)(hn:4≤n∧n≤12)(hs:Sits s a (p.code++q.code++[n]))(hh:0≤h):∃ l H,Seg s a (a+(p.code++q.code++[n]).length) h (h+1) (h+(maxN p.high (q.high+1):Nat)) l H:=by
 obtain ⟨l1,H1,g1⟩:=hp.seg s a h hs.left.left hh
 obtain ⟨l2,H2,g2⟩:=hq.seg s (a+p.code.length) (h+1) hs.left.right (by omega)
 have hs3:=hs.right
 rw[List.length_append,← Nat.add_assoc]at hs3
 obtain ⟨h1,h2,h3,h4⟩:=bare_op hs3 (by omega)
 have ht:takesN n=2∧laysN n=1:=⟨by unfold takesN;rw[if_neg (by omega),if_neg (by omega)],by unfold laysN;rw[if_neg (by omega)]⟩
 have g3:=seg_op (h:=h+1+1) h1 (by rw[h3,ht.1];omega) (bare_flows h3 (by omega))
 rw[h3,ht.1,ht.2]at g3
 have e1:=hp.pos
 have e2:=hq.pos
 refine ⟨_,_,((g1.seq g2).seq g3).cast (by rw[h2];simp;omega) (by omega) ?_⟩
 unfold maxN
 split <;> omega
theorem twoP_ok{x:Itm}{y:Bn}{p q:PB}(hp:p.Ok x y)(hq:q.Ok x y){n:Nat}(hn:4≤n∧n≤12):(twoP n p q).Ok x y:=by
 have hpos:1≤maxN p.high (q.high+1):=by have:=hp.pos;unfold maxN;split <;> omega
 by_cases hf:p.flt≠0
 ·have e:twoP n p q={ code:=p.code++q.code++[n],v:=0,flt:=p.flt,steps:=p.steps,high:=maxN p.high (q.high+1) }:=by unfold twoP;rw[if_pos hf]
  rw[e]
  exact ⟨fun s a hs=>(hp.does s a hs.left.left).fault hf,fun s a h hs hh=>two_seg hp hq hn hs hh,(by decide:In64 (0:Int)),hp.le2,hpos⟩
 have hf0:p.flt=0:=by omega
 have hd:∀ s a,Sits s a (p.code++q.code++[n])→DoesSo s x y a (a+p.code.length) p.v 0 p.steps:=fun s a hs=>by have:=hp.does s a hs.left.left;rw[hf0]at this;exact this
 by_cases hg:q.flt≠0
 ·have e:twoP n p q={ code:=p.code++q.code++[n],v:=0,flt:=q.flt,steps:=p.steps+q.steps,high:=maxN p.high (q.high+1) }:=by unfold twoP;rw[if_neg hf,if_pos hg]
  rw[e]
  exact ⟨fun s a hs=>(hd s a hs).second (hq.does s _ hs.left.right) hg,fun s a h hs hh=>two_seg hp hq hn hs hh,(by decide:In64 (0:Int)),hq.le2,hpos⟩
 have hg0:q.flt=0:=by omega
 have e:twoP n p q={ code:=p.code++q.code++[n],v:=(joinN n p.v q.v).1,flt:=(joinN n p.v q.v).2,steps:=p.steps+q.steps+1,high:=maxN p.high (q.high+1) }:=by unfold twoP;rw[if_neg hf,if_neg hg]
 rw[e]
 refine ⟨fun s a hs=>?_,fun s a h hs hh=>two_seg hp hq hn hs hh,join_in _ _ _ hp.num hq.num, ?_,hpos⟩
 ·have h2:=hq.does s _ hs.left.right
  rw[hg0]at h2
  have hs3:=hs.right
  rw[List.length_append,← Nat.add_assoc]at hs3
  obtain ⟨h1,h2',h3,h4⟩:=bare_op hs3 (by omega)
  refine (hd s a hs).binary h2 (fun st=>?_)
  have:a+(p.code++q.code++[n]).length=(mkIns s (a+p.code.length+q.code.length)).next:=by rw[h2'];simp;omega
  rw[this]
  unfold stepM
  rw[h4,if_neg (by omega),if_neg (by omega),if_neg (by omega),if_neg (by omega),if_neg (by omega),if_neg (by omega),if_neg (by omega),if_neg (by omega),if_neg (by omega)]
  rfl
 ·have e2:∀ v,(exact64 v).2≤2:=fun v=>by unfold exact64;split <;> simp
  show (joinN n p.v q.v).2≤2
  unfold joinN
  (repeat' split) <;> first | exact e2 _ | simp
def jumpC(n k:Nat):List Nat:=[n,k % 256,k / 256]
theorem jump_op'{s:ByteArray}{p n k:Nat}(hs:Sits s p (jumpC n k))(hn:n=13∨n=14∨n=15)(hk:k<65536):OpOkI s p∧(mkIns s p).next=p+3∧bt s p=n∧(mkIns s p).op=n∧(mkIns s p).to=p+3+k∧(mkIns s p).arg=k:=by
 obtain ⟨h1,h2⟩:=hs.head
 have b1:=hs 1 (k % 256) rfl
 have b2:=hs 2 (k / 256) rfl
 have hb:behindN n=2:=by unfold behindN;rcases hn with rfl | rfl | rfl <;> rfl
 have hnx:(mkIns s p).next=p+3:=by simp only[mkIns,h2,hb]
 have harg:(mkIns s p).arg=k:=by
  rw[jump_arg s p (by show bt s p=13∨bt s p=14∨bt s p=15;rw[h2];exact hn)]
  simp only[lowU]
  rw[b1.2,show p+1+1=p+2 by omega,b2.2]
  omega
 refine ⟨⟨h1,by omega,by rw[h2,hb];omega,by omega⟩,hnx,h2,h2, ?_,harg⟩
 unfold Ins.to
 rw[hnx,harg]
 omega
def choiceC(n:Nat)(p a b:PB):List Nat:=p.code++(jumpC n (a.code.length+3)++(a.code++(jumpC 13 b.code.length++b.code)))
def choiceH(p a b:PB):Nat:=maxN (maxN p.high a.high) b.high
def choiceP(n:Nat)(p a b:PB):PB :=
 if p.flt≠0 then { code:=choiceC n p a b,v:=0,flt:=p.flt,steps:=p.steps,high:=choiceH p a b }
 else if (decide (p.v≠0))=(decide (n=15)) then { code:=choiceC n p a b,v:=b.v,flt:=b.flt,steps:=p.steps+1+b.steps,high:=choiceH p a b }
 else if a.flt=0 then { code:=choiceC n p a b,v:=a.v,flt:=0,steps:=p.steps+1+(a.steps+1),high:=choiceH p a b }
 else { code:=choiceC n p a b,v:=a.v,flt:=a.flt,steps:=p.steps+1+a.steps,high:=choiceH p a b }
theorem choice_parts{s:ByteArray}{o n:Nat}{p a b:PB}(hs:Sits s o (choiceC n p a b)) :
  Sits s o p.code∧Sits s (o+p.code.length) (jumpC n (a.code.length+3))∧Sits s (o+p.code.length+3) a.code∧Sits s (o+p.code.length+3+a.code.length) (jumpC 13 b.code.length)∧Sits s (o+p.code.length+3+a.code.length+3) b.code:=by
 have h1:=hs.right
 have h2:=h1.right
 have e1:(jumpC n (a.code.length+3)).length=3:=rfl
 rw[e1]at h2
 have h3:=h2.right
 have h4:=h3.right
 have e2:(jumpC 13 b.code.length).length=3:=rfl
 rw[e2]at h4
 exact ⟨hs.left,h1.left,h2.left,h3.left,h4⟩
theorem choice_len(n:Nat)(p a b:PB)(o:Nat):o+(choiceC n p a b).length=o+p.code.length+3+a.code.length+3+b.code.length:=by
 unfold choiceC jumpC
 simp
 omega
theorem choice_seg{s:ByteArray}{o n:Nat}{h:Int}{p a b:PB}{x:Itm}{y:Bn}(hp:p.Ok x y)(ha:a.Ok x y)(hb:b.Ok x y)(hn:n=14∨n=15)(hla:a.code.length<60000)(hlb:b.code.length<60000)(hs:Sits s o (choiceC n p a b))(hh:0≤h) :
  ∃ l H,Seg s o (o+(choiceC n p a b).length) h (h+1) (h+(choiceH p a b:Nat)) l H:=by
 obtain ⟨s1,s2,s3,s4,s5⟩:=choice_parts hs
 obtain ⟨l1,H1,g1⟩:=hp.seg s o h s1 hh
 obtain ⟨l2,H2,g2⟩:=ha.seg s _ h s3 hh
 obtain ⟨l3,H3,g3⟩:=hb.seg s _ h s5 hh
 obtain ⟨a1,a2,a3,a4,a5,a6⟩:=jump_op' s2 (.inr hn) (by omega)
 obtain ⟨b1,b2,b3,b4,b5,b6⟩:=jump_op' s4 (.inl rfl) (by omega)
 have g:=seg_choice hh g1 a1 (by rw[a3];exact hn) a2 (by rw[a5];omega) g2 b1 b3 b2 b5 g3
 refine ⟨_,_,g.cast (choice_len n p a b o).symm rfl ?_⟩
 unfold choiceH maxN
 (repeat' split) <;> omega
theorem choiceP_ok{x:Itm}{y:Bn}{p a b:PB}(hp:p.Ok x y)(ha:a.Ok x y)(hb:b.Ok x y){n:Nat}(hn:n=14∨n=15)(hla:a.code.length<60000)(hlb:b.code.length<60000):(choiceP n p a b).Ok x y:=by
 have hpos:1≤choiceH p a b:=by have:=hp.pos;unfold choiceH maxN;(repeat' split) <;> omega
 have hsg:∀ s o (h:Int),Sits s o (choiceC n p a b)→0≤h→∃ l H,Seg s o (o+(choiceC n p a b).length) h (h+1) (h+(choiceH p a b:Nat)) l H:=fun s o h hs hh=>choice_seg hp ha hb hn hla hlb hs hh
 by_cases hf:p.flt≠0
 ·have e:choiceP n p a b={ code:=choiceC n p a b,v:=0,flt:=p.flt,steps:=p.steps,high:=choiceH p a b }:=by unfold choiceP;rw[if_pos hf]
  rw[e]
  exact ⟨fun s o hs=>(hp.does s o (choice_parts hs).1).fault hf,hsg,(by decide:In64 (0:Int)),hp.le2,hpos⟩
 have hf0:p.flt=0:=by omega
 have hd:∀ s o,Sits s o (choiceC n p a b)→DoesSo s x y o (o+p.code.length) p.v 0 p.steps:=fun s o hs=>by have:=hp.does s o (choice_parts hs).1;rw[hf0]at this;exact this
 have hstep:∀ s o,Sits s o (choiceC n p a b)→∀ st,stepM x y (mkIns s (o+p.code.length)) (p.v :: st)=.inr (if (decide (p.v≠0))=(decide (n=15)) then o+p.code.length+3+a.code.length+3 else o+p.code.length+3,st):=by
  intro s o hs st
  obtain ⟨a1,a2,a3,a4,a5,a6⟩:=jump_op' (choice_parts hs).2.1 (.inr hn) (by omega)
  have hto:(mkIns s (o+p.code.length)).to=o+p.code.length+3+a.code.length+3:=by rw[a5];omega
  unfold stepM
  rw[a4]
  rcases hn with rfl | rfl
  ·show Sum.inr ((if p.v=0 then (mkIns s (o+p.code.length)).to else (mkIns s (o+p.code.length)).next),st)=_
   rw[hto,a2]
   by_cases hv:p.v=0 <;> simp[hv]
  ·show Sum.inr ((if p.v=0 then (mkIns s (o+p.code.length)).next else (mkIns s (o+p.code.length)).to),st)=_
   rw[hto,a2]
   by_cases hv:p.v=0 <;> simp[hv]
 by_cases hc:(decide (p.v≠0))=(decide (n=15))
 ·have e:choiceP n p a b={ code:=choiceC n p a b,v:=b.v,flt:=b.flt,steps:=p.steps+1+b.steps,high:=choiceH p a b }:=by unfold choiceP;rw[if_neg hf,if_pos hc]
  rw[e]
  refine ⟨fun s o hs=>?_,hsg,hb.num,hb.le2,hpos⟩
  have h2:=hb.does s _ (choice_parts hs).2.2.2.2
  rw[← choice_len n p a b o]at h2
  exact (hd s o hs).goTo (fun st=>by rw[hstep s o hs st,if_pos hc]) h2
 ·have hgo:∀ s o,Sits s o (choiceC n p a b)→∀ st,stepM x y (mkIns s (o+p.code.length)) (p.v :: st)=.inr (o+p.code.length+3,st):=fun s o hs st=>by rw[hstep s o hs st,if_neg hc]
  by_cases hg:a.flt=0
  ·have e:choiceP n p a b={ code:=choiceC n p a b,v:=a.v,flt:=0,steps:=p.steps+1+(a.steps+1),high:=choiceH p a b }:=by unfold choiceP;rw[if_neg hf,if_neg hc,if_pos hg]
   rw[e]
   refine ⟨fun s o hs=>?_,hsg,ha.num,by simp,hpos⟩
   have h2:=ha.does s _ (choice_parts hs).2.2.1
   rw[hg]at h2
   obtain ⟨b1,b2,b3,b4,b5,b6⟩:=jump_op' (choice_parts hs).2.2.2.1 (.inl rfl) (by omega)
   have h3:=h2.over (e:=o+(choiceC n p a b).length) (fun st=>by
    unfold stepM
    rw[b4]
    show Sum.inr ((mkIns s _).to,st)=_
    rw[b5,choice_len n p a b o])
   exact (hd s o hs).goTo (hgo s o hs) h3
  ·have e:choiceP n p a b={ code:=choiceC n p a b,v:=a.v,flt:=a.flt,steps:=p.steps+1+a.steps,high:=choiceH p a b }:=by unfold choiceP;rw[if_neg hf,if_neg hc,if_neg hg]
   rw[e]
   refine ⟨fun s o hs=>?_,hsg,ha.num,ha.le2,hpos⟩
   exact (hd s o hs).goTo (hgo s o hs) ((ha.does s _ (choice_parts hs).2.2.1).fault hg)
def leafA(k:Nat)(x:Itm)(y:Bn):PB:={ code:=[1,k],v:=attrN k x y,flt:=0,steps:=1,high:=1 }
theorem leaf_seg{s:ByteArray}{p c:Nat}{h:Int}(ho:OpOkI s p)(hc:bt s p=c)(hk:c=0∨c=1)(hh:0≤h):∃ l H,Seg s p (mkIns s p).next h (h+1) (h+1) l H:=by
 have hop:(mkIns s p).op=c:=hc
 have ht:takesN c=0∧laysN c=1:=by rcases hk with rfl | rfl <;> exact ⟨rfl,rfl⟩
 have hf:∀ r,Flows (mkIns s p) r↔r=(mkIns s p).next:=by
  intro r
  constructor
  ·rintro (⟨_,_,_,h⟩ | ⟨h,_⟩)
   ·exact h
   ·rw[hop]at h;omega
  ·intro h
   exact .inl ⟨by omega,by omega,by omega,h⟩
 have g:=seg_op (h:=h) ho (by rw[hc,ht.1];omega) hf
 rw[hc,ht.1,ht.2]at g
 exact ⟨_,_,g.cast rfl (by omega) (by omega)⟩
theorem leafA_ok{x:Itm}{y:Bn}(hx:x.Ok)(hy:y.Ok){k:Nat}(hk:k<7):(leafA k x y).Ok x y:=by
 have hop:∀ s p,Sits s p [1,k]→OpOkI s p∧bt s p=1∧(mkIns s p).next=p+2∧(mkIns s p).arg=k:=by
  intro s p hs
  obtain ⟨h1,h2⟩:=hs.head
  have b1:=hs 1 k rfl
  have hb:behindN 1=1:=rfl
  refine ⟨⟨h1,by omega,by rw[h2,hb];omega,fun _=>by rw[b1.2];omega⟩,h2,by simp only[mkIns,h2,hb], ?_⟩
  show IntKind.i64.wrap (lowU s (p+1) (behindN (bt s p)):Nat)=_
  rw[h2,hb,lowU_one,b1.2]
  exact wrap_small _ (by omega)
 refine ⟨fun s p hs=>?_,fun s p h hs hh=>?_,attr_in _ _ _ hx hy,by simp[leafA],by simp[leafA]⟩
 ·obtain ⟨h1,h2,h3,h4⟩:=hop s p hs
  refine does_one (fun st=>?_)
  have e:p+(leafA k x y).code.length=(mkIns s p).next:=by rw[h3];rfl
  rw[e]
  unfold stepM
  have h5:(mkIns s p).op=1:=h2
  rw[h5]
  show Sum.inr ((mkIns s p).next,attrN (mkIns s p).arg x y :: st)=_
  rw[h4]
  rfl
 ·obtain ⟨h1,h2,h3,h4⟩:=hop s p hs
  obtain ⟨l,H,g⟩:=leaf_seg h1 h2 (.inr rfl) hh
  exact ⟨l,H,g.cast (by rw[h3];rfl) rfl rfl⟩
def bytesN:Nat→Nat→List Nat
 | _,0=>[]
 | u,n+1=>u % 256 :: bytesN (u / 256) n
theorem bytesN_length:∀ (n u:Nat),(bytesN u n).length=n
 | 0,_=>rfl
 | n+1,u=>by simp only[bytesN,List.length_cons];rw[bytesN_length n]
theorem bytes_low{s:ByteArray}:∀ (n u p:Nat),Sits s p (bytesN u n)→lowU s p n=u % 256 ^ n
 | 0,u,p,_=>by simp[lowU,Nat.mod_one]
 | n+1,u,p,hs=>by
  have h1:=hs.head
  have h2:Sits s (p+1) (bytesN (u / 256) n):=Sits.right (c:=[u % 256]) hs
  simp only[lowU]
  rw[h1.2,bytes_low n _ _ h2,Nat.pow_succ,Nat.mul_comm (256 ^ n) 256,Nat.mod_mul]
def eightC(v:Int):List Nat:=bytesN (v % 18446744073709551616).toNat 8
def leafI(v:Int):PB:={ code:=0 :: eightC v,v:=v,flt:=0,steps:=1,high:=1 }
theorem eight_low{s:ByteArray}{p:Nat}{v:Int}(hs:Sits s p (eightC v)):lowU s p 8=(v % 18446744073709551616).toNat:=by
 rw[bytes_low 8 _ _ hs]
 exact Nat.mod_eq_of_lt (by omega)
theorem leafI_ok{x:Itm}{y:Bn}{v:Int}(hv:In64 v):(leafI v).Ok x y:=by
 have hop:∀ s p,Sits s p (0 :: eightC v)→OpOkI s p∧bt s p=0∧(mkIns s p).next=p+9∧(mkIns s p).arg=v:=by
  intro s p hs
  obtain ⟨h1,h2⟩:=hs.head
  have b8:p+8<s.size:=by
   obtain ⟨c8,h8⟩:∃ c,(0 :: eightC v)[8]?=some c:=⟨_,List.getElem?_eq_getElem (by simp[eightC,bytesN_length])⟩
   exact (hs 8 c8 h8).1
  have hb:behindN 0=8:=rfl
  refine ⟨⟨h1,by omega,by rw[h2,hb];omega,by omega⟩,h2,by simp only[mkIns,h2,hb], ?_⟩
  show IntKind.i64.wrap (lowU s (p+1) (behindN (bt s p)):Nat)=_
  have hs':Sits s (p+1) (eightC v):=Sits.right (c:=[0]) hs
  rw[h2,hb,eight_low hs',IntKind.wrap_i64]
  unfold In64 at hv
  omega
 refine ⟨fun s p hs=>?_,fun s p h hs hh=>?_,hv,by simp[leafI],by simp[leafI]⟩
 ·obtain ⟨h1,h2,h3,h4⟩:=hop s p hs
  refine does_one (fun st=>?_)
  have e:p+(leafI v).code.length=(mkIns s p).next:=by rw[h3];simp[leafI,eightC,bytesN_length]
  rw[e]
  unfold stepM
  have h5:(mkIns s p).op=0:=h2
  rw[h5]
  show Sum.inr ((mkIns s p).next,(mkIns s p).arg :: st)=_
  rw[h4]
  rfl
 ·obtain ⟨h1,h2,h3,h4⟩:=hop s p hs
  obtain ⟨l,H,g⟩:=leaf_seg h1 h2 (.inl rfl) hh
  exact ⟨l,H,g.cast (by rw[h3];simp[leafI,eightC,bytesN_length]) rfl rfl⟩
def imgC(H:Nat)(c:List Nat):List Nat:=83 :: 76 :: H :: c
theorem Sits.img{s:ByteArray}{H:Nat}{c:List Nat}(h:Sits s 0 (imgC H c)):bt s 0=83∧bt s 1=76∧bt s 2=H∧Sits s 3 c:=by
 refine ⟨(h 0 _ rfl).2,(h 1 _ rfl).2,(h 2 _ rfl).2, ?_⟩
 have:=Sits.right (c:=[83,76,H]) (d:=c) h
 simpa using this
def Blk(w:World)(b:Nat)(cs:Array Value)(t:TypeId):Prop:=w.heap[b]?=some (.cells cs t (0,0))
theorem Blk.cell{w:World}{b:Nat}{cs:Array Value}{t:TypeId}(h:Blk w b cs t)(i:Nat):w.cell? ⟨b,i,none⟩=cs[i]?:=by
 unfold Blk at h;simp[World.cell?,h]
theorem Blk.free{w:World}{b:Nat}{cs:Array Value}{t:TypeId}(h:Blk w b cs t)(i:Nat):w.frozen? ⟨b,i,none⟩=false:=by
 unfold Blk at h;simp[World.frozen?,h]
theorem Blk.lt{w:World}{b:Nat}{cs:Array Value}{t:TypeId}(h:Blk w b cs t):b<w.heap.size:=lt_of_block h
theorem Blk.set{w:World}{b:Nat}{cs:Array Value}{t:TypeId}(h:Blk w b cs t)(i:Nat)(v:Value):Blk (w.setCell ⟨b,i,none⟩ v) b (cs.setIfInBounds i v) t:=by
 have hlt:=h.lt
 have h':w.heap[b]=.cells cs t (0,0):=by unfold Blk at h;simpa[Array.getElem?_eq_getElem hlt] using h
 show (w.heap.modify b _)[b]?=_
 rw[Array.getElem?_eq_getElem (by simpa using hlt),Array.getElem_modify_self,h']
 rfl
theorem Blk.other{w:World}{b:Nat}{cs:Array Value}{t:TypeId}(h:Blk w b cs t)(a:Addr)(v:Value)(hne:b≠a.block):Blk (w.setCell a v) b cs t:=by
 unfold Blk;rw[Below.heap_setCell _ _ _ _ hne];exact h
theorem Blk.below{w w':World}{b B:Nat}{cs:Array Value}{t:TypeId}(h:Blk w b cs t)(hb:Below B w w')(hB:b<B):Blk w' b cs t:=by
 unfold Blk;rw[hb.block b hB];exact h
theorem Blk.alloc{w:World}{b:Nat}{cs:Array Value}{t:TypeId}(h:Blk w b cs t)(o:Obj):Blk (w.alloc o) b cs t :=
 h.below ((Below.refl w.heap.size w).alloc (Nat.le_refl _) o) h.lt
theorem Blk.new(w:World)(cs:Array Value)(t:TypeId):Blk (w.alloc (.cells cs t)) w.heap.size cs t:=heap_alloc_new w _
theorem Blk.drew{w:World}{b:Nat}{cs:Array Value}{t:TypeId}(h:Blk w b cs t):Blk w.drew b cs t:=h
theorem ret_bool{a b:Bool}(h:a=b):Ending.returned (.bool a)=.returned (.bool b):=by rw[h]
theorem ret_int{k:IntKind}{a b:Int}(h:a=b):Ending.returned (.int k a)=.returned (.int k b):=by rw[h]
def Reads(w:World)(v:Value)(n:Nat)(xs:List Value):Prop :=
 (v=.slice none 0 0∧n=0∧xs=[])∨∃ b o cap,v=.slice (some ⟨b,o,none⟩) n cap∧n≤cap∧b<w.heap.size∧∀ j u,xs[j]?=some u→w.cell? ⟨b,o+j,none⟩=some u
theorem Reads.below{w w':World}{v:Value}{n:Nat}{xs:List Value}(h:Reads w v n xs)(hb:Below w.heap.size w w'):Reads w' v n xs:=by
 rcases h with h | ⟨b,o,cap,rfl,hn,hlt,hc⟩
 ·exact .inl h
 ·exact .inr ⟨b,o,cap,rfl,hn,Nat.lt_of_lt_of_le hlt hb.size,fun j u hj=>(hb.cell (p:=⟨b,o+j,none⟩) hlt).trans (hc j u hj)⟩
theorem Reads.pos{w:World}{v:Value}{n:Nat}{xs:List Value}(h:Reads w v n xs)(hn:0<n) :
  ∃ g o cap,v=.slice (some ⟨g,o,none⟩) n cap∧n≤cap∧g<w.heap.size∧∀ j u,xs[j]?=some u→w.cell? ⟨g,o+j,none⟩=some u:=by
 rcases h with ⟨_,h,_⟩ | h
 ·omega
 ·exact h
theorem Reads.alloc{w:World}{v:Value}{n:Nat}{xs:List Value}(h:Reads w v n xs)(o:Obj):Reads (w.alloc o) v n xs:=h.below ((Below.refl _ _).alloc (Nat.le_refl _) o)
theorem Reads.shape{w:World}{v:Value}{n:Nat}{xs:List Value}(h:Reads w v n xs):∃ a c,v=.slice a n c:=by
 rcases h with ⟨rfl,h,_⟩ | ⟨g,o,cap,rfl,_⟩
 ·exact ⟨none,0,by rw[h]⟩
 ·exact ⟨_,_,rfl⟩
theorem run_index_nat{P:Program}(w:World)(t:TypeId)(s:ByteArray)(k:IntKind)(i:Int)(n:Nat)(h:P.underlying t=some .string)(hi:i=(n:Int))(hn:n<s.size) :
  (Instr.index t (.string s) (.int k i)).run P w=.ok (.int .u8 s[n].toNat) w:=by
 subst hi
 rw[run_index_string w t s k _ h,dif_pos ⟨by omega,by omega⟩]
 simp
theorem below_drewN{B:Nat}{a w:World}(h:Below B a w)(n:Nat):Below B a (w.drewN n):=h.trans ⟨rfl,rfl,rfl,Nat.le_refl _,fun _ _=>rfl⟩
theorem own_below{w w':World}{base:Nat}{e:TypeId}{size:Nat}{v:Value}{n:Nat}{xs:List Value}(h:w.ownsRow base e size v n xs)(hb:Below w.heap.size w w'):w'.ownsRow base e size v n xs:=by
 refine ⟨h.1, ?_⟩
 rcases h.2 with hn | ⟨g,cap,cur,rfl,hbg,hg,r⟩
 ·exact .inl hn
 ·exact .inr ⟨g,cap,cur,rfl,hbg,by rw[hb.block g (Array.getElem?_eq_some_iff.1 hg).1];exact hg,r⟩
theorem reads_of_own{w:World}{base:Nat}{e:TypeId}{size:Nat}{v:Value}{n:Nat}{xs:List Value}(h:w.ownsRow base e size v n xs):Reads w v n xs:=by
 rcases h.2 with ⟨rfl,rfl⟩ | ⟨g,cap,cur,rfl,hb,hg,hnc,hcm,hcs,htk⟩
 ·refine .inl ⟨rfl,rfl, ?_⟩
  have:=h.1
  simpa using this
 ·refine .inr ⟨g,0,cap,rfl,hnc,lt_of_block hg,fun j u hj=>?_⟩
  have hlt:j<n*size:=by
   have:=h.1
   rw[List.getElem?_eq_some_iff]at hj
   obtain ⟨h1,_⟩:=hj
   omega
  rw[Nat.zero_add,h.cellAt j hlt]
  exact hj
theorem own_ne{w:World}{b1 b2:Nat}{e1 e2:TypeId}{s1 s2:Nat}{v1 v2:Value}{n1 n2:Nat}{x1 x2:List Value}(h1:w.ownsRow b1 e1 s1 v1 n1 x1)(h2:w.ownsRow b2 e2 s2 v2 n2 x2)(he:e1≠e2):v1.ownBlock=none∨v1.ownBlock≠v2.ownBlock:=by
 rcases h1.2 with ⟨rfl,_⟩ | ⟨g1,c1,cur1,rfl,_,hg1,_⟩
 ·exact .inl rfl
 ·right
  rcases h2.2 with ⟨rfl,_⟩ | ⟨g2,c2,cur2,rfl,_,hg2,_⟩
  ·simp[Value.ownBlock]
  ·intro e
   simp only[Value.ownBlock,Option.some.injEq]at e
   rw[e,hg2]at hg1
   simp only[Option.some.injEq,Obj.cells.injEq]at hg1
   exact he hg1.2.1.symm
theorem one_int1{k:IntKind}{n:Int}:∀ u∈[Value.int k n],u.oneCell'=true:=by
 intro u hu
 simp at hu
 subst hu
 rfl
theorem cell_one_at(w:World)(x:Value)(e:TypeId)(b:Nat)(hb:b=w.heap.size):∀ j u,[x][j]?=some u→(w.alloc (.cells #[x] e)).cell? ((⟨b,0,none⟩:Addr).add j)=some u:=by
 subst hb
 exact cell_one_new w x e
theorem ret_two{k:IntKind}{a b c d:Int}(h:a=b)(h2:c=d):Ending.returned (.tuple #[.int k a,.int k c])=.returned (.tuple #[.int k b,.int k d]):=by rw[h,h2]
theorem wrap64_eq{n:Int}(h:In64 n):wrap64 n=n:=IntWalk.wrap64_in n h
set_option maxHeartbeats 400000 in
theorem truth_any(b:Bool)(w:World) :
  Calls Tryz.prog 133 #[.bool b] w fun e w'=>e=.returned (.int .i64 (bitN b))∧w'=w:=by
 cases b
 all_goals
  go_enter Tryz.func133,Tryz.ntmps133
  go_wp2
  go_ret
  exact ⟨rfl,rfl⟩
set_option maxHeartbeats 400000 in
theorem psum_any(a b:Int)(ha:In64 a)(hb:In64 b)(w:World) :
  Calls Tryz.prog 134 #[.int .i64 a,.int .i64 b] w fun e w'=>e=.returned (.tuple #[.int .i64 (exact64 (a+b)).1,.int .i64 (exact64 (a+b)).2])∧w'=w:=by
 obtain ⟨ha1,ha2⟩:=ha
 obtain ⟨hb1,hb2⟩:=hb
 by_cases hi:In64 (a+b)
 ·rw[exact_in hi]
  obtain ⟨h1,h2⟩:=hi
  go_enter Tryz.func134,Tryz.ntmps134
  go_wp2
  all_goals go_ret2
  all_goals first | (exfalso;go_light;omega) | exact ⟨ret_two rfl rfl,rfl⟩
 ·rw[exact_out hi]
  have hi':a+b < -9223372036854775808∨9223372036854775807<a+b:=by unfold In64 at hi;omega
  clear hi
  go_enter Tryz.func134,Tryz.ntmps134
  go_wp2
  all_goals go_ret2
  all_goals first | (exfalso;go_light;omega) | exact ⟨ret_two rfl rfl,rfl⟩
set_option maxHeartbeats 400000 in
theorem pdiff_any(a b:Int)(ha:In64 a)(hb:In64 b)(w:World) :
  Calls Tryz.prog 135 #[.int .i64 a,.int .i64 b] w fun e w'=>e=.returned (.tuple #[.int .i64 (exact64 (a-b)).1,.int .i64 (exact64 (a-b)).2])∧w'=w:=by
 obtain ⟨ha1,ha2⟩:=ha
 obtain ⟨hb1,hb2⟩:=hb
 by_cases hi:In64 (a-b)
 ·rw[exact_in hi]
  obtain ⟨h1,h2⟩:=hi
  go_enter Tryz.func135,Tryz.ntmps135
  go_wp2
  all_goals go_ret2
  all_goals first | (exfalso;go_light;omega) | exact ⟨ret_two rfl rfl,rfl⟩
 ·rw[exact_out hi]
  have hi':a-b < -9223372036854775808∨9223372036854775807<a-b:=by unfold In64 at hi;omega
  clear hi
  go_enter Tryz.func135,Tryz.ntmps135
  go_wp2
  all_goals go_ret2
  all_goals first | (exfalso;go_light;omega) | exact ⟨ret_two rfl rfl,rfl⟩
set_option maxHeartbeats 400000 in
theorem negated_any(a:Int)(ha:In64 a)(w:World) :
  Calls Tryz.prog 132 #[.int .i64 a] w fun e w'=>e=.returned (.tuple #[.int .i64 (negN a).1,.int .i64 (negN a).2])∧w'=w:=by
 obtain ⟨ha1,ha2⟩:=ha
 by_cases hi:a=-9223372036854775808
 ·have e:negN a=(0,1):=by unfold negN;exact exact_out (by unfold In64;omega)
  rw[e]
  subst hi
  clear e
  go_enter Tryz.func132,Tryz.ntmps132
  go_wp2
  all_goals go_ret2
  all_goals exact ⟨ret_two rfl rfl,rfl⟩
 ·have e:negN a=(-a,0):=by unfold negN;rw[exact_in (by unfold In64;omega)];simp
  rw[e]
  have hb:(a==-9223372036854775808)=false:=by simpa using hi
  have HN:Hid (In64 (-a)):=(by unfold In64;omega:In64 (-a))
  clear e hi
  go_enter Tryz.func132,Tryz.ntmps132
  go_wp2
  all_goals go_ret2
  all_goals exact ⟨ret_two (wrap64_eq HN.out) rfl,rfl⟩
theorem wmul(a b:Int):IntKind.i64.wrap (a*b)=wrap64 (a*b):=IntWalk.i64_left _
set_option maxHeartbeats 1000000 in
theorem pproduct_any(a b:Int)(ha:In64 a)(hb:In64 b)(w:World) :
  Calls Tryz.prog 136 #[.int .i64 a,.int .i64 b] w fun e w'=>e=.returned (.tuple #[.int .i64 (exact64 (a*b)).1,.int .i64 (exact64 (a*b)).2])∧w'=w:=by
 have HA:Hid (In64 a):=ha
 have HB:Hid (In64 b):=hb
 obtain ⟨ha1,ha2⟩:=ha
 obtain ⟨hb1,hb2⟩:=hb
 by_cases h0:b=0
 ·have e:exact64 (a*b)=(0,0):=by rw[h0,Int.mul_zero];exact exact_in (by decide)
  rw[e]
  subst h0
  clear e
  go_enter Tryz.func136,Tryz.ntmps136
  go_wp2
  all_goals go_ret2
  all_goals exact ⟨ret_two rfl rfl,rfl⟩
 have eb:(b==0)=false:=by simpa using h0
 by_cases h1:b=-1
 ·have e:exact64 (a*b)=negN a:=by rw[h1];unfold negN;congr 1;omega
  rw[e]
  subst h1
  clear e
  go_enter Tryz.func136,Tryz.ntmps136
  go_wp2_with (go_at_call 132;refine (negated_any a HA.out _).mono ?_;rintro e w' ⟨rfl,rfl⟩)
  all_goals go_ret2
  all_goals exact ⟨ret_two rfl rfl,rfl⟩
 have eb1:(b==-1)=false:=by simpa using h1
 have hmul:=mul_test a b HA.out HB.out h0
 have hin:In64 ((wrap64 (a*b)).tdiv b):=by rw[← wmul];exact tdiv_in _ b (in_wrap _) HB.out h0 (by omega)
 have HQ:Hid (wrap64 ((wrap64 (a*b)).tdiv b)=(wrap64 (a*b)).tdiv b):=wrap64_eq hin
 rw[wmul]at hmul
 have HM:Hid ((wrap64 (a*b)).tdiv b=a↔In64 (a*b)):=hmul
 clear hmul hin
 by_cases hi:In64 (a*b)
 ·rw[exact_in hi]
  have HI:Hid (In64 (a*b)):=hi
  have hd:(wrap64 ((wrap64 (a*b)).tdiv b)==a)=true:=by rw[HQ.out];simpa using HM.out.2 hi
  have hd':(wrap64 ((wrap64 (a*b)).tdiv b) != a)=false:=by simp[bne,hd]
  clear hi
  go_enter Tryz.func136,Tryz.ntmps136
  go_wp2
  all_goals go_ret2
  all_goals exact ⟨ret_two (wrap64_eq HI.out) rfl,rfl⟩
 ·rw[exact_out hi]
  have hd:(wrap64 ((wrap64 (a*b)).tdiv b)==a)=false:=by rw[HQ.out];simpa using fun h=>hi (HM.out.1 h)
  have hd':(wrap64 ((wrap64 (a*b)).tdiv b) != a)=true:=by simp[bne,hd]
  clear hi
  go_enter Tryz.func136,Tryz.ntmps136
  go_wp2
  all_goals go_ret2
  all_goals exact ⟨ret_two rfl rfl,rfl⟩
end Go.Proofs.YtpcjadaeolkngaaGreatDoor
