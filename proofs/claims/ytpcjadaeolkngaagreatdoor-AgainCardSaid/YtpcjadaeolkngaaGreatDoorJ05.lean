/-
  What the operations of an image do, step by step: plain; and that within an image the stack is never too low.
-/
import Derived.Test.YtpcjadaeolkngaaGreatDoorJ04
set_option linter.unusedVariables false
set_option linter.unusedSimpArgs false
namespace Go.Proofs.YtpcjadaeolkngaaGreatDoor
open Go.RowKit
structure Itm where
 size:Int
 speed:Int
 need:Int
structure Bn where
 id:Int
 zone:Int
 cap:Int
 used:Int
 has:Int
def attrN(k:Int)(x:Itm)(b:Bn):Int :=
 if k=0 then x.size else if k=1 then x.speed else if k=2 then x.need else if k=3 then b.zone else if k=4 then b.cap else if k=5 then b.used else if k=6 then b.has else 0
def Itm.Ok(x:Itm):Prop:=(1≤x.size∧x.size≤1000)∧(0≤x.speed∧x.speed≤1000)∧(0≤x.need∧x.need≤2)
def Bn.Ok(b:Bn):Prop:=(0≤b.id∧b.id≤1000)∧(0≤b.zone∧b.zone≤9)∧(1≤b.cap∧b.cap≤1000)∧(0≤b.used∧b.used≤b.cap)∧(0≤b.has∧b.has≤2)
def fst(st:List Int):Int:=st.headD 0
def snd(st:List Int):Int:=(st.drop 1).headD 0
def Ins.to(o:Ins):Nat:=(o.next+o.arg).toNat
def layM(r:Int×Nat)(p:Nat)(st:List Int):(Nat×Int) ⊕ (Nat×List Int):=if r.2=0 then .inr (p,r.1 :: st) else .inl (2,r.2)
def stepM(x:Itm)(b:Bn)(o:Ins)(st:List Int):(Nat×Int) ⊕ (Nat×List Int) :=
 if o.op=16 then .inl (1,fst st)
 else if o.op=17 then .inl (0,0)
 else if o.op=0 then .inr (o.next,o.arg :: st)
 else if o.op=1 then .inr (o.next,attrN o.arg x b :: st)
 else if o.op=2 then layM (negN (fst st)) o.next (st.drop 1)
 else if o.op=3 then .inr (o.next,bitN (decide (fst st=0)) :: st.drop 1)
 else if o.op=13 then .inr (o.to,st)
 else if o.op=14 then .inr (if fst st=0 then o.to else o.next,st.drop 1)
 else if o.op=15 then .inr (if fst st=0 then o.next else o.to,st.drop 1)
 else layM (joinN o.op (snd st) (fst st)) o.next (st.drop 2)
def runM(s:ByteArray)(x:Itm)(b:Bn):Nat→Nat→List Int→Nat→Nat×Int×Nat
 | 0,_,_,n=>(0,0,n)
 | f+1,p,st,n=>match stepM x b (mkIns s p) st with
  | .inl (k,v)=>(k,v,n+1)
  | .inr (p',st')=>runM s x b f p' st' (n+1)
theorem runM_end{s:ByteArray}{x:Itm}{b:Bn}{f p:Nat}{st:List Int}{n k:Nat}{v:Int}(h:stepM x b (mkIns s p) st=.inl (k,v)):runM s x b (f+1) p st n=(k,v,n+1):=by
 simp[runM,h]
theorem runM_go{s:ByteArray}{x:Itm}{b:Bn}{f p:Nat}{st:List Int}{n p':Nat}{st':List Int}(h:stepM x b (mkIns s p) st=.inr (p',st')):runM s x b (f+1) p st n=runM s x b f p' st' (n+1):=by
 simp[runM,h]
structure AtStep(s:ByteArray)(l:List Ins)(most:Nat)(G:Nat→Int)(p:Nat)(st:List Int):Prop where
 chain:Chain s 3 l s.size
 law:Lawful l most G
 here:mkIns s p∈l
 high:G p=st.length
 nums:∀ v∈st,In64 v
theorem AtStep.ok{s:ByteArray}{l:List Ins}{most:Nat}{G:Nat→Int}{p:Nat}{st:List Int}(h:AtStep s l most G p st):OpOkI s p:=(h.chain.mem _ h.here).2.2.1
theorem AtStep.tall{s:ByteArray}{l:List Ins}{most:Nat}{G:Nat→Int}{p:Nat}{st:List Int}(h:AtStep s l most G p st):takesN (bt s p)≤st.length:=by
 have:=(h.law.2 _ h.here).1
 simp only[mkIns]at this
 rw[h.high]at this
 omega
theorem AtStep.most_le{s:ByteArray}{l:List Ins}{most:Nat}{G:Nat→Int}{p:Nat}{st:List Int}(h:AtStep s l most G p st):st.length≤most:=by
 have:=(h.law.2 _ h.here).2.1
 simp only[mkIns]at this
 rw[h.high]at this
 omega
theorem AtStep.start{s:ByteArray}{l:List Ins}{most:Nat}{G:Nat→Int}(hc:Chain s 3 l s.size)(hl:Lawful l most G)(h4:3<s.size):AtStep s l most G 3 []:=by
 refine ⟨hc,hl, ?_,by rw[hl.1];rfl,by simp⟩
 obtain ⟨o,ho,h1,h2⟩:=hc.cover 3 (Nat.le_refl _) h4
 have hm:=hc.mem o ho
 have:o.pos=3:=by omega
 rw[← this,← hm.2.2.2];exact ho
theorem AtStep.next{s:ByteArray}{l:List Ins}{most:Nat}{G:Nat→Int}{p:Nat}{st st':List Int}{q:Nat}(h:AtStep s l most G p st)(hf:Flows (mkIns s p) q)(hn:(st'.length:Int)=st.length-takesN (bt s p)+laysN (bt s p))(hi:∀ v∈st',In64 v):AtStep s l most G q st'∧p<q:=by
 obtain ⟨⟨o,ho,rfl⟩,h2⟩:=(h.law.2 _ h.here).2.2.1 q hf
 have hm:=h.chain.mem o ho
 refine ⟨⟨h.chain,h.law,by rw[← hm.2.2.2];exact ho, ?_,hi⟩,hf.lt⟩
 rw[h2,hn]
 show G p-takesN (bt s p)+laysN (bt s p)=_
 rw[h.high]
theorem jump_to(s:ByteArray)(p:Nat)(h:(mkIns s p).op=13∨(mkIns s p).op=14∨(mkIns s p).op=15):((mkIns s p).to:Int)=(mkIns s p).next+(mkIns s p).arg:=by
 have:=jump_arg s p h
 unfold Ins.to
 omega
theorem attr_in(k:Int)(x:Itm)(b:Bn)(hx:x.Ok)(hb:b.Ok):In64 (attrN k x b):=by
 unfold Itm.Ok at hx
 unfold Bn.Ok at hb
 unfold attrN In64
 repeat' split
 all_goals omega
theorem AtStep.go{s:ByteArray}{l:List Ins}{most:Nat}{G:Nat→Int}{p:Nat}{st st':List Int}{q:Nat}{x:Itm}{b:Bn}(h:AtStep s l most G p st)(hx:x.Ok)(hb:b.Ok)(hs:stepM x b (mkIns s p) st=.inr (q,st')):AtStep s l most G q st'∧p<q:=by
 have ht:=h.tall
 have hok:=h.ok
 have hop:(mkIns s p).op=bt s p:=rfl
 have hd:∀ k,∀ v∈st.drop k,In64 v:=fun k v hv=>h.nums v (List.mem_of_mem_drop hv)
 have hfst:In64 (fst st):=by
  unfold fst
  cases st with
  | nil=>decide
  | cons a r=>exact h.nums a (by simp)
 have hsnd:In64 (snd st):=by
  unfold snd
  cases hdd:st.drop 1 with
  | nil=>decide
  | cons a r=>exact hd 1 a (by rw[hdd];simp)
 have hnx:(bt s p≠13∧bt s p≠16∧bt s p≠17)→Flows (mkIns s p) (mkIns s p).next:=fun hh=>.inl ⟨hh.1,hh.2.1,hh.2.2,rfl⟩
 have hto:(bt s p=13∨bt s p=14∨bt s p=15)→Flows (mkIns s p) (mkIns s p).to:=fun hh=>.inr ⟨hh,jump_to s p hh⟩
 have hc17:bt s p≤17:=hok.2.1
 unfold stepM at hs
 simp only[hop]at hs
 split at hs
 ·simp at hs
 split at hs
 ·simp at hs
 split at hs
 ·rename_i h0
  simp at hs
  obtain ⟨rfl,rfl⟩:=hs
  refine h.next (hnx (by omega)) (by simp[takesN,laysN,h0]) ?_
  intro v hv
  rcases List.mem_cons.1 hv with rfl | hv
  ·exact in_wrap _
  ·exact h.nums v hv
 split at hs
 ·rename_i h0
  simp at hs
  obtain ⟨rfl,rfl⟩:=hs
  refine h.next (hnx (by omega)) (by simp[takesN,laysN,h0]) ?_
  intro v hv
  rcases List.mem_cons.1 hv with rfl | hv
  ·exact attr_in _ x b hx hb
  ·exact h.nums v hv
 split at hs
 ·rename_i h0
  unfold layM at hs
  split at hs
  ·simp at hs
   obtain ⟨rfl,rfl⟩:=hs
   rw[h0]at ht
   simp[takesN]at ht
   refine h.next (hnx (by omega)) (by simp[takesN,laysN,h0];omega) ?_
   intro v hv
   rcases List.mem_cons.1 hv with rfl | hv
   ·exact neg_in _
   ·exact hd 1 v (by simpa using hv)
  ·simp at hs
 split at hs
 ·rename_i h0
  simp at hs
  obtain ⟨rfl,rfl⟩:=hs
  rw[h0]at ht
  simp[takesN]at ht
  refine h.next (hnx (by omega)) (by simp[takesN,laysN,h0];omega) ?_
  intro v hv
  rcases List.mem_cons.1 hv with rfl | hv
  ·unfold bitN;split <;> decide
  ·exact hd 1 v (by simpa using hv)
 split at hs
 ·rename_i h0
  simp at hs
  obtain ⟨rfl,rfl⟩:=hs
  exact h.next (hto (by omega)) (by simp[takesN,laysN,h0]) h.nums
 split at hs
 ·rename_i h0
  simp at hs
  obtain ⟨rfl,rfl⟩:=hs
  rw[h0]at ht
  simp[takesN]at ht
  refine h.next ?_ (by simp[takesN,laysN,h0];omega) (fun v hv=>hd 1 v (by simpa using hv))
  split
  ·exact hto (by omega)
  ·exact hnx (by omega)
 split at hs
 ·rename_i h0
  simp at hs
  obtain ⟨rfl,rfl⟩:=hs
  rw[h0]at ht
  simp[takesN]at ht
  refine h.next ?_ (by simp[takesN,laysN,h0];omega) (fun v hv=>hd 1 v (by simpa using hv))
  split
  ·exact hnx (by omega)
  ·exact hto (by omega)
 ·unfold layM at hs
  split at hs
  ·simp at hs
   obtain ⟨rfl,rfl⟩:=hs
   have h2:takesN (bt s p)=2:=by unfold takesN;rw[if_neg (by omega),if_neg (by omega)]
   have h3:laysN (bt s p)=1:=by unfold laysN;rw[if_neg (by omega)]
   rw[h2]at ht
   refine h.next (hnx (by omega)) (by rw[h2,h3];simp;omega) ?_
   intro v hv
   rcases List.mem_cons.1 hv with rfl | hv
   ·exact join_in _ _ _ hsnd hfst
   ·exact hd 2 v (by simpa using hv)
  ·simp at hs
def Sits(s:ByteArray)(p:Nat)(c:List Nat):Prop:=∀ i b,c[i]?=some b→p+i<s.size∧bt s (p+i)=b
theorem Sits.left{s:ByteArray}{p:Nat}{c d:List Nat}(h:Sits s p (c++d)):Sits s p c:=fun i b hi=>h i b (by
 have hlt:=(List.getElem?_eq_some_iff.1 hi).1
 rw[List.getElem?_append_left hlt];exact hi)
theorem Sits.right{s:ByteArray}{p:Nat}{c d:List Nat}(h:Sits s p (c++d)):Sits s (p+c.length) d:=fun i b hi=>by
 have:=h (c.length+i) b (by rw[List.getElem?_append_right (by omega),show c.length+i-c.length=i by omega];exact hi)
 rw[← Nat.add_assoc]at this
 exact this
def DoesSo(s:ByteArray)(x:Itm)(y:Bn)(p q:Nat)(v:Int)(flt steps:Nat):Prop :=
 (flt=0∧∀ f st n,runM s x y (f+steps) p st n=runM s x y f q (v :: st) (n+steps)) ∨
 (flt≠0∧∀ f st n,steps≤f→runM s x y f p st n=(2,(flt:Int),n+steps))
theorem does_one{s:ByteArray}{x:Itm}{y:Bn}{p q:Nat}{v:Int}(h:∀ st,stepM x y (mkIns s p) st=.inr (q,v :: st)):DoesSo s x y p q v 0 1 :=
 Or.inl ⟨rfl,fun f st n=>by rw[runM_go (h st)]⟩
theorem DoesSo.fault{s:ByteArray}{x:Itm}{y:Bn}{p q q':Nat}{v v':Int}{flt steps:Nat}(h:DoesSo s x y p q v flt steps)(hf:flt≠0):DoesSo s x y p q' v' flt steps:=by
 rcases h with ⟨h0,_⟩ | h
 ·exact absurd h0 hf
 ·exact Or.inr h
theorem DoesSo.unary{s:ByteArray}{x:Itm}{y:Bn}{p q r:Nat}{a v:Int}{f1 k:Nat}(h:DoesSo s x y p q a 0 k)(hop:∀ st,stepM x y (mkIns s q) (a :: st)=layM (v,f1) r st):DoesSo s x y p r v f1 (k+1):=by
 rcases h with ⟨_,h⟩ | ⟨h0,_⟩
 ·by_cases hf:f1=0
  ·subst hf
   refine Or.inl ⟨rfl,fun f st n=>?_⟩
   rw[show f+(k+1)=(f+1)+k by omega,h (f+1) st n,runM_go (hop st),Nat.add_assoc]
  ·refine Or.inr ⟨hf,fun f st n hle=>?_⟩
   obtain ⟨f',rfl⟩:∃ f',f=(f'+1)+k:=⟨f-k-1,by omega⟩
   rw[h (f'+1) st n]
   have:stepM x y (mkIns s q) (a :: st)=.inl (2,(f1:Int)):=by rw[hop st];unfold layM;simp only[hf,if_false]
   rw[runM_end this,Nat.add_assoc]
 ·exact absurd rfl h0
theorem DoesSo.binary{s:ByteArray}{x:Itm}{y:Bn}{p q r e:Nat}{a b v:Int}{f1 k m:Nat}(h1:DoesSo s x y p q a 0 k)(h2:DoesSo s x y q r b 0 m)(hop:∀ st,stepM x y (mkIns s r) (b :: a :: st)=layM (v,f1) e st):DoesSo s x y p e v f1 (k+m+1):=by
 rcases h1 with ⟨_,h1⟩ | ⟨h0,_⟩
 ·rcases h2 with ⟨_,h2⟩ | ⟨h0,_⟩
  ·by_cases hf:f1=0
   ·subst hf
    refine Or.inl ⟨rfl,fun f st n=>?_⟩
    rw[show f+(k+m+1)=((f+1)+m)+k by omega,h1,h2,runM_go (hop st)]
    congr 1
    omega
   ·refine Or.inr ⟨hf,fun f st n hle=>?_⟩
    obtain ⟨f',rfl⟩:∃ f',f=((f'+1)+m)+k:=⟨f-k-m-1,by omega⟩
    have:stepM x y (mkIns s r) (b :: a :: st)=.inl (2,(f1:Int)):=by rw[hop st];unfold layM;simp only[hf,if_false]
    rw[h1,h2,runM_end this]
    simp only[Nat.add_assoc]
  ·exact absurd rfl h0
 ·exact absurd rfl h0
theorem DoesSo.second{s:ByteArray}{x:Itm}{y:Bn}{p q r e:Nat}{a b v:Int}{f2 k m:Nat}(h1:DoesSo s x y p q a 0 k)(h2:DoesSo s x y q r b f2 m)(hf:f2≠0):DoesSo s x y p e v f2 (k+m):=by
 rcases h1 with ⟨_,h1⟩ | ⟨h0,_⟩
 ·rcases h2 with ⟨h0,_⟩ | ⟨_,h2⟩
  ·exact absurd h0 hf
  ·refine Or.inr ⟨hf,fun f st n hle=>?_⟩
   obtain ⟨f',rfl⟩:∃ f',f=f'+k:=⟨f-k,by omega⟩
   rw[h1,h2 f' (a :: st) (n+k) (by omega),Nat.add_assoc]
 ·exact absurd rfl h0
theorem DoesSo.goTo{s:ByteArray}{x:Itm}{y:Bn}{p q t e:Nat}{a v:Int}{f2 k m:Nat}(h1:DoesSo s x y p q a 0 k)(hop:∀ st,stepM x y (mkIns s q) (a :: st)=.inr (t,st))(h2:DoesSo s x y t e v f2 m):DoesSo s x y p e v f2 (k+1+m):=by
 rcases h1 with ⟨_,h1⟩ | ⟨h0,_⟩
 ·rcases h2 with ⟨h0,h2⟩ | ⟨hf,h2⟩
  ·subst h0
   refine Or.inl ⟨rfl,fun f st n=>?_⟩
   rw[show f+(k+1+m)=((f+m)+1)+k by omega,h1,runM_go (hop st),h2]
   congr 1
   omega
  ·refine Or.inr ⟨hf,fun f st n hle=>?_⟩
   obtain ⟨f',rfl⟩:∃ f',f=(f'+1)+k:=⟨f-k-1,by omega⟩
   rw[h1,runM_go (hop st),h2 f' st (n+k+1) (by omega)]
   simp only[Nat.add_assoc]
 ·exact absurd rfl h0
theorem DoesSo.over{s:ByteArray}{x:Itm}{y:Bn}{p q e:Nat}{v:Int}{k:Nat}(h:DoesSo s x y p q v 0 k)(hop:∀ st,stepM x y (mkIns s q) st=.inr (e,st)):DoesSo s x y p e v 0 (k+1):=by
 rcases h with ⟨_,h⟩ | ⟨h0,_⟩
 ·refine Or.inl ⟨rfl,fun f st n=>?_⟩
  rw[show f+(k+1)=(f+1)+k by omega,h,runM_go (hop (v :: st)),Nat.add_assoc]
 ·exact absurd rfl h0
theorem Found.at{s:ByteArray}{most:Nat}{H:Nat→Int}{p:Nat}{l0 l:List Ins}(h:Found s most H p l0)(hp:p<s.size)(hc:Chain s 3 l s.size) :
  OpOkI s p∧∃ r,l=l0++mkIns s p :: r∧Chain s (mkIns s p).next r s.size:=by
 obtain ⟨r,rfl,hr⟩:=h.chain.pre hc
 cases r with
 | nil=>have:p=s.size:=hr;omega
 | cons o r =>
  obtain ⟨h1,rfl,h3⟩:=hr
  exact ⟨h1,r,rfl,h3⟩
theorem Found.bad_op{s:ByteArray}{H:Nat→Int}{p:Nat}{l0:List Ins}(h:Found s (bt s 2) H p l0)(hp:p<s.size)(hb:¬ OpOkI s p):¬ IsImg s:=by
 rintro ⟨_,l,hc,_⟩
 exact hb (h.at hp hc).1
theorem Found.bad_none{s:ByteArray}{H:Nat→Int}{p:Nat}{l0:List Ins}(h:Found s (bt s 2) H p l0)(hp:p<s.size)(hb:H p=-1):¬ IsImg s:=by
 rintro ⟨_,l,hc,G,hl⟩
 obtain ⟨h1,r,rfl,hr⟩:=h.at hp hc
 have hm:mkIns s p∈l0++mkIns s p :: r:=by simp
 obtain ⟨_,_,_,h4⟩:=hl.2 _ hm
 rcases h4 with h4 | ⟨o',ho',hf⟩
 ·have:p=3:=h4
  subst this
  rw[h.first]at hb
  omega
 ·have hm':=hc.mem o' ho'
  have hlt:o'.pos<p:=by rw[hm'.2.2.2]at hf;exact hf.lt
  have hin:o'∈l0:=by
   rcases List.mem_append.1 ho' with h5 | h5
   ·exact h5
   ·rcases List.mem_cons.1 h5 with rfl | h5
    ·have:p<p:=hlt
     omega
    ·have:=(hr.mem o' h5).1
     have h6:=next_pos s p
     omega
  obtain ⟨h7,_,h8⟩:=h.done o' hin
  have h9:=(h8 p hf).2
  omega
theorem Found.bad_low{s:ByteArray}{H:Nat→Int}{p:Nat}{l0:List Ins}(h:Found s (bt s 2) H p l0)(hp:p<s.size)(hn:H p≠-1)(hb:H p<takesN (bt s p)):¬ IsImg s:=by
 rintro ⟨_,l,hc,G,hl⟩
 have h2:=(h.agree hp hc hl (p+1) p (by omega) hn).1
 obtain ⟨h1,r,rfl,hr⟩:=h.at hp hc
 have hm:mkIns s p∈l0++mkIns s p :: r:=by simp
 obtain ⟨h3,_⟩:=hl.2 _ hm
 simp only[mkIns]at h3
 omega
theorem Found.bad_inside{s:ByteArray}{H:Nat→Int}{p i:Nat}{l0:List Ins}(h:Found s (bt s 2) H p l0)(hp:p<s.size)(h1:p<i)(h2:i<(mkIns s p).next)(hb:H i≠-1):¬ IsImg s:=by
 rintro ⟨_,l,hc,G,hl⟩
 obtain ⟨_,o,ho,rfl⟩:=h.agree hp hc hl (i+1) i (by omega) hb
 obtain ⟨_,r,rfl,hr⟩:=h.at hp hc
 have hm:mkIns s p∈l0++mkIns s p :: r:=by simp
 have h3:(mkIns s p).pos<o.pos:=h1
 have:=hc.apart _ hm o ho h3
 omega
theorem Found.bad_flow{s:ByteArray}{H:Nat→Int}{p q:Nat}{l0:List Ins}(h:Found s (bt s 2) H p l0)(hp:p<s.size)(hn:H p≠-1)(hf:Flows (mkIns s p) q)
  (hb:s.size≤q∨(bt s 2:Int)<H p-takesN (bt s p)+laysN (bt s p)∨(H q≠-1∧H q≠H p-takesN (bt s p)+laysN (bt s p))):¬ IsImg s:=by
 rintro ⟨_,l,hc,G,hl⟩
 have h2:=(h.agree hp hc hl (p+1) p (by omega) hn).1
 have hag:=h.agree hp hc hl (q+1) q (by omega)
 obtain ⟨_,r,rfl,hr⟩:=h.at hp hc
 have hm:mkIns s p∈l0++mkIns s p :: r:=by simp
 obtain ⟨_,_,h3,_⟩:=hl.2 _ hm
 obtain ⟨⟨o',ho',rfl⟩,h4⟩:=h3 q hf
 have h5:=(hc.mem o' ho').2.2.1.1
 obtain ⟨_,h6,_⟩:=hl.2 o' ho'
 simp only[mkIns]at h4
 rcases hb with hb | hb | ⟨hb,hb'⟩
 ·omega
 ·omega
 ·have:=(hag hb).1
  omega
theorem Found.step{s:ByteArray}{most:Nat}{H H':Nat→Int}{p:Nat}{l0:List Ins}(h:Found s most H p l0)(ho:OpOkI s p)(ht:(takesN (bt s p):Int)≤H p)
  (hin:∀ i,p<i→i<(mkIns s p).next→H i=-1)
  (hf:∀ q,Flows (mkIns s p) q→q<s.size∧H p-takesN (bt s p)+laysN (bt s p)≤most∧(H q=-1∨H q=H p-takesN (bt s p)+laysN (bt s p))∧H' q=H p-takesN (bt s p)+laysN (bt s p))
  (hH:∀ q,¬ Flows (mkIns s p) q→H' q=H q) :
  Found s most H' (mkIns s p).next (l0++[mkIns s p]):=by
 have hkeep:∀ q,q<(mkIns s p).next→H' q=H q:=fun q hq=>hH q (fun hfl=>by have:=hfl.le;omega)
 have hpn:=next_pos s p
 have h3p:=h.chain.le
 have hcov:∀ q,H q≠-1→H' q=H q:=by
  intro q hq
  by_cases hfl:Flows (mkIns s p) q
  ·obtain ⟨_,_,h1,h2⟩:=hf q hfl
   rcases h1 with h1 | h1
   ·exact absurd h1 hq
   ·rw[h1,h2]
  ·exact hH q hfl
 have hpos:∀ o∈l0,H' o.pos=H o.pos:=fun o ho'=>hcov _ (by have:=(h.done o ho').1;omega)
 have hp':H' p=H p:=hkeep p hpn
 refine ⟨h.chain.snoc ho, ?_, ?_, ?_, ?_, ?_, ?_⟩
 ·rw[hkeep 3 (by omega),h.first]
 ·intro q hq
  by_cases hfl:Flows (mkIns s p) q
  ·exact .inr ⟨mkIns s p,by simp,hfl,by
    rw[(hf q hfl).2.2.2]
    show _=H' p-takesN (bt s p)+laysN (bt s p)
    rw[hp']⟩
  ·rw[hH q hfl]at hq
   rcases h.src q hq with h1 | ⟨o,ho',hfo,he⟩
   ·exact .inl h1
   ·exact .inr ⟨o,List.mem_append_left _ ho',hfo,by rw[hH q hfl,hpos o ho',he]⟩
 ·intro o ho'
  rcases List.mem_append.1 ho' with h1 | h1
  ·obtain ⟨h2,h3,h4⟩:=h.done o h1
   rw[hpos o h1]
   refine ⟨h2,h3,fun q hq=>?_⟩
   obtain ⟨h5,h6⟩:=h4 q hq
   exact ⟨h5,by rw[hcov q (by omega),h6]⟩
  ·have:o=mkIns s p:=by simpa using h1
   subst this
   show (takesN (bt s p):Int)≤H' p∧H' p≤most∧∀ q,Flows (mkIns s p) q→q<s.size∧H' q=H' p-takesN (bt s p)+laysN (bt s p)
   rw[hp']
   exact ⟨ht,h.high p,fun q hq=>⟨(hf q hq).1,(hf q hq).2.2.2⟩⟩
 ·intro o ho' q h1 h2
  rcases List.mem_append.1 ho' with h3 | h3
  ·have h4:=(h.chain.mem o h3).2.1
   rw[hkeep q (by omega)]
   exact h.inside o h3 q h1 h2
  ·have:o=mkIns s p:=by simpa using h3
   subst this
   rw[hkeep q h2]
   exact hin q h1 h2
 ·intro q
  by_cases hfl:Flows (mkIns s p) q
  ·rw[(hf q hfl).2.2.2]
   have:=h.low p
   omega
  ·rw[hH q hfl];exact h.low q
 ·intro q
  by_cases hfl:Flows (mkIns s p) q
  ·rw[(hf q hfl).2.2.2]
   exact (hf q hfl).2.1
  ·rw[hH q hfl];exact h.high q
theorem found_start(s:ByteArray)(most:Nat):Found s most (fun q=>if q=3 then 0 else -1) 3 []:=by
 refine ⟨rfl,by simp, ?_,by simp,by simp, ?_, ?_⟩
 ·intro q hq
  by_cases h:q=3
  ·exact .inl h
  ·simp[h]at hq
 ·intro q;by_cases h:q=3 <;> simp[h]
 ·intro q;by_cases h:q=3 <;> simp[h]
structure Seg(s:ByteArray)(p q:Nat)(h e hi:Int)(l:List Ins)(H:Nat→Int):Prop where
 chain:Chain s p l q
 start:H p=h
 fin:H q=e
 ops:∀ o∈l,(takesN o.op:Int)≤H o.pos∧H o.pos≤hi∧∀ r,Flows o r→(r=q∨∃ o'∈l,o'.pos=r)∧H r=H o.pos-takesN o.op+laysN o.op
 reach:∀ o∈l,o.pos=p∨∃ o'∈l,Flows o' o.pos
 out:∃ o∈l,Flows o q
 ends:e≤hi
 top:(∃ o∈l,H o.pos=hi)∨e=hi
theorem Seg.lt{s:ByteArray}{p q:Nat}{h e hi:Int}{l:List Ins}{H:Nat→Int}(g:Seg s p q h e hi l H):p<q:=by
 obtain ⟨o,ho,hf⟩:=g.out
 have hm:=g.chain.mem o ho
 rw[hm.2.2.2]at hf
 have:=hf.lt
 omega
theorem Seg.first{s:ByteArray}{p q:Nat}{h e hi:Int}{l:List Ins}{H:Nat→Int}(g:Seg s p q h e hi l H):∃ o∈l,o.pos=p:=by
 obtain ⟨o,ho,h1,h2⟩:=g.chain.cover p (Nat.le_refl _) g.lt
 exact ⟨o,ho,by have:=(g.chain.mem o ho).1;omega⟩
theorem Seg.before{s:ByteArray}{p q:Nat}{h e hi:Int}{l:List Ins}{H:Nat→Int}(g:Seg s p q h e hi l H){o:Ins}(ho:o∈l):p≤o.pos∧o.pos<q:=by
 have hm:=g.chain.mem o ho
 have:=next_pos s o.pos
 rw[← hm.2.2.2]at this
 omega
theorem seg_op{s:ByteArray}{p:Nat}{h:Int}(ho:OpOkI s p)(ht:(takesN (bt s p):Int)≤h)(hf:∀ r,Flows (mkIns s p) r↔r=(mkIns s p).next) :
  Seg s p (mkIns s p).next h (h-takesN (bt s p)+laysN (bt s p)) (max h (h-takesN (bt s p)+laysN (bt s p))) [mkIns s p] (fun x=>if x=p then h else h-takesN (bt s p)+laysN (bt s p)):=by
 have hn:=next_pos s p
 have hne:¬ ((mkIns s p).next=p):=by omega
 refine ⟨⟨ho,rfl,rfl⟩,by simp,by simp[hne], ?_, ?_,⟨_,by simp,(hf _).2 rfl⟩,by omega, ?_⟩
 ·intro o hm
  obtain rfl:o=mkIns s p:=by simpa using hm
  refine ⟨?_, ?_,fun r hr=>?_⟩
  ·show (takesN (bt s p):Int)≤(if p=p then h else _);simpa using ht
  ·show (if p=p then h else _)≤_;simp;omega
  ·obtain rfl:=(hf r).1 hr
   refine ⟨.inl rfl, ?_⟩
   show (if (mkIns s p).next=p then h else _)=(if p=p then h else _)-takesN (bt s p)+laysN (bt s p)
   simp[hne]
 ·intro o hm
  obtain rfl:o=mkIns s p:=by simpa using hm
  exact .inl rfl
 ·by_cases hc:h-takesN (bt s p)+laysN (bt s p)≤h
  ·exact .inl ⟨mkIns s p,by simp,by show (if p=p then h else _)=_;simp;omega⟩
  ·exact .inr (by omega)
theorem Seg.seq{s:ByteArray}{p q r:Nat}{h e f hi1 hi2:Int}{l1 l2:List Ins}{H1 H2:Nat→Int}(g1:Seg s p q h e hi1 l1 H1)(g2:Seg s q r e f hi2 l2 H2) :
  Seg s p r h f (max hi1 hi2) (l1++l2) (fun x=>if x<q then H1 x else H2 x):=by
 have hpq:=g1.lt
 have hqr:=g2.lt
 have e1:∀ o∈l1,(if o.pos<q then H1 o.pos else H2 o.pos)=H1 o.pos:=fun o ho=>if_pos (g1.before ho).2
 have e2:∀ o∈l2,(if o.pos<q then H1 o.pos else H2 o.pos)=H2 o.pos:=fun o ho=>if_neg (by have:=(g2.before ho).1;omega)
 obtain ⟨o2,ho2,hp2⟩:=g2.first
 refine ⟨g1.chain.append g2.chain,by simp[hpq,g1.start], ?_, ?_, ?_, ?_, ?_, ?_⟩
 ·show (if r<q then H1 r else H2 r)=f
  rw[if_neg (by omega),g2.fin]
 ·intro o ho
  rcases List.mem_append.1 ho with h1 | h1
  ·obtain ⟨a1,a2,a3⟩:=g1.ops o h1
   show _≤(if o.pos<q then H1 o.pos else H2 o.pos)∧(if o.pos<q then H1 o.pos else H2 o.pos)≤_∧∀ t,Flows o t→_∧(if t<q then H1 t else H2 t)=(if o.pos<q then H1 o.pos else H2 o.pos)-_+_
   rw[e1 o h1]
   refine ⟨a1,by omega,fun t ht=>?_⟩
   obtain ⟨b1,b2⟩:=a3 t ht
   rcases b1 with rfl | ⟨o',ho',rfl⟩
   ·refine ⟨.inr ⟨o2,List.mem_append_right _ ho2,hp2⟩, ?_⟩
    rw[if_neg (by omega),g2.start,← b2,g1.fin]
   ·refine ⟨.inr ⟨o',List.mem_append_left _ ho',rfl⟩, ?_⟩
    rw[if_pos (g1.before ho').2,b2]
  ·obtain ⟨a1,a2,a3⟩:=g2.ops o h1
   show _≤(if o.pos<q then H1 o.pos else H2 o.pos)∧(if o.pos<q then H1 o.pos else H2 o.pos)≤_∧∀ t,Flows o t→_∧(if t<q then H1 t else H2 t)=(if o.pos<q then H1 o.pos else H2 o.pos)-_+_
   rw[e2 o h1]
   refine ⟨a1,by omega,fun t ht=>?_⟩
   obtain ⟨b1,b2⟩:=a3 t ht
   rcases b1 with rfl | ⟨o',ho',rfl⟩
   ·exact ⟨.inl rfl,by rw[if_neg (by omega),b2]⟩
   ·exact ⟨.inr ⟨o',List.mem_append_right _ ho',rfl⟩,by rw[if_neg (by have:=(g2.before ho').1;omega),b2]⟩
 ·intro o ho
  rcases List.mem_append.1 ho with h1 | h1
  ·rcases g1.reach o h1 with h2 | ⟨o',ho',hf⟩
   ·exact .inl h2
   ·exact .inr ⟨o',List.mem_append_left _ ho',hf⟩
  ·rcases g2.reach o h1 with h2 | ⟨o',ho',hf⟩
   ·obtain ⟨o',ho',hf⟩:=g1.out
    exact .inr ⟨o',List.mem_append_left _ ho',by rw[h2];exact hf⟩
   ·exact .inr ⟨o',List.mem_append_right _ ho',hf⟩
 ·obtain ⟨o',ho',hf⟩:=g2.out
  exact ⟨o',List.mem_append_right _ ho',hf⟩
 ·have:=g2.ends;omega
 ·by_cases hc:hi2≤hi1
  ·refine .inl ?_
   rcases g1.top with ⟨o,ho,he⟩ | he
   ·exact ⟨o,List.mem_append_left _ ho,by rw[e1 o ho,he];omega⟩
   ·exact ⟨o2,List.mem_append_right _ ho2,by rw[e2 o2 ho2,hp2,g2.start,he];omega⟩
  ·rcases g2.top with ⟨o,ho,he⟩ | he
   ·exact .inl ⟨o,List.mem_append_right _ ho,by rw[e2 o ho,he];omega⟩
   ·exact .inr (by omega)
theorem seg_choice{s:ByteArray}{p q0 q1 q2 t e:Nat}{h hi1 hi2 hi3:Int}{lp la lb:List Ins}{Hp Ha Hb:Nat→Int}(hh:0≤h)
  (gp:Seg s p q0 h (h+1) hi1 lp Hp) (ok0:OpOkI s q0) (k0:bt s q0=14∨bt s q0=15) (n0:(mkIns s q0).next=q1) (t0:(mkIns s q0).to=t)
  (ga:Seg s q1 q2 h (h+1) hi2 la Ha) (ok2:OpOkI s q2) (k2:bt s q2=13) (n2:(mkIns s q2).next=t) (t2:(mkIns s q2).to=e)
  (gb:Seg s t e h (h+1) hi3 lb Hb) :
  Seg s p e h (h+1) (max hi1 (max hi2 hi3)) (lp++mkIns s q0 :: (la++mkIns s q2 :: lb)) (fun x=>if x≤q0 then Hp x else if x≤q2 then Ha x else Hb x):=by
 have h01:q0<q1:=by rw[← n0];exact next_pos s q0
 have h2t:q2<t:=by rw[← n2];exact next_pos s q2
 have hpl:=gp.lt
 have hal:=ga.lt
 have hbl:=gb.lt
 have f0:∀ r,Flows (mkIns s q0) r↔r=q1∨r=t:=by
  intro r
  have hto:=jump_to s q0 (.inr k0)
  constructor
  ·rintro (⟨_,_,_,h4⟩ | ⟨_,h4⟩)
   ·exact .inl (by rw[h4,n0])
   ·exact .inr (by rw[← t0];omega)
  ·rintro (h4 | h4)
   ·exact .inl ⟨by simp only[mkIns];omega,by simp only[mkIns];omega,by simp only[mkIns];omega,by rw[h4,n0]⟩
   ·exact .inr ⟨.inr k0,by rw[h4,← t0];omega⟩
 have f2:∀ r,Flows (mkIns s q2) r↔r=e:=by
  intro r
  have hto:=jump_to s q2 (.inl k2)
  constructor
  ·rintro (⟨h4,_⟩ | ⟨_,h4⟩)
   ·exact absurd k2 h4
   ·rw[← t2];omega
  ·intro h4
   exact .inr ⟨.inl k2,by rw[h4,← t2];omega⟩
 have tk0:takesN (bt s q0)=1∧laysN (bt s q0)=0:=by rcases k0 with h | h <;> rw[h] <;> exact ⟨rfl,rfl⟩
 have tk2:takesN (bt s q2)=0∧laysN (bt s q2)=0:=by rw[k2];exact ⟨rfl,rfl⟩
 obtain ⟨oa,hoa,hpa⟩:=ga.first
 obtain ⟨ob,hob,hpb⟩:=gb.first
 have mp:∀ {o},o∈lp→o∈lp++mkIns s q0 :: (la++mkIns s q2 :: lb):=fun h=>List.mem_append_left _ h
 have m0:mkIns s q0∈lp++mkIns s q0 :: (la++mkIns s q2 :: lb):=by simp
 have ma:∀ {o},o∈la→o∈lp++mkIns s q0 :: (la++mkIns s q2 :: lb):=fun h=>List.mem_append_right _ (List.mem_cons_of_mem _ (List.mem_append_left _ h))
 have m2:mkIns s q2∈lp++mkIns s q0 :: (la++mkIns s q2 :: lb):=by simp
 have mb:∀ {o},o∈lb→o∈lp++mkIns s q0 :: (la++mkIns s q2 :: lb):=fun h=>List.mem_append_right _ (List.mem_cons_of_mem _ (List.mem_append_right _ (List.mem_cons_of_mem _ h)))
 have ep:∀ x,x≤q0→(if x≤q0 then Hp x else if x≤q2 then Ha x else Hb x)=Hp x:=fun x hx=>if_pos hx
 have ea:∀ x,q0<x→x≤q2→(if x≤q0 then Hp x else if x≤q2 then Ha x else Hb x)=Ha x:=fun x h1 h2=>by rw[if_neg (by omega),if_pos h2]
 have eb:∀ x,t≤x→(if x≤q0 then Hp x else if x≤q2 then Ha x else Hb x)=Hb x:=fun x h1=>by rw[if_neg (by omega),if_neg (by omega)]
 refine ⟨?_, ?_, ?_, ?_, ?_, ?_, ?_, ?_⟩
 ·refine gp.chain.append ⟨ok0,rfl, ?_⟩
  rw[n0]
  refine ga.chain.append ⟨ok2,rfl, ?_⟩
  rw[n2]
  exact gb.chain
 ·show (if p≤q0 then Hp p else _)=h
  rw[if_pos (by omega),gp.start]
 ·show (if e≤q0 then Hp e else if e≤q2 then Ha e else Hb e)=h+1
  rw[eb e (by omega),gb.fin]
 ·intro o hmem
  show (takesN o.op:Int)≤(if o.pos≤q0 then Hp o.pos else if o.pos≤q2 then Ha o.pos else Hb o.pos)∧(if o.pos≤q0 then Hp o.pos else if o.pos≤q2 then Ha o.pos else Hb o.pos)≤_∧∀ r,Flows o r→_∧(if r≤q0 then Hp r else if r≤q2 then Ha r else Hb r)=(if o.pos≤q0 then Hp o.pos else if o.pos≤q2 then Ha o.pos else Hb o.pos)-takesN o.op+laysN o.op
  rcases List.mem_append.1 hmem with h1 | h1
  ·have hb:=gp.before h1
   obtain ⟨a1,a2,a3⟩:=gp.ops o h1
   rw[ep o.pos (by omega)]
   refine ⟨a1,by omega,fun r hr=>?_⟩
   obtain ⟨b1,b2⟩:=a3 r hr
   rcases b1 with rfl | ⟨o',ho',rfl⟩
   ·exact ⟨.inr ⟨_,m0,rfl⟩,by rw[ep r (Nat.le_refl _),b2]⟩
   ·exact ⟨.inr ⟨o',mp ho',rfl⟩,by rw[ep o'.pos (by have:=gp.before ho';omega),b2]⟩
  ·rcases List.mem_cons.1 h1 with rfl | h1
   ·have hpos:(mkIns s q0).pos=q0:=rfl
    have hop:(mkIns s q0).op=bt s q0:=rfl
    have hge:=gp.ends
    rw[hpos,hop,ep q0 (Nat.le_refl _),gp.fin,tk0.1,tk0.2]
    refine ⟨by omega,by omega,fun r hr=>?_⟩
    rcases (f0 r).1 hr with rfl | rfl
    ·exact ⟨.inr ⟨oa,ma hoa,hpa⟩,by rw[ea r h01 (by omega),ga.start];omega⟩
    ·exact ⟨.inr ⟨ob,mb hob,hpb⟩,by rw[eb r (Nat.le_refl _),gb.start];omega⟩
   ·rcases List.mem_append.1 h1 with h1 | h1
    ·have hb:=ga.before h1
     obtain ⟨a1,a2,a3⟩:=ga.ops o h1
     rw[ea o.pos (by omega) (by omega)]
     refine ⟨a1,by omega,fun r hr=>?_⟩
     obtain ⟨b1,b2⟩:=a3 r hr
     rcases b1 with rfl | ⟨o',ho',rfl⟩
     ·exact ⟨.inr ⟨_,m2,rfl⟩,by rw[ea r (by omega) (Nat.le_refl _),b2]⟩
     ·exact ⟨.inr ⟨o',ma ho',rfl⟩,by have:=ga.before ho';rw[ea o'.pos (by omega) (by omega),b2]⟩
    ·rcases List.mem_cons.1 h1 with rfl | h1
     ·have hpos:(mkIns s q2).pos=q2:=rfl
      have hop:(mkIns s q2).op=bt s q2:=rfl
      have hge:=ga.ends
      rw[hpos,hop,ea q2 (by omega) (Nat.le_refl _),ga.fin,tk2.1,tk2.2]
      refine ⟨by omega,by omega,fun r hr=>?_⟩
      obtain rfl:=(f2 r).1 hr
      exact ⟨.inl rfl,by rw[eb r (by omega),gb.fin];omega⟩
     ·have hb:=gb.before h1
      obtain ⟨a1,a2,a3⟩:=gb.ops o h1
      rw[eb o.pos hb.1]
      refine ⟨a1,by omega,fun r hr=>?_⟩
      obtain ⟨b1,b2⟩:=a3 r hr
      rcases b1 with rfl | ⟨o',ho',rfl⟩
      ·exact ⟨.inl rfl,by rw[eb r (by omega),b2]⟩
      ·exact ⟨.inr ⟨o',mb ho',rfl⟩,by rw[eb o'.pos (gb.before ho').1,b2]⟩
 ·intro o hmem
  rcases List.mem_append.1 hmem with h1 | h1
  ·rcases gp.reach o h1 with h2 | ⟨o',ho',hf⟩
   ·exact .inl h2
   ·exact .inr ⟨o',mp ho',hf⟩
  ·rcases List.mem_cons.1 h1 with rfl | h1
   ·obtain ⟨o',ho',hf⟩:=gp.out
    exact .inr ⟨o',mp ho',hf⟩
   ·rcases List.mem_append.1 h1 with h1 | h1
    ·rcases ga.reach o h1 with h2 | ⟨o',ho',hf⟩
     ·exact .inr ⟨_,m0,by rw[h2];exact (f0 q1).2 (.inl rfl)⟩
     ·exact .inr ⟨o',ma ho',hf⟩
    ·rcases List.mem_cons.1 h1 with rfl | h1
     ·obtain ⟨o',ho',hf⟩:=ga.out
      exact .inr ⟨o',ma ho',hf⟩
     ·rcases gb.reach o h1 with h2 | ⟨o',ho',hf⟩
      ·exact .inr ⟨_,m0,by rw[h2];exact (f0 t).2 (.inr rfl)⟩
      ·exact .inr ⟨o',mb ho',hf⟩
 ·obtain ⟨o,ho,hf⟩:=gb.out
  exact ⟨o,mb ho,hf⟩
 ·have:=gp.ends;omega
 ·have t1:∃ o∈lp++mkIns s q0 :: (la++mkIns s q2 :: lb),(if o.pos≤q0 then Hp o.pos else if o.pos≤q2 then Ha o.pos else Hb o.pos)=hi1:=by
   rcases gp.top with ⟨o,ho,he⟩ | he
   ·exact ⟨o,mp ho,by rw[ep o.pos (by have:=gp.before ho;omega),he]⟩
   ·exact ⟨_,m0,by show (if q0≤q0 then Hp q0 else _)=hi1;rw[if_pos (Nat.le_refl _),gp.fin,he]⟩
  have t2':∃ o∈lp++mkIns s q0 :: (la++mkIns s q2 :: lb),(if o.pos≤q0 then Hp o.pos else if o.pos≤q2 then Ha o.pos else Hb o.pos)=hi2:=by
   rcases ga.top with ⟨o,ho,he⟩ | he
   ·have hb:=ga.before ho
    exact ⟨o,ma ho,by rw[ea o.pos (by omega) (by omega),he]⟩
   ·exact ⟨_,m2,by show (if q2≤q0 then Hp q2 else if q2≤q2 then Ha q2 else Hb q2)=hi2;rw[ea q2 (by omega) (Nat.le_refl _),ga.fin,he]⟩
  by_cases c1:max hi2 hi3≤hi1
  ·obtain ⟨o,ho,he⟩:=t1
   exact .inl ⟨o,ho,by rw[he];omega⟩
  ·by_cases c2:hi3≤hi2
   ·obtain ⟨o,ho,he⟩:=t2'
    exact .inl ⟨o,ho,by rw[he];omega⟩
   ·rcases gb.top with ⟨o,ho,he⟩ | he
    ·exact .inl ⟨o,mb ho,by show (if o.pos≤q0 then Hp o.pos else if o.pos≤q2 then Ha o.pos else Hb o.pos)=_;rw[eb o.pos (gb.before ho).1,he];omega⟩
    ·exact .inr (by omega)
end Go.Proofs.YtpcjadaeolkngaaGreatDoor
