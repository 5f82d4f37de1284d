/-
  What the operations of an image do, step by step: plain; and that within an image the stack is never too low.
-/
import Derived.Test.YtpcjadaeolkngaaGreatDoorK04
set_option linter.unusedVariables false
set_option linter.unusedSimpArgs false
namespace Go.Proofs.YtpcjadaeolkngaaGreatDoor
open Go.RowKit
structure Itm where
 size:Int
 speed:Int
 need:Int
structure Bn where
 id:Int
 zone:Int
 cap:Int
 used:Int
 has:Int
def attrN (k:Int) (x:Itm) (b:Bn):Int :=
 if k=0 then x.size else if k=1 then x.speed else if k=2 then x.need else if k=3 then b.zone else if k=4 then b.cap else if k=5 then b.used else if k=6 then b.has else 0
def Itm.Ok (x:Itm):Prop:=(1≤x.size∧x.size≤1000)∧(0≤x.speed∧x.speed≤1000)∧(0≤x.need∧x.need≤2)
def Bn.Ok (b:Bn):Prop:=(0≤b.id∧b.id≤1000)∧(0≤b.zone∧b.zone≤9)∧(1≤b.cap∧b.cap≤1000)∧(0≤b.used∧b.used≤b.cap)∧(0≤b.has∧b.has≤2)
def fst (st:List Int):Int:=st.headD 0
def snd (st:List Int):Int:=(st.drop 1).headD 0
def Ins.to (o:Ins):Nat:=(o.next+o.arg).toNat
def layM (r:Int × Nat) (p:Nat) (st:List Int):(Nat × Int) ⊕ (Nat × List Int):=if r.2=0 then .inr (p,r.1 :: st) else .inl (2,r.2)
def stepM (x:Itm) (b:Bn) (o:Ins) (st:List Int):(Nat × Int) ⊕ (Nat × List Int) :=
 if o.op=16 then .inl (1,fst st)
 else if o.op=17 then .inl (0,0)
 else if o.op=0 then .inr (o.next,o.arg :: st)
 else if o.op=1 then .inr (o.next,attrN o.arg x b :: st)
 else if o.op=2 then layM (negN (fst st)) o.next (st.drop 1)
 else if o.op=3 then .inr (o.next,bitN (decide (fst st=0)) :: st.drop 1)
 else if o.op=13 then .inr (o.to,st)
 else if o.op=14 then .inr (if fst st=0 then o.to else o.next,st.drop 1)
 else if o.op=15 then .inr (if fst st=0 then o.next else o.to,st.drop 1)
 else layM (joinN o.op (snd st) (fst st)) o.next (st.drop 2)
def runM (s:ByteArray) (x:Itm) (b:Bn):Nat→Nat→List Int→Nat→Nat × Int × Nat
 | 0,_,_,n=>(0,0,n)
 | f+1,p,st,n=>match stepM x b (mkIns s p) st with
  | .inl (k,v)=>(k,v,n+1)
  | .inr (p',st')=>runM s x b f p' st' (n+1)
theorem runM_end {s:ByteArray} {x:Itm} {b:Bn} {f p:Nat} {st:List Int} {n k:Nat} {v:Int} (h:stepM x b (mkIns s p) st=.inl (k,v)):runM s x b (f+1) p st n=(k,v,n+1):=by
 simp[runM,h]
theorem runM_go {s:ByteArray} {x:Itm} {b:Bn} {f p:Nat} {st:List Int} {n p':Nat} {st':List Int} (h:stepM x b (mkIns s p) st=.inr (p',st')):runM s x b (f+1) p st n=runM s x b f p' st' (n+1):=by
 simp[runM,h]
structure AtStep (s:ByteArray) (l:List Ins) (most:Nat) (G:Nat→Int) (p:Nat) (st:List Int):Prop where
 chain:Chain s 3 l s.size
 law:Lawful l most G
 here:mkIns s p∈l
 high:G p=st.length
 nums:∀ v∈st,In64 v
theorem AtStep.ok {s:ByteArray} {l:List Ins} {most:Nat} {G:Nat→Int} {p:Nat} {st:List Int} (h:AtStep s l most G p st):OpOkI s p:=(h.chain.mem _ h.here).2.2.1
theorem AtStep.tall {s:ByteArray} {l:List Ins} {most:Nat} {G:Nat→Int} {p:Nat} {st:List Int} (h:AtStep s l most G p st):takesN (bt s p)≤st.length:=by
 have:=(h.law.2 _ h.here).1
 simp only[mkIns] at this
 rw[h.high] at this
 omega
theorem AtStep.most_le {s:ByteArray} {l:List Ins} {most:Nat} {G:Nat→Int} {p:Nat} {st:List Int} (h:AtStep s l most G p st):st.length≤most:=by
 have:=(h.law.2 _ h.here).2.1
 simp only[mkIns] at this
 rw[h.high] at this
 omega
theorem AtStep.start {s:ByteArray} {l:List Ins} {most:Nat} {G:Nat→Int} (hc:Chain s 3 l s.size) (hl:Lawful l most G) (h4:3 < s.size):AtStep s l most G 3 []:=by
 refine ⟨hc,hl, ?_,by rw[hl.1];rfl,by simp⟩
 obtain ⟨o,ho,h1,h2⟩:=hc.cover 3 (Nat.le_refl _) h4
 have hm:=hc.mem o ho
 have:o.pos=3:=by omega
 rw[← this,← hm.2.2.2];exact ho
theorem AtStep.next {s:ByteArray} {l:List Ins} {most:Nat} {G:Nat→Int} {p:Nat} {st st':List Int} {q:Nat} (h:AtStep s l most G p st) (hf:Flows (mkIns s p) q) (hn:(st'.length:Int)=st.length - takesN (bt s p)+laysN (bt s p)) (hi:∀ v∈st',In64 v):AtStep s l most G q st'∧p < q:=by
 obtain ⟨⟨o,ho,rfl⟩,h2⟩:=(h.law.2 _ h.here).2.2.1 q hf
 have hm:=h.chain.mem o ho
 refine ⟨⟨h.chain,h.law,by rw[← hm.2.2.2];exact ho, ?_,hi⟩,hf.lt⟩
 rw[h2,hn]
 show G p - takesN (bt s p)+laysN (bt s p)=_
 rw[h.high]
theorem jump_to (s:ByteArray) (p:Nat) (h:(mkIns s p).op=13∨(mkIns s p).op=14∨(mkIns s p).op=15):((mkIns s p).to:Int)=(mkIns s p).next+(mkIns s p).arg:=by
 have:=jump_arg s p h
 unfold Ins.to
 omega
theorem attr_in (k:Int) (x:Itm) (b:Bn) (hx:x.Ok) (hb:b.Ok):In64 (attrN k x b):=by
 unfold Itm.Ok at hx
 unfold Bn.Ok at hb
 unfold attrN In64
 repeat' split
 all_goals omega
theorem AtStep.go {s:ByteArray} {l:List Ins} {most:Nat} {G:Nat→Int} {p:Nat} {st st':List Int} {q:Nat} {x:Itm} {b:Bn} (h:AtStep s l most G p st) (hx:x.Ok) (hb:b.Ok) (hs:stepM x b (mkIns s p) st=.inr (q,st')):AtStep s l most G q st'∧p < q:=by
 have ht:=h.tall
 have hok:=h.ok
 have hop:(mkIns s p).op=bt s p:=rfl
 have hd:∀ k,∀ v∈st.drop k,In64 v:=fun k v hv=>h.nums v (List.mem_of_mem_drop hv)
 have hfst:In64 (fst st):=by
  unfold fst
  cases st with
  | nil=>decide
  | cons a r=>exact h.nums a (by simp)
 have hsnd:In64 (snd st):=by
  unfold snd
  cases hdd:st.drop 1 with
  | nil=>decide
  | cons a r=>exact hd 1 a (by rw[hdd];simp)
 have hnx:(bt s p≠13∧bt s p≠16∧bt s p≠17)→Flows (mkIns s p) (mkIns s p).next:=fun hh=>.inl ⟨hh.1,hh.2.1,hh.2.2,rfl⟩
 have hto:(bt s p=13∨bt s p=14∨bt s p=15)→Flows (mkIns s p) (mkIns s p).to:=fun hh=>.inr ⟨hh,jump_to s p hh⟩
 have hc17:bt s p≤17:=hok.2.1
 unfold stepM at hs
 simp only[hop] at hs
 split at hs
 ·simp at hs
 split at hs
 ·simp at hs
 split at hs
 ·rename_i h0
  simp at hs
  obtain ⟨rfl,rfl⟩:=hs
  refine h.next (hnx (by omega)) (by simp[takesN,laysN,h0]) ?_
  intro v hv
  rcases List.mem_cons.1 hv with rfl | hv
  ·exact in_wrap _
  ·exact h.nums v hv
 split at hs
 ·rename_i h0
  simp at hs
  obtain ⟨rfl,rfl⟩:=hs
  refine h.next (hnx (by omega)) (by simp[takesN,laysN,h0]) ?_
  intro v hv
  rcases List.mem_cons.1 hv with rfl | hv
  ·exact attr_in _ x b hx hb
  ·exact h.nums v hv
 split at hs
 ·rename_i h0
  unfold layM at hs
  split at hs
  ·simp at hs
   obtain ⟨rfl,rfl⟩:=hs
   rw[h0] at ht
   simp[takesN] at ht
   refine h.next (hnx (by omega)) (by simp[takesN,laysN,h0];omega) ?_
   intro v hv
   rcases List.mem_cons.1 hv with rfl | hv
   ·exact neg_in _
   ·exact hd 1 v (by simpa using hv)
  ·simp at hs
 split at hs
 ·rename_i h0
  simp at hs
  obtain ⟨rfl,rfl⟩:=hs
  rw[h0] at ht
  simp[takesN] at ht
  refine h.next (hnx (by omega)) (by simp[takesN,laysN,h0];omega) ?_
  intro v hv
  rcases List.mem_cons.1 hv with rfl | hv
  ·unfold bitN;split <;> decide
  ·exact hd 1 v (by simpa using hv)
 split at hs
 ·rename_i h0
  simp at hs
  obtain ⟨rfl,rfl⟩:=hs
  exact h.next (hto (by omega)) (by simp[takesN,laysN,h0]) h.nums
 split at hs
 ·rename_i h0
  simp at hs
  obtain ⟨rfl,rfl⟩:=hs
  rw[h0] at ht
  simp[takesN] at ht
  refine h.next ?_ (by simp[takesN,laysN,h0];omega) (fun v hv=>hd 1 v (by simpa using hv))
  split
  ·exact hto (by omega)
  ·exact hnx (by omega)
 split at hs
 ·rename_i h0
  simp at hs
  obtain ⟨rfl,rfl⟩:=hs
  rw[h0] at ht
  simp[takesN] at ht
  refine h.next ?_ (by simp[takesN,laysN,h0];omega) (fun v hv=>hd 1 v (by simpa using hv))
  split
  ·exact hnx (by omega)
  ·exact hto (by omega)
 ·unfold layM at hs
  split at hs
  ·simp at hs
   obtain ⟨rfl,rfl⟩:=hs
   have h2:takesN (bt s p)=2:=by unfold takesN;rw[if_neg (by omega),if_neg (by omega)]
   have h3:laysN (bt s p)=1:=by unfold laysN;rw[if_neg (by omega)]
   rw[h2] at ht
   refine h.next (hnx (by omega)) (by rw[h2,h3];simp;omega) ?_
   intro v hv
   rcases List.mem_cons.1 hv with rfl | hv
   ·exact join_in _ _ _ hsnd hfst
   ·exact hd 2 v (by simpa using hv)
  ·simp at hs
end Go.Proofs.YtpcjadaeolkngaaGreatDoor
namespace Go.Proofs.YtpcjadaeolkngaaGreatDoor
open Go.RowKit
def Sits (s:ByteArray) (p:Nat) (c:List Nat):Prop:=∀ i b,c[i]?=some b→p+i < s.size∧bt s (p+i)=b
theorem Sits.left {s:ByteArray} {p:Nat} {c d:List Nat} (h:Sits s p (c++d)):Sits s p c:=fun i b hi=>h i b (by
 have hlt:=(List.getElem?_eq_some_iff.1 hi).1
 rw[List.getElem?_append_left hlt];exact hi)
theorem Sits.right {s:ByteArray} {p:Nat} {c d:List Nat} (h:Sits s p (c++d)):Sits s (p+c.length) d:=fun i b hi=>by
 have:=h (c.length+i) b (by rw[List.getElem?_append_right (by omega),show c.length+i - c.length=i by omega];exact hi)
 rw[← Nat.add_assoc] at this
 exact this
def DoesSo (s:ByteArray) (x:Itm) (y:Bn) (p q:Nat) (v:Int) (flt steps:Nat):Prop :=
 (flt=0∧∀ f st n,runM s x y (f+steps) p st n=runM s x y f q (v :: st) (n+steps)) ∨
 (flt≠0∧∀ f st n,steps≤f→runM s x y f p st n=(2,(flt:Int),n+steps))
theorem does_one {s:ByteArray} {x:Itm} {y:Bn} {p q:Nat} {v:Int} (h:∀ st,stepM x y (mkIns s p) st=.inr (q,v :: st)):DoesSo s x y p q v 0 1 :=
 Or.inl ⟨rfl,fun f st n=>by rw[runM_go (h st)]⟩
theorem DoesSo.fault {s:ByteArray} {x:Itm} {y:Bn} {p q q':Nat} {v v':Int} {flt steps:Nat} (h:DoesSo s x y p q v flt steps) (hf:flt≠0):DoesSo s x y p q' v' flt steps:=by
 rcases h with ⟨h0,_⟩ | h
 ·exact absurd h0 hf
 ·exact Or.inr h
theorem DoesSo.unary {s:ByteArray} {x:Itm} {y:Bn} {p q r:Nat} {a v:Int} {f1 k:Nat} (h:DoesSo s x y p q a 0 k) (hop:∀ st,stepM x y (mkIns s q) (a :: st)=layM (v,f1) r st):DoesSo s x y p r v f1 (k+1):=by
 rcases h with ⟨_,h⟩ | ⟨h0,_⟩
 ·by_cases hf:f1=0
  ·subst hf
   refine Or.inl ⟨rfl,fun f st n=>?_⟩
   rw[show f+(k+1)=(f+1)+k by omega,h (f+1) st n,runM_go (hop st),Nat.add_assoc]
  ·refine Or.inr ⟨hf,fun f st n hle=>?_⟩
   obtain ⟨f',rfl⟩:∃ f',f=(f'+1)+k:=⟨f - k - 1,by omega⟩
   rw[h (f'+1) st n]
   have:stepM x y (mkIns s q) (a :: st)=.inl (2,(f1:Int)):=by rw[hop st];unfold layM;simp only[hf,if_false]
   rw[runM_end this,Nat.add_assoc]
 ·exact absurd rfl h0
theorem DoesSo.binary {s:ByteArray} {x:Itm} {y:Bn} {p q r e:Nat} {a b v:Int} {f1 k m:Nat} (h1:DoesSo s x y p q a 0 k) (h2:DoesSo s x y q r b 0 m) (hop:∀ st,stepM x y (mkIns s r) (b :: a :: st)=layM (v,f1) e st):DoesSo s x y p e v f1 (k+m+1):=by
 rcases h1 with ⟨_,h1⟩ | ⟨h0,_⟩
 ·rcases h2 with ⟨_,h2⟩ | ⟨h0,_⟩
  ·by_cases hf:f1=0
   ·subst hf
    refine Or.inl ⟨rfl,fun f st n=>?_⟩
    rw[show f+(k+m+1)=((f+1)+m)+k by omega,h1,h2,runM_go (hop st)]
    congr 1
    omega
   ·refine Or.inr ⟨hf,fun f st n hle=>?_⟩
    obtain ⟨f',rfl⟩:∃ f',f=((f'+1)+m)+k:=⟨f - k - m - 1,by omega⟩
    have:stepM x y (mkIns s r) (b :: a :: st)=.inl (2,(f1:Int)):=by rw[hop st];unfold layM;simp only[hf,if_false]
    rw[h1,h2,runM_end this]
    simp only[Nat.add_assoc]
  ·exact absurd rfl h0
 ·exact absurd rfl h0
theorem DoesSo.second {s:ByteArray} {x:Itm} {y:Bn} {p q r e:Nat} {a b v:Int} {f2 k m:Nat} (h1:DoesSo s x y p q a 0 k) (h2:DoesSo s x y q r b f2 m) (hf:f2≠0):DoesSo s x y p e v f2 (k+m):=by
 rcases h1 with ⟨_,h1⟩ | ⟨h0,_⟩
 ·rcases h2 with ⟨h0,_⟩ | ⟨_,h2⟩
  ·exact absurd h0 hf
  ·refine Or.inr ⟨hf,fun f st n hle=>?_⟩
   obtain ⟨f',rfl⟩:∃ f',f=f'+k:=⟨f - k,by omega⟩
   rw[h1,h2 f' (a :: st) (n+k) (by omega),Nat.add_assoc]
 ·exact absurd rfl h0
theorem DoesSo.goTo {s:ByteArray} {x:Itm} {y:Bn} {p q t e:Nat} {a v:Int} {f2 k m:Nat} (h1:DoesSo s x y p q a 0 k) (hop:∀ st,stepM x y (mkIns s q) (a :: st)=.inr (t,st)) (h2:DoesSo s x y t e v f2 m):DoesSo s x y p e v f2 (k+1+m):=by
 rcases h1 with ⟨_,h1⟩ | ⟨h0,_⟩
 ·rcases h2 with ⟨h0,h2⟩ | ⟨hf,h2⟩
  ·subst h0
   refine Or.inl ⟨rfl,fun f st n=>?_⟩
   rw[show f+(k+1+m)=((f+m)+1)+k by omega,h1,runM_go (hop st),h2]
   congr 1
   omega
  ·refine Or.inr ⟨hf,fun f st n hle=>?_⟩
   obtain ⟨f',rfl⟩:∃ f',f=(f'+1)+k:=⟨f - k - 1,by omega⟩
   rw[h1,runM_go (hop st),h2 f' st (n+k+1) (by omega)]
   simp only[Nat.add_assoc]
 ·exact absurd rfl h0
theorem DoesSo.over {s:ByteArray} {x:Itm} {y:Bn} {p q e:Nat} {v:Int} {k:Nat} (h:DoesSo s x y p q v 0 k) (hop:∀ st,stepM x y (mkIns s q) st=.inr (e,st)):DoesSo s x y p e v 0 (k+1):=by
 rcases h with ⟨_,h⟩ | ⟨h0,_⟩
 ·refine Or.inl ⟨rfl,fun f st n=>?_⟩
  rw[show f+(k+1)=(f+1)+k by omega,h,runM_go (hop (v :: st)),Nat.add_assoc]
 ·exact absurd rfl h0
end Go.Proofs.YtpcjadaeolkngaaGreatDoor
namespace Go.Proofs.YtpcjadaeolkngaaGreatDoor
open Go.RowKit
theorem Found.at {s:ByteArray} {most:Nat} {H:Nat→Int} {p:Nat} {l0 l:List Ins} (h:Found s most H p l0) (hp:p < s.size) (hc:Chain s 3 l s.size) :
  OpOkI s p∧∃ r,l=l0++mkIns s p :: r∧Chain s (mkIns s p).next r s.size:=by
 obtain ⟨r,rfl,hr⟩:=h.chain.pre hc
 cases r with
 | nil=>have:p=s.size:=hr;omega
 | cons o r =>
  obtain ⟨h1,rfl,h3⟩:=hr
  exact ⟨h1,r,rfl,h3⟩
theorem Found.bad_op {s:ByteArray} {H:Nat→Int} {p:Nat} {l0:List Ins} (h:Found s (bt s 2) H p l0) (hp:p < s.size) (hb:¬ OpOkI s p):¬ IsImg s:=by
 rintro ⟨_,l,hc,_⟩
 exact hb (h.at hp hc).1
theorem Found.bad_none {s:ByteArray} {H:Nat→Int} {p:Nat} {l0:List Ins} (h:Found s (bt s 2) H p l0) (hp:p < s.size) (hb:H p=-1):¬ IsImg s:=by
 rintro ⟨_,l,hc,G,hl⟩
 obtain ⟨h1,r,rfl,hr⟩:=h.at hp hc
 have hm:mkIns s p∈l0++mkIns s p :: r:=by simp
 obtain ⟨_,_,_,h4⟩:=hl.2 _ hm
 rcases h4 with h4 | ⟨o',ho',hf⟩
 ·have:p=3:=h4
  subst this
  rw[h.first] at hb
  omega
 ·have hm':=hc.mem o' ho'
  have hlt:o'.pos < p:=by rw[hm'.2.2.2] at hf;exact hf.lt
  have hin:o'∈l0:=by
   rcases List.mem_append.1 ho' with h5 | h5
   ·exact h5
   ·rcases List.mem_cons.1 h5 with rfl | h5
    ·have:p < p:=hlt
     omega
    ·have:=(hr.mem o' h5).1
     have h6:=next_pos s p
     omega
  obtain ⟨h7,_,h8⟩:=h.done o' hin
  have h9:=(h8 p hf).2
  omega
theorem Found.bad_low {s:ByteArray} {H:Nat→Int} {p:Nat} {l0:List Ins} (h:Found s (bt s 2) H p l0) (hp:p < s.size) (hn:H p≠-1) (hb:H p < takesN (bt s p)):¬ IsImg s:=by
 rintro ⟨_,l,hc,G,hl⟩
 have h2:=(h.agree hp hc hl (p+1) p (by omega) hn).1
 obtain ⟨h1,r,rfl,hr⟩:=h.at hp hc
 have hm:mkIns s p∈l0++mkIns s p :: r:=by simp
 obtain ⟨h3,_⟩:=hl.2 _ hm
 simp only[mkIns] at h3
 omega
theorem Found.bad_inside {s:ByteArray} {H:Nat→Int} {p i:Nat} {l0:List Ins} (h:Found s (bt s 2) H p l0) (hp:p < s.size) (h1:p < i) (h2:i < (mkIns s p).next) (hb:H i≠-1):¬ IsImg s:=by
 rintro ⟨_,l,hc,G,hl⟩
 obtain ⟨_,o,ho,rfl⟩:=h.agree hp hc hl (i+1) i (by omega) hb
 obtain ⟨_,r,rfl,hr⟩:=h.at hp hc
 have hm:mkIns s p∈l0++mkIns s p :: r:=by simp
 have h3:(mkIns s p).pos < o.pos:=h1
 have:=hc.apart _ hm o ho h3
 omega
theorem Found.bad_flow {s:ByteArray} {H:Nat→Int} {p q:Nat} {l0:List Ins} (h:Found s (bt s 2) H p l0) (hp:p < s.size) (hn:H p≠-1) (hf:Flows (mkIns s p) q)
  (hb:s.size≤q∨(bt s 2:Int) < H p - takesN (bt s p)+laysN (bt s p)∨(H q≠-1∧H q≠H p - takesN (bt s p)+laysN (bt s p))):¬ IsImg s:=by
 rintro ⟨_,l,hc,G,hl⟩
 have h2:=(h.agree hp hc hl (p+1) p (by omega) hn).1
 have hag:=h.agree hp hc hl (q+1) q (by omega)
 obtain ⟨_,r,rfl,hr⟩:=h.at hp hc
 have hm:mkIns s p∈l0++mkIns s p :: r:=by simp
 obtain ⟨_,_,h3,_⟩:=hl.2 _ hm
 obtain ⟨⟨o',ho',rfl⟩,h4⟩:=h3 q hf
 have h5:=(hc.mem o' ho').2.2.1.1
 obtain ⟨_,h6,_⟩:=hl.2 o' ho'
 simp only[mkIns] at h4
 rcases hb with hb | hb | ⟨hb,hb'⟩
 ·omega
 ·omega
 ·have:=(hag hb).1
  omega
theorem Found.step {s:ByteArray} {most:Nat} {H H':Nat→Int} {p:Nat} {l0:List Ins} (h:Found s most H p l0) (ho:OpOkI s p) (ht:(takesN (bt s p):Int)≤H p)
  (hin:∀ i,p < i→i < (mkIns s p).next→H i=-1)
  (hf:∀ q,Flows (mkIns s p) q→q < s.size∧H p - takesN (bt s p)+laysN (bt s p)≤most∧(H q=-1∨H q=H p - takesN (bt s p)+laysN (bt s p))∧H' q=H p - takesN (bt s p)+laysN (bt s p))
  (hH:∀ q,¬ Flows (mkIns s p) q→H' q=H q) :
  Found s most H' (mkIns s p).next (l0++[mkIns s p]):=by
 have hkeep:∀ q,q < (mkIns s p).next→H' q=H q:=fun q hq=>hH q (fun hfl=>by have:=hfl.le;omega)
 have hpn:=next_pos s p
 have h3p:=h.chain.le
 have hcov:∀ q,H q≠-1→H' q=H q:=by
  intro q hq
  by_cases hfl:Flows (mkIns s p) q
  ·obtain ⟨_,_,h1,h2⟩:=hf q hfl
   rcases h1 with h1 | h1
   ·exact absurd h1 hq
   ·rw[h1,h2]
  ·exact hH q hfl
 have hpos:∀ o∈l0,H' o.pos=H o.pos:=fun o ho'=>hcov _ (by have:=(h.done o ho').1;omega)
 have hp':H' p=H p:=hkeep p hpn
 refine ⟨h.chain.snoc ho, ?_, ?_, ?_, ?_, ?_, ?_⟩
 ·rw[hkeep 3 (by omega),h.first]
 ·intro q hq
  by_cases hfl:Flows (mkIns s p) q
  ·exact .inr ⟨mkIns s p,by simp,hfl,by
    rw[(hf q hfl).2.2.2]
    show _=H' p - takesN (bt s p)+laysN (bt s p)
    rw[hp']⟩
  ·rw[hH q hfl] at hq
   rcases h.src q hq with h1 | ⟨o,ho',hfo,he⟩
   ·exact .inl h1
   ·exact .inr ⟨o,List.mem_append_left _ ho',hfo,by rw[hH q hfl,hpos o ho',he]⟩
 ·intro o ho'
  rcases List.mem_append.1 ho' with h1 | h1
  ·obtain ⟨h2,h3,h4⟩:=h.done o h1
   rw[hpos o h1]
   refine ⟨h2,h3,fun q hq=>?_⟩
   obtain ⟨h5,h6⟩:=h4 q hq
   exact ⟨h5,by rw[hcov q (by omega),h6]⟩
  ·have:o=mkIns s p:=by simpa using h1
   subst this
   show (takesN (bt s p):Int)≤H' p∧H' p≤most∧∀ q,Flows (mkIns s p) q→q < s.size∧H' q=H' p - takesN (bt s p)+laysN (bt s p)
   rw[hp']
   exact ⟨ht,h.high p,fun q hq=>⟨(hf q hq).1,(hf q hq).2.2.2⟩⟩
 ·intro o ho' q h1 h2
  rcases List.mem_append.1 ho' with h3 | h3
  ·have h4:=(h.chain.mem o h3).2.1
   rw[hkeep q (by omega)]
   exact h.inside o h3 q h1 h2
  ·have:o=mkIns s p:=by simpa using h3
   subst this
   rw[hkeep q h2]
   exact hin q h1 h2
 ·intro q
  by_cases hfl:Flows (mkIns s p) q
  ·rw[(hf q hfl).2.2.2]
   have:=h.low p
   omega
  ·rw[hH q hfl];exact h.low q
 ·intro q
  by_cases hfl:Flows (mkIns s p) q
  ·rw[(hf q hfl).2.2.2]
   exact (hf q hfl).2.1
  ·rw[hH q hfl];exact h.high q
theorem found_start (s:ByteArray) (most:Nat):Found s most (fun q=>if q=3 then 0 else -1) 3 []:=by
 refine ⟨rfl,by simp, ?_,by simp,by simp, ?_, ?_⟩
 ·intro q hq
  by_cases h:q=3
  ·exact .inl h
  ·simp[h] at hq
 ·intro q;by_cases h:q=3 <;> simp[h]
 ·intro q;by_cases h:q=3 <;> simp[h]
end Go.Proofs.YtpcjadaeolkngaaGreatDoor
