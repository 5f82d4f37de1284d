/-
  Images, in the document's words: the operations that stand in some bytes, their heights, and what makes them an image.
-/
import Derived.WalkKit
import Derived.WalkSpells
import Derived.Test.YtgfnkeiigjholaaGreatDoorQ01
import Derived.Test.YtgfnkeiigjholaaGreatDoorProg
import Derived.Deep.Light
set_option linter.unusedVariables false
set_option linter.unusedSimpArgs false
namespace Go.Proofs.YtgfnkeiigjholaaGreatDoor
open Go.RowKit
def bt(s:ByteArray)(i:Nat):Nat:=if h:i<s.size then (s[i]).toNat else 0
theorem bt_lt(s:ByteArray)(i:Nat):bt s i<256:=by
 unfold bt
 split
 ·exact UInt8.toNat_lt _
 ·omega
def lowU(s:ByteArray):Nat→Nat→Nat
 | _,0=>0
 | p,n+1=>bt s p+256*lowU s (p+1) n
theorem lowU_two(s:ByteArray)(p:Nat):lowU s p 2<65536:=by
 have h1:=bt_lt s p
 have h2:=bt_lt s (p+1)
 simp only[lowU];omega
def behindN(c:Nat):Nat:=if c=0 then 8 else if c=1 then 1 else if c=13∨c=14∨c=15 then 2 else 0
def takesN(c:Nat):Nat:=if c=0∨c=1∨c=13∨c=17 then 0 else if c=2∨c=3∨c=14∨c=15∨c=16 then 1 else 2
def laysN(c:Nat):Nat:=if 13≤c then 0 else 1
structure Ins where
 pos:Nat
 op:Nat
 arg:Int
 next:Nat
def mkIns(s:ByteArray)(p:Nat):Ins:=⟨p,bt s p,IntKind.i64.wrap (lowU s (p+1) (behindN (bt s p)):Nat),p+1+behindN (bt s p)⟩
def OpOkI(s:ByteArray)(p:Nat):Prop:=p<s.size∧bt s p≤17∧p+1+behindN (bt s p)≤s.size∧(bt s p=1→bt s (p+1)≤6)
def Chain(s:ByteArray):Nat→List Ins→Nat→Prop
 | p,[],q=>p=q
 | p,o :: r,q=>OpOkI s p∧o=mkIns s p∧Chain s o.next r q
def Flows(o:Ins)(q:Nat):Prop:=(o.op≠13∧o.op≠16∧o.op≠17∧q=o.next)∨((o.op=13∨o.op=14∨o.op=15)∧(q:Int)=o.next+o.arg)
def Lawful(l:List Ins)(most:Nat)(H:Nat→Int):Prop :=
 H 3=0∧∀ o∈l,(takesN o.op:Int)≤H o.pos∧H o.pos≤most∧(∀ q,Flows o q→(∃ o'∈l,o'.pos=q)∧H q=H o.pos-takesN o.op+laysN o.op)∧(o.pos=3∨∃ o'∈l,Flows o' o.pos)
theorem Chain.le{s:ByteArray}:∀ {l:List Ins} {p q:Nat},Chain s p l q→p≤q
 | [],_,_,h=>Nat.le_of_eq h
 | o :: r,p,q,h=>by
  obtain ⟨_,rfl,h3⟩:=h
  have:=Chain.le h3
  simp only[mkIns]at this
  omega
theorem Chain.mem{s:ByteArray}:∀ {l:List Ins} {p q:Nat},Chain s p l q→∀ o∈l,p≤o.pos∧o.next≤q∧OpOkI s o.pos∧o=mkIns s o.pos
 | [],_,_,_,o,ho=>by simp at ho
 | a :: r,p,q,h,o,ho=>by
  obtain ⟨h1,rfl,h3⟩:=h
  rcases List.mem_cons.1 ho with rfl | ho
  ·exact ⟨Nat.le_refl _,h3.le,h1,rfl⟩
  ·obtain ⟨h4,h5⟩:=Chain.mem h3 o ho
   exact ⟨by simp only[mkIns]at h4;omega,h5⟩
theorem next_pos(s:ByteArray)(p:Nat):p<(mkIns s p).next:=by simp only[mkIns];omega
theorem wrap_small(n:Nat)(h:n<65536):IntKind.i64.wrap (n:Nat)=n:=IntWalk.i64_in _ ⟨by omega,by omega⟩
theorem jump_arg(s:ByteArray)(p:Nat)(h:(mkIns s p).op=13∨(mkIns s p).op=14∨(mkIns s p).op=15):(mkIns s p).arg=lowU s (p+1) 2:=by
 have hb:behindN (bt s p)=2:=by
  simp only[mkIns]at h
  unfold behindN;rcases h with h | h | h <;> simp[h]
 simp only[mkIns,hb]
 exact wrap_small _ (lowU_two s _)
theorem Flows.lt{s:ByteArray}{p q:Nat}(h:Flows (mkIns s p) q):p<q:=by
 rcases h with ⟨_,_,_,rfl⟩ | ⟨hj,hq⟩
 ·exact next_pos s p
 ·rw[jump_arg s p hj]at hq
  have:=next_pos s p
  omega
theorem Flows.le{s:ByteArray}{p q:Nat}(h:Flows (mkIns s p) q):(mkIns s p).next≤q:=by
 rcases h with ⟨_,_,_,rfl⟩ | ⟨hj,hq⟩
 ·exact Nat.le_refl _
 ·rw[jump_arg s p hj]at hq
  omega
abbrev In64(n:Int):Prop:=-9223372036854775808≤n∧n≤9223372036854775807
def exact64(v:Int):Int×Nat:=if In64 v then (v,0) else (0,1)
def bitN(b:Bool):Int:=if b then 1 else 0
def joinN(c:Nat)(a b:Int):Int×Nat :=
 if c=4 then exact64 (a+b)
 else if c=5 then exact64 (a-b)
 else if c=6 then exact64 (a*b)
 else if c=7 then (if b=0 then (0,2) else exact64 (a.tdiv b))
 else if c=8 then (if b=0 then (0,2) else if a=-9223372036854775808∧b=-1 then (0,1) else (a.tmod b,0))
 else if c=9 then (bitN (decide (a<b)),0)
 else if c=10 then (bitN (decide (a≤b)),0)
 else if c=11 then (bitN (decide (a=b)),0)
 else (bitN (decide (a≠b)),0)
def negN(a:Int):Int×Nat:=exact64 (0-a)
def upd(hs:Nat→Int)(k:Nat)(v:Int):Nat→Int:=fun j=>if j=k then v else hs j
structure Itm where
 size:Int
 speed:Int
 need:Int
structure Bn where
 id:Int
 zone:Int
 cap:Int
 used:Int
 has:Int
def attrN(k:Int)(x:Itm)(b:Bn):Int :=
 if k=0 then x.size else if k=1 then x.speed else if k=2 then x.need else if k=3 then b.zone else if k=4 then b.cap else if k=5 then b.used else if k=6 then b.has else 0
def Itm.Ok(x:Itm):Prop:=(1≤x.size∧x.size≤1000)∧(0≤x.speed∧x.speed≤1000)∧(0≤x.need∧x.need≤2)
def Bn.Ok(b:Bn):Prop:=(0≤b.id∧b.id≤1000)∧(0≤b.zone∧b.zone≤9)∧(1≤b.cap∧b.cap≤1000)∧(0≤b.used∧b.used≤b.cap)∧(0≤b.has∧b.has≤2)
def fst(st:List Int):Int:=st.headD 0
def snd(st:List Int):Int:=(st.drop 1).headD 0
def Ins.to(o:Ins):Nat:=(o.next+o.arg).toNat
def layM(r:Int×Nat)(p:Nat)(st:List Int):(Nat×Int) ⊕ (Nat×List Int):=if r.2=0 then .inr (p,r.1 :: st) else .inl (2,r.2)
def stepM(x:Itm)(b:Bn)(o:Ins)(st:List Int):(Nat×Int) ⊕ (Nat×List Int) :=
 if o.op=16 then .inl (1,fst st)
 else if o.op=17 then .inl (0,0)
 else if o.op=0 then .inr (o.next,o.arg :: st)
 else if o.op=1 then .inr (o.next,attrN o.arg x b :: st)
 else if o.op=2 then layM (negN (fst st)) o.next (st.drop 1)
 else if o.op=3 then .inr (o.next,bitN (decide (fst st=0)) :: st.drop 1)
 else if o.op=13 then .inr (o.to,st)
 else if o.op=14 then .inr (if fst st=0 then o.to else o.next,st.drop 1)
 else if o.op=15 then .inr (if fst st=0 then o.next else o.to,st.drop 1)
 else layM (joinN o.op (snd st) (fst st)) o.next (st.drop 2)
def runM(s:ByteArray)(x:Itm)(b:Bn):Nat→Nat→List Int→Nat→Nat×Int×Nat
 | 0,_,_,n=>(0,0,n)
 | f+1,p,st,n=>match stepM x b (mkIns s p) st with
  | .inl (k,v)=>(k,v,n+1)
  | .inr (p',st')=>runM s x b f p' st' (n+1)
structure AtStep(s:ByteArray)(l:List Ins)(most:Nat)(G:Nat→Int)(p:Nat)(st:List Int):Prop where
 chain:Chain s 3 l s.size
 law:Lawful l most G
 here:mkIns s p∈l
 high:G p=st.length
 nums:∀ v∈st,In64 v
theorem AtStep.ok{s:ByteArray}{l:List Ins}{most:Nat}{G:Nat→Int}{p:Nat}{st:List Int}(h:AtStep s l most G p st):OpOkI s p:=(h.chain.mem _ h.here).2.2.1
theorem AtStep.next{s:ByteArray}{l:List Ins}{most:Nat}{G:Nat→Int}{p:Nat}{st st':List Int}{q:Nat}(h:AtStep s l most G p st)(hf:Flows (mkIns s p) q)(hn:(st'.length:Int)=st.length-takesN (bt s p)+laysN (bt s p))(hi:∀ v∈st',In64 v):AtStep s l most G q st'∧p<q:=by
 obtain ⟨⟨o,ho,rfl⟩,h2⟩:=(h.law.2 _ h.here).2.2.1 q hf
 have hm:=h.chain.mem o ho
 refine ⟨⟨h.chain,h.law,by rw[← hm.2.2.2];exact ho, ?_,hi⟩,hf.lt⟩
 rw[h2,hn]
 show G p-takesN (bt s p)+laysN (bt s p)=_
 rw[h.high]
theorem mH{p:Prop}(h:p):Hid p:=h
theorem box3(w:World)(o:Obj):Below w.heap.size w (w.alloc o):=(Below.refl _ _).alloc (Nat.le_refl _) _
end Go.Proofs.YtgfnkeiigjholaaGreatDoor
