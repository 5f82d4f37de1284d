/-
  The program's check: names of a policy.
-/
import Derived.Test.YtgfnkeiigjholaaGreatDoorQ33
import Derived.Deep.RegionWith
import Derived.BigQuiet
import Derived.Test.YtgfnkeiigjholaaGreatDoorQ20
import Derived.Test.YtgfnkeiigjholaaGreatDoorQ13
import Derived.Test.YtgfnkeiigjholaaGreatDoorQ01
import Derived.Laws.BytesString
import Derived.Laws.Cells
import Derived.Deep.RegionHeld3
import Derived.Test.YtgfnkeiigjholaaGreatDoorProg
import Derived.Deep.Light
set_option linter.unusedVariables false
set_option linter.unusedSimpArgs false
namespace Go.Proofs.YtgfnkeiigjholaaGreatDoor
open Go.RowKit Go.Deep
structure But2(a b:Nat)(w w':World):Prop where
 os:w'.os=w.os
 tape:w'.tape=w.tape
 output:w'.output=w.output
 size:w.heap.size≤w'.heap.size
 block:∀ k,k≠a→k≠b→k<w.heap.size→w'.heap[k]?=w.heap[k]?
theorem But2.trans{a b:Nat}{w w1 w2:World}(h:But2 a b w w1)(g:But2 a b w1 w2):But2 a b w w2 :=
 ⟨g.os.trans h.os,g.tape.trans h.tape,g.output.trans h.output,Nat.le_trans h.size g.size,fun k h1 h2 h3=>(g.block k h1 h2 (Nat.lt_of_lt_of_le h3 h.size)).trans (h.block k h1 h2 h3)⟩
structure But(fb:Nat)(w w':World):Prop where
 os:w'.os=w.os
 tape:w'.tape=w.tape
 output:w'.output=w.output
 size:w.heap.size≤w'.heap.size
 block:∀ k,k≠fb→k<w.heap.size→w'.heap[k]?=w.heap[k]?
theorem But.trans{fb:Nat}{w w1 w2:World}(h:But fb w w1)(g:But fb w1 w2):But fb w w2 :=
 ⟨g.os.trans h.os,g.tape.trans h.tape,g.output.trans h.output,Nat.le_trans h.size g.size,fun k h1 h2=>(g.block k h1 (Nat.lt_of_lt_of_le h2 h.size)).trans (h.block k h1 h2)⟩
def cellB(b:Bn):List Value:=[.int .i64 b.id,.int .i64 b.zone,.int .i64 b.cap,.int .i64 b.used,.int .i64 b.has]
def cellsB(l:List Bn):List Value:=l.flatMap cellB
structure Shelf(l:List Bn):Prop where
 up:∀ (i j:Nat) (hi:i<l.length) (hj:j<l.length),i<j→l[i].id<l[j].id
 ok:∀ b∈l,b.Ok
theorem Shelf.drop{l:List Bn}(h:Shelf l)(k:Nat):Shelf (l.drop k):=by
 refine ⟨fun i j hi hj hij=>?_,fun x hx=>h.ok x (List.mem_of_mem_drop hx)⟩
 simp at hi hj
 rw[List.getElem_drop,List.getElem_drop]
 exact h.up _ _ (by omega) (by omega) (by omega)
structure Lst(w wx:World)(bs:List Bn)(v:Value):Prop where
 reads:Reads wx v bs.length (cellsB bs)
 bl:Below w.heap.size w wx
theorem Lst.to{w wx w':World}{bs:List Bn}{v:Value}(h:Lst w wx bs v)(hb:Below wx.heap.size wx w'):Below w.heap.size w w':=h.bl.trans (hb.mono h.bl.size)
def Sits(s:ByteArray)(p:Nat)(c:List Nat):Prop:=∀ i b,c[i]?=some b→p+i<s.size∧bt s (p+i)=b
theorem Sits.left{s:ByteArray}{p:Nat}{c d:List Nat}(h:Sits s p (c++d)):Sits s p c:=fun i b hi=>h i b (by
 have hlt:=(List.getElem?_eq_some_iff.1 hi).1
 rw[List.getElem?_append_left hlt];exact hi)
theorem Sits.right{s:ByteArray}{p:Nat}{c d:List Nat}(h:Sits s p (c++d)):Sits s (p+c.length) d:=fun i b hi=>by
 have:=h (c.length+i) b (by rw[List.getElem?_append_right (by omega),show c.length+i-c.length=i by omega];exact hi)
 rw[← Nat.add_assoc]at this
 exact this
def DoesSo(s:ByteArray)(x:Itm)(y:Bn)(p q:Nat)(v:Int)(flt steps:Nat):Prop :=
 (flt=0∧∀ f st n,runM s x y (f+steps) p st n=runM s x y f q (v :: st) (n+steps)) ∨
 (flt≠0∧∀ f st n,steps≤f→runM s x y f p st n=(2,(flt:Int),n+steps))
structure Seg(s:ByteArray)(p q:Nat)(h e hi:Int)(l:List Ins)(H:Nat→Int):Prop where
 chain:Chain s p l q
 start:H p=h
 fin:H q=e
 ops:∀ o∈l,(takesN o.op:Int)≤H o.pos∧H o.pos≤hi∧∀ r,Flows o r→(r=q∨∃ o'∈l,o'.pos=r)∧H r=H o.pos-takesN o.op+laysN o.op
 reach:∀ o∈l,o.pos=p∨∃ o'∈l,Flows o' o.pos
 out:∃ o∈l,Flows o q
 ends:e≤hi
 top:(∃ o∈l,H o.pos=hi)∨e=hi
theorem Seg.lt{s:ByteArray}{p q:Nat}{h e hi:Int}{l:List Ins}{H:Nat→Int}(g:Seg s p q h e hi l H):p<q:=by
 obtain ⟨o,ho,hf⟩:=g.out
 have hm:=g.chain.mem o ho
 rw[hm.2.2.2]at hf
 have:=hf.lt
 omega
structure PB where
 code:List Nat
 v:Int
 flt:Nat
 steps:Nat
 high:Nat
structure PB.Ok(x:Itm)(y:Bn)(b:PB):Prop where
 does:∀ s p,Sits s p b.code→DoesSo s x y p (p+b.code.length) b.v b.flt b.steps
 seg:∀ s p (h:Int),Sits s p b.code→0≤h→∃ l H,Seg s p (p+b.code.length) h (h+1) (h+b.high) l H
 num:In64 b.v
 le2:b.flt≤2
 pos:1≤b.high
end Go.Proofs.YtgfnkeiigjholaaGreatDoor
