/-
  The document's Print while it gathers its tokens: the list in memory, and an EXPR beside it.
-/
import Derived.Test.YtgfnkeiigjholaaGreatDoorQ46
import Derived.Test.YtgfnkeiigjholaaGreatDoorQ39
import Derived.Deep.AppendLies
set_option linter.unusedVariables false
set_option linter.unusedSimpArgs false
namespace Go.Proofs.YtgfnkeiigjholaaGreatDoor
open Go.RowKit Go.Deep
theorem reads_blk{w:World}{v:Value}{n:Nat}{xs:List Value}(h:Reads w v n xs):∀ g,v.ownBlock=some g→g<w.heap.size:=by
 intro g hg
 rcases h with ⟨rfl,_⟩ | ⟨b,o,cap,rfl,_,hlt,_⟩
 ·cases hg
 ·simp only[Value.ownBlock,Option.some.injEq]at hg
  subst hg
  exact hlt
structure PSt(W wr:World)(v:Value)(acc:List RTok):Prop where
 own:wr.ownsRow W.heap.size 77 2 v acc.length (cellsR acc)
 below:Below W.heap.size W wr
theorem PSt.size{W wr:World}{v:Value}{acc:List RTok}(h:PSt W wr v acc):W.heap.size≤wr.heap.size:=h.below.size
theorem PSt.call{W wr w':World}{v:Value}{acc:List RTok}(h:PSt W wr v acc)(hb:Below wr.heap.size wr w'):PSt W w' v acc:=⟨own_below h.own hb,h.below.trans (hb.mono h.below.size)⟩
theorem PSt.al{W wr:World}{v:Value}{acc:List RTok}(h:PSt W wr v acc)(o:Obj):PSt W (wr.alloc o) v acc:=⟨h.own.alloc _,h.below.alloc h.below.size o⟩
theorem PSt.dr{W wr:World}{v:Value}{acc:List RTok}(h:PSt W wr v acc):PSt W wr.drew v acc:=⟨h.own.drew,ag_dr h.below⟩
theorem PSt.app{W wx w2:World}{v v':Value}{acc:List RTok}{m:Nat}{xs:List Value}(h:PSt W wx v acc)(X:List RTok)(hown:w2.ownsRow W.heap.size 77 2 v' (acc.length+m) (cellsR acc++xs))(hm:X.length=m)(hxs:cellsR X=xs)(hg:wx.grownBy w2 v.ownBlock):PSt W w2 v' (acc++X):=by
 subst hm hxs
 refine ⟨?_,h.below.grown hg h.below.size (fun k hk=>(h.own.lt k hk).1)⟩
 rw[List.length_append,cellsR_append]
 exact hown
structure PSx(W wx:World)(v:Value)(acc:List RTok)(xv:Value)(x:List RTok):Prop where
 st:PSt W wx v acc
 rd:Reads wx xv x.length (cellsR x)
 ne:∀ g,xv.ownBlock=some g→v.ownBlock≠some g
theorem PSx.call{W wr w':World}{v:Value}{acc:List RTok}{xv:Value}{x:List RTok}(h:PSx W wr v acc xv x)(hb:Below wr.heap.size wr w'):PSx W w' v acc xv x:=⟨h.st.call hb,h.rd.below hb,h.ne⟩
theorem PSx.al{W wr:World}{v:Value}{acc:List RTok}{xv:Value}{x:List RTok}(h:PSx W wr v acc xv x)(o:Obj):PSx W (wr.alloc o) v acc xv x:=⟨h.st.al o,h.rd.alloc o,h.ne⟩
theorem PSx.dr{W wr:World}{v:Value}{acc:List RTok}{xv:Value}{x:List RTok}(h:PSx W wr v acc xv x):PSx W wr.drew v acc xv x:=⟨h.st.dr,h.rd.drew,h.ne⟩
theorem PSx.app{W wx w2:World}{v:Value}{acc:List RTok}{xv:Value}{x:List RTok}{m gg n cap H:Nat}{xs:List Value}(h:PSx W wx v acc xv x)(X:List RTok)(hown:w2.ownsRow W.heap.size 77 2 (.slice (some ⟨gg,0,none⟩) n cap) (acc.length+m) (cellsR acc++xs))(hm:X.length=m)(hxs:cellsR X=xs)(hg:wx.grownBy w2 v.ownBlock)(hat:v.ownBlock=some gg∨gg=H)(hH:wx.heap.size≤H):PSx W w2 (.slice (some ⟨gg,0,none⟩) n cap) (acc++X) xv x:=by
 refine ⟨h.st.app X hown hm hxs hg, ?_, ?_⟩
 ·rcases h.rd with h0 | ⟨b,o,cp,hv,hn,hlt,hc⟩
  ·exact .inl h0
  ·exact .inr ⟨b,o,cp,hv,hn,Nat.lt_of_lt_of_le hlt hg.size,fun j u hj=>(hg.cell_far ⟨b,o+j,none⟩ hlt (Ne.symm (h.ne b (by rw[hv];rfl)))).trans (hc j u hj)⟩
 ·intro g hxg hgg
  simp only[Value.ownBlock,Option.some.injEq]at hgg
  subst hgg
  rcases hat with hat | hat
  ·exact h.ne gg hxg hat
  ·have:=reads_blk h.rd gg hxg
   omega
theorem PSx.bare{W wr w1:World}{v ev xv:Value}{acc x:List RTok}(h:PSt W wr v acc)(hb:Below wr.heap.size wr w1)(hr:Reads w1 xv x.length (cellsR x))(hn:NewOr wr ev xv)(hev:∀ g,ev.ownBlock=some g→g<W.heap.size):PSx W w1 v acc xv x:=by
 refine ⟨h.call hb,hr,fun g hg hv=>?_⟩
 have h1:=h.own.lt g hv
 rcases hn with rfl | hn
 ·have:=hev g hg
  omega
 ·have:=hn g hg
  omega
theorem add_news{w:World}{g o:Nat}{xs:List Value}(h:∀ j u,xs[j]?=some u→w.cell? ⟨g,o+j,none⟩=some u):∀ j u,xs[j]?=some u→w.cell? ((⟨g,o,none⟩:Addr).add j)=some u:=fun j u hj=>by
 have hadd:(⟨g,o,none⟩:Addr).add j=⟨g,o+j,none⟩:=by unfold Addr.add;split <;> simp_all
 rw[hadd]
 exact h j u hj
def BareC(e:Tr)(ev:Value):Prop:=∀ wx,Reads wx ev e.toks.length (cellsR e.toks)→Calls Tryz.prog 29 #[ev] wx fun e' w'=>Below wx.heap.size wx w'∧∃ v' x,e'=.returned v'∧BareOf e x∧Reads w' v' x.toks.length (cellsR x.toks)∧NewOr wx ev v'
theorem bareC{e:Tr}(hw:e.wf)(hl:e.toks.length≤400)(ht:∀ a∈e.toks,TOk a)(ev:Value):BareC e ev:=fun wx hr=>bare_any e hw hl (fun a ha=>(ht a ha).tx.2) (fun a ha=>(ht a ha).cl) ev wx hr
end Go.Proofs.YtgfnkeiigjholaaGreatDoor
