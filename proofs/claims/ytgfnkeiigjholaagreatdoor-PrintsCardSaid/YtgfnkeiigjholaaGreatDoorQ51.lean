/-
  A script in memory; each of its steps held against the document: each answers true, where every step of that kind does.
-/
import Derived.Test.YtgfnkeiigjholaaGreatDoorProg
import Derived.Test.YtgfnkeiigjholaaGreatDoorQ01
import Derived.Test.YtgfnkeiigjholaaGreatDoorQ13
import Derived.Test.YtgfnkeiigjholaaGreatDoorQ50
set_option linter.unusedVariables false
set_option linter.unusedSimpArgs false
namespace Go.Proofs.YtgfnkeiigjholaaGreatDoor
open Go.RowKit
structure Opr where
 kind:Int
 at':Int
 a:Int
 b:Int
 s:ByteArray
 x:Itm
 y:Bn
def oprV(o:Opr):Value:=.agg #[.int .i64 o.kind,.int .i64 o.at',.int .i64 o.a,.int .i64 o.b,.string o.s,.int .i64 o.x.size,.int .i64 o.x.speed,.int .i64 o.x.need,.int .i64 o.y.id,.int .i64 o.y.zone,.int .i64 o.y.cap,.int .i64 o.y.used,.int .i64 o.y.has]
def oprCells(o:Opr):List Value:=[.int .i64 o.kind,.int .i64 o.at',.int .i64 o.a,.int .i64 o.b,.string o.s,.int .i64 o.x.size,.int .i64 o.x.speed,.int .i64 o.x.need,.int .i64 o.y.id,.int .i64 o.y.zone,.int .i64 o.y.cap,.int .i64 o.y.used,.int .i64 o.y.has]
def Opr.Fit(o:Opr):Prop:=o.s.size≤maxLen
def Script(w:World)(v:Value)(n:Nat)(os:Nat→Opr):Prop :=
 ((∃ a c,v=.slice a 0 c)∧n=0)∨∃ b off cap,v=.slice (some ⟨b,off,none⟩) n cap∧b<w.heap.size∧∀ i,i<n→(os i).Fit∧∀ j u,(oprCells (os i))[j]?=some u→w.cell? ⟨b,off+i*13+j,none⟩=some u
set_option maxHeartbeats 1000000 in
set_option maxRecDepth 10000 in
theorem each_any(G:World→Prop)(hG:∀ w w',G w→Below w.heap.size w w'→G w')(K:Int)(n:Nat)(hn:n≤maxLen)(v:Value)(os:Nat→Opr)(w:World)(hs:Script w v n os)(hg:G w)
  (hal:∀ o:Opr,o.Fit→o.kind=K→∀ w,G w→Calls Tryz.prog 5 #[oprV o] w fun e w'=>Below w.heap.size w w'∧e=.returned (.bool true)) :
  Calls Tryz.prog 4 #[v,.int .i64 K] w fun e w'=>Below w.heap.size w w'∧e=.returned (.bool true):=by
 have hn':(n:Int)≤9223372036854775807:=by have h:=hn;simp[maxLen]at h;omega
 rcases hs with ⟨⟨a0,c0,rfl⟩,rfl⟩ | ⟨b,off,cap,rfl,hlt,hc⟩
 ·go_enter Tryz.func4,Tryz.ntmps4
  go_wp2
  refine wp_loop_rounds 1 ?_;rw[rounds_succ]
  go_wp2
  go_ret
  exact ⟨Below.refl _ _,rfl⟩
 have HC:Hid (∀ i,i<n→(os i).Fit∧∀ j u,(oprCells (os i))[j]?=some u→w.cell? ⟨b,off+i*13+j,none⟩=some u):=hc
 have HG:Hid (G w):=hg
 have HA:Hid (∀ o:Opr,o.Fit→o.kind=K→∀ w,G w→Calls Tryz.prog 5 #[oprV o] w fun e w'=>Below w.heap.size w w'∧e=.returned (.bool true)):=hal
 clear hc hg hal hn
 go_enter Tryz.func4,Tryz.ntmps4
 go_wp2
 go_loopw [5] (fun vi wx=>∃ i:Nat,i≤n∧vi=.int .i64 i∧Below w.heap.size w wx) (fun i _=>n-(intOf i).toNat)
 case atStart=>exact ⟨0,Nat.zero_le _,rfl,Below.refl _ _⟩
 case round =>
  obtain ⟨i,hil,rfl,hbl⟩:=hrel
  by_cases hi:i<n
  case neg =>
   go_wp2
   go_ret
   exact ⟨hbl,rfl⟩
  obtain ⟨hfit,hcell⟩:=HC.out i hi
  have hx:∀ j u,(oprCells (os i))[j]?=some u→wr.cell? ⟨b,off+i*13+j,none⟩=some u:=fun j u h=>(hbl.cell (p:=⟨b,off+i*13+j,none⟩) hlt).trans (hcell j u h)
  obtain ⟨o,ho⟩:∃ o,o=os i:=⟨_,rfl⟩
  rw[← ho]at hx hfit
  have HF:Hid o.Fit:=hfit
  have c0:wr.cell? ⟨b,off+i*13,none⟩=some (.int .i64 o.kind):=hx 0 _ rfl
  have c1:wr.cell? ⟨b,off+i*13+1,none⟩=some (.int .i64 o.at'):=hx 1 _ rfl
  have c2:wr.cell? ⟨b,off+i*13+2,none⟩=some (.int .i64 o.a):=hx 2 _ rfl
  have c3:wr.cell? ⟨b,off+i*13+3,none⟩=some (.int .i64 o.b):=hx 3 _ rfl
  have c4:wr.cell? ⟨b,off+i*13+4,none⟩=some (.string o.s):=hx 4 _ rfl
  have c5:wr.cell? ⟨b,off+i*13+5,none⟩=some (.int .i64 o.x.size):=hx 5 _ rfl
  have c6:wr.cell? ⟨b,off+i*13+6,none⟩=some (.int .i64 o.x.speed):=hx 6 _ rfl
  have c7:wr.cell? ⟨b,off+i*13+7,none⟩=some (.int .i64 o.x.need):=hx 7 _ rfl
  have c8:wr.cell? ⟨b,off+i*13+8,none⟩=some (.int .i64 o.y.id):=hx 8 _ rfl
  have c9:wr.cell? ⟨b,off+i*13+9,none⟩=some (.int .i64 o.y.zone):=hx 9 _ rfl
  have c10:wr.cell? ⟨b,off+i*13+10,none⟩=some (.int .i64 o.y.cap):=hx 10 _ rfl
  have c11:wr.cell? ⟨b,off+i*13+11,none⟩=some (.int .i64 o.y.used):=hx 11 _ rfl
  have c12:wr.cell? ⟨b,off+i*13+12,none⟩=some (.int .i64 o.y.has):=hx 12 _ rfl
  clear hx hcell ho hfit
  by_cases hk:o.kind=K
  ·have HK:Hid (o.kind=K):=hk
   have hkb:(o.kind==K)=true:=by simpa using hk
   clear hk
   go_wp2_with (go_at_call 5;refine (HA.out o HF.out HK.out _ (hG _ _ HG.out hbl)).mono ?_;rintro e w1 ⟨hb1,rfl⟩)
   go_roundw
   case rel=>exact ⟨i+1,by omega,by go_num,hbl.trans (hb1.mono hbl.size)⟩
   case measure=>simp[intOf];omega
  ·have hkb:(o.kind==K)=false:=by simpa using hk
   clear hk
   go_wp2
   go_roundw
   case rel=>exact ⟨i+1,by omega,by go_num,hbl⟩
   case measure=>simp[intOf];omega
open Go.ChangeShapes Go.WideShapes Go.ChangeAt
theorem cellsStr:Tryz.prog.cellsOf 9=1:=by kernel_rfl
theorem cellsOpr:Tryz.prog.cellsOf 30=13:=by kernel_rfl
section
variable {H:Type} {enc:TypeId×Value→H} {W:World} {b:Nat} {sp:Nat→Bool} {hd:Bool}
theorem int_at{n k o:Nat}{cs:List Value}{y:DataW H×List MemPlace}(h:DataW.trod enc Tryz.prog W b sp hd n 3 ((cs.drop o).take k)=some y)(hk:k=1):∃ z,cs[o]?=some (Value.int .i64 z):=by
 subst hk
 obtain ⟨z,e1,_,_⟩:=DataW.trod_int Tryz.underlying3 h
 refine ⟨z, ?_⟩
 have h3:((cs.drop o).take 1)[0]?=some (Value.int .i64 z):=by rw[e1];rfl
 rw[List.getElem?_take,if_pos (by omega),List.getElem?_drop]at h3
 simpa using h3
theorem str_at{n k o:Nat}{cs:List Value}{y:DataW H×List MemPlace}(h:DataW.trod enc Tryz.prog W b sp hd n 9 ((cs.drop o).take k)=some y)(hk:k=1):∃ s:ByteArray,cs[o]?=some (Value.string s)∧s.size≤maxLen:=by
 subst hk
 obtain ⟨s,e1,e2,hs⟩:=DataW.trod_string Tryz.underlying9 h
 refine ⟨s, ?_,hs⟩
 have h3:((cs.drop o).take 1)[0]?=some (Value.string s):=by rw[e1];rfl
 rw[List.getElem?_take,if_pos (by omega),List.getElem?_drop]at h3
 simpa using h3
theorem sub_get{cs:List Value}{o k j:Nat}{v:Value}(h:((cs.drop o).take k)[j]?=some v):cs[o+j]?=some v:=by
 rw[List.getElem?_take]at h
 split at h
 ·rw[List.getElem?_drop]at h;exact h
 ·cases h
theorem item_at{n k o:Nat}{cs:List Value}{y:DataW H×List MemPlace}(h:DataW.trod enc Tryz.prog W b sp hd n 26 ((cs.drop o).take k)=some y) :
  ∃ x:Itm,cs[o]?=some (Value.int .i64 x.size)∧cs[o+1]?=some (Value.int .i64 x.speed)∧cs[o+2]?=some (Value.int .i64 x.need):=by
 obtain ⟨xs,m,rfl,_,hl,hxl,hel⟩:=DataW.trod_struct Tryz.underlying26 h
 have hx:∀ i,i<xs.length→∃ z,xs[i]?=some z:=fun i hi=>⟨_,List.getElem?_eq_getElem hi⟩
 simp only[List.size_toArray,List.length_cons,List.length_nil]at hxl
 have f0:=hel 0 _ rfl
 have f1:=hel 1 _ rfl
 have f2:=hel 2 _ rfl
 obtain ⟨y0,g0⟩:=hx 0 (by omega)
 rw[g0]at f0
 obtain ⟨y1,g1⟩:=hx 1 (by omega)
 rw[g1]at f1
 obtain ⟨y2,g2⟩:=hx 2 (by omega)
 rw[g2]at f2
 obtain ⟨z0,e0⟩:=int_at f0 cellsInt
 obtain ⟨z1,e1⟩:=int_at f1 cellsInt
 obtain ⟨z2,e2⟩:=int_at f2 cellsInt
 exact ⟨⟨z0,z1,z2⟩,sub_get e0,sub_get e1,sub_get e2⟩
theorem bin_at{n k o:Nat}{cs:List Value}{y:DataW H×List MemPlace}(h:DataW.trod enc Tryz.prog W b sp hd n 28 ((cs.drop o).take k)=some y) :
  ∃ x:Bn,cs[o]?=some (Value.int .i64 x.id)∧cs[o+1]?=some (Value.int .i64 x.zone)∧cs[o+2]?=some (Value.int .i64 x.cap)∧cs[o+3]?=some (Value.int .i64 x.used)∧cs[o+4]?=some (Value.int .i64 x.has):=by
 obtain ⟨xs,m,rfl,_,hl,hxl,hel⟩:=DataW.trod_struct Tryz.underlying28 h
 have hx:∀ i,i<xs.length→∃ z,xs[i]?=some z:=fun i hi=>⟨_,List.getElem?_eq_getElem hi⟩
 simp only[List.size_toArray,List.length_cons,List.length_nil]at hxl
 have f0:=hel 0 _ rfl
 have f1:=hel 1 _ rfl
 have f2:=hel 2 _ rfl
 have f3:=hel 3 _ rfl
 have f4:=hel 4 _ rfl
 obtain ⟨y0,g0⟩:=hx 0 (by omega)
 rw[g0]at f0
 obtain ⟨y1,g1⟩:=hx 1 (by omega)
 rw[g1]at f1
 obtain ⟨y2,g2⟩:=hx 2 (by omega)
 rw[g2]at f2
 obtain ⟨y3,g3⟩:=hx 3 (by omega)
 rw[g3]at f3
 obtain ⟨y4,g4⟩:=hx 4 (by omega)
 rw[g4]at f4
 obtain ⟨z0,e0⟩:=int_at f0 cellsInt
 obtain ⟨z1,e1⟩:=int_at f1 cellsInt
 obtain ⟨z2,e2⟩:=int_at f2 cellsInt
 obtain ⟨z3,e3⟩:=int_at f3 cellsInt
 obtain ⟨z4,e4⟩:=int_at f4 cellsInt
 exact ⟨⟨z0,z1,z2,z3,z4⟩,sub_get e0,sub_get e1,sub_get e2,sub_get e3,sub_get e4⟩
set_option maxRecDepth 100000 in
theorem opr_of{n:Nat}{cs:List Value}{y:DataW H×List MemPlace}(h:DataW.trod enc Tryz.prog W b sp hd n 30 cs=some y):∃ o:Opr,o.Fit∧∀ (j:Nat) (u:Value),(oprCells o)[j]?=some u→cs[j]?=some u:=by
 obtain ⟨xs,m,rfl,_,hl,hxl,hel⟩:=DataW.trod_struct Tryz.underlying30 h
 have hx:∀ i,i<xs.length→∃ z,xs[i]?=some z:=fun i hi=>⟨_,List.getElem?_eq_getElem hi⟩
 simp only[List.size_toArray,List.length_cons,List.length_nil]at hxl
 have f0:=hel 0 _ rfl
 have f1:=hel 1 _ rfl
 have f2:=hel 2 _ rfl
 have f3:=hel 3 _ rfl
 have f4:=hel 4 _ rfl
 have f5:=hel 5 _ rfl
 have f6:=hel 6 _ rfl
 obtain ⟨y0,g0⟩:=hx 0 (by omega)
 rw[g0]at f0
 obtain ⟨y1,g1⟩:=hx 1 (by omega)
 rw[g1]at f1
 obtain ⟨y2,g2⟩:=hx 2 (by omega)
 rw[g2]at f2
 obtain ⟨y3,g3⟩:=hx 3 (by omega)
 rw[g3]at f3
 obtain ⟨y4,g4⟩:=hx 4 (by omega)
 rw[g4]at f4
 obtain ⟨y5,g5⟩:=hx 5 (by omega)
 rw[g5]at f5
 obtain ⟨y6,g6⟩:=hx 6 (by omega)
 rw[g6]at f6
 obtain ⟨z0,e0⟩:=int_at f0 cellsInt
 obtain ⟨z1,e1⟩:=int_at f1 cellsInt
 obtain ⟨z2,e2⟩:=int_at f2 cellsInt
 obtain ⟨z3,e3⟩:=int_at f3 cellsInt
 obtain ⟨s,e4,hs⟩:=str_at f4 cellsStr
 obtain ⟨x,e5,e6,e7⟩:=item_at f5
 obtain ⟨q,e8,e9,e10,e11,e12⟩:=bin_at f6
 refine ⟨⟨z0,z1,z2,z3,s,x,q⟩,hs,fun j u hj=>?_⟩
 match j,hj with
 | 0,hj=>cases hj;exact e0
 | 1,hj=>cases hj;exact e1
 | 2,hj=>cases hj;exact e2
 | 3,hj=>cases hj;exact e3
 | 4,hj=>cases hj;exact e4
 | 5,hj=>cases hj;exact e5
 | 6,hj=>cases hj;exact e6
 | 7,hj=>cases hj;exact e7
 | 8,hj=>cases hj;exact e8
 | 9,hj=>cases hj;exact e9
 | 10,hj=>cases hj;exact e10
 | 11,hj=>cases hj;exact e11
 | 12,hj=>cases hj;exact e12
set_option maxRecDepth 100000 in
theorem script_of{r:Reach}{b0:Nat}{v:Value}{d:DataW H}{ps:List MemPlace}(hval:Value.okWide Tryz.prog W r b0 22 v)(h:DataW.Trod enc Tryz.prog W 0 sp hd 22 v d ps):∃ n os,n≤maxLen∧Script W v n os:=by
 obtain ⟨a0,len,cap,rfl⟩:=okWide_slice Tryz.underlying22 hval
 obtain ⟨fuel,hf⟩:=h
 rcases DataW.trod_slice Tryz.underlying22 hf with ⟨hcs,_⟩ | ⟨a,len',cap',elems,rest,n,rfl,hcs,hx,hb,hl,hm,hlen,hel,_,_⟩
 ·simp[Value.cells]at hcs
  obtain ⟨rfl,rfl,rfl⟩:=hcs
  exact ⟨0,fun _=>⟨0,0,0,0,⟨#[]⟩,⟨0,0,0⟩,⟨0,0,0,0,0⟩⟩,Nat.zero_le _,.inl ⟨⟨_,_,rfl⟩,rfl⟩⟩
 simp[Value.cells]at hcs
 obtain ⟨rfl,rfl,rfl⟩:=hcs
 have hex:∀ i,∃ o:Opr,i<len→o.Fit∧∀ (j:Nat) (u:Value),(oprCells o)[j]?=some u→W.cell? ((a.add (i*13)).add j)=some u:=by
  intro i
  by_cases hi:i<len
  ·have h1:=hel i hi
   rw[cellsOpr,List.getElem?_eq_getElem (by omega:i<elems.length)]at h1
   obtain ⟨cs',h2,h3⟩:=Option.bind_eq_some_iff.1 h1
   obtain ⟨_,hcl,hcc⟩:=World.cells?_some h2
   obtain ⟨o,ho,hoc⟩:=opr_of h3
   refine ⟨o,fun _=>⟨ho,fun j u hj=>?_⟩⟩
   have hj13:j<13:=by have:=(List.getElem?_eq_some_iff.1 hj).1;simpa[oprCells] using this
   rw[hcc j hj13]
   exact hoc j u hj
  ·exact ⟨⟨0,0,0,0,⟨#[]⟩,⟨0,0,0⟩,⟨0,0,0,0,0⟩⟩,fun h=>absurd h hi⟩
 by_cases h0:len=0
 ·subst h0
  exact ⟨0,fun _=>⟨0,0,0,0,⟨#[]⟩,⟨0,0,0⟩,⟨0,0,0,0,0⟩⟩,Nat.zero_le _,.inl ⟨⟨_,_,rfl⟩,rfl⟩⟩
 have hos:=fun i=>Classical.choose_spec (hex i)
 refine ⟨len,fun i=>Classical.choose (hex i),by omega, ?_⟩
 obtain ⟨bk,off,spot⟩:=a
 have hc0:=(hos 0 (by omega)).2 0 _ rfl
 have hspot:spot=none:=by simpa[Addr.add] using World.cell?_spot hc0
 subst hspot
 have hbk:bk<W.heap.size:=by
  by_cases h:bk<W.heap.size
  ·exact h
  ·simp[World.cell?,Addr.add,Array.getElem?_eq_none (by omega:W.heap.size≤bk)]at hc0
 refine .inr ⟨bk,off,cap,rfl,hbk,fun i hi=>⟨(hos i hi).1,fun j u hj=>?_⟩⟩
 have:=(hos i hi).2 j u hj
 rw[add_plain,add_plain]at this
 exact this
end
end Go.Proofs.YtgfnkeiigjholaaGreatDoor
