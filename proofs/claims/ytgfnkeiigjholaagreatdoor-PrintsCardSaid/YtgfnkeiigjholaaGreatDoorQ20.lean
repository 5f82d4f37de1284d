/-
  The parts of a policy: the document's count and the program's agree on what is too many: plain.
-/
import Derived.Test.YtgfnkeiigjholaaGreatDoorQ19
import Derived.Test.YtgfnkeiigjholaaGreatDoorQ18
import Derived.Deep.RegionHeld3
import Derived.Deep.RegionLaw
import Derived.Deep.DeepCutAuto
set_option linter.unusedVariables false
set_option linter.unusedSimpArgs false
namespace Go.Proofs.YtgfnkeiigjholaaGreatDoor
open Go.Deep
def Sim(a b:Nat):Prop:=(a≤150∧a=b)∨(150<a∧150<b)
theorem Sim.trans{a b c:Nat}(h:Sim a b)(g:Sim b c):Sim a c:=by unfold Sim at *;omega
open Go.RowKit
theorem hideP{p:Prop}(h:p):Hid p:=h
def cellN(n:PNode):List Value:=[.int .i64 (kindP n.tok.text),.int .i64 n.tok.at',.string (bsOf n.tok.text),.int .i64 n.ops,.int .i64 n.left,.int .i64 n.right]
def cellL(p:PLet):List Value:=[.int .i64 (kindP p.name.text),.int .i64 p.name.at',.string (bsOf p.name.text),.int .i64 p.val.place,.int .i64 p.val.fr,.int .i64 p.val.behind]
def cellU(p:PRule):List Value:=[.bool p.hw,.int .i64 p.when.place,.int .i64 p.when.fr,.int .i64 p.when.behind,.bool p.hs,.int .i64 p.score.place,.int .i64 p.score.fr,.int .i64 p.score.behind]
def cellT(t:RTok):List Value:=[.int .i64 (kindP t.text),.int .i64 t.at',.string (bsOf t.text)]
def cellsN(l:List PNode):List Value:=l.flatMap cellN
def cellsLt(l:List PLet):List Value:=l.flatMap cellL
def cellsU(l:List PRule):List Value:=l.flatMap cellU
def cellsT(l:List RTok):List Value:=l.flatMap cellT
theorem cellsT_toP(l:List RTok):cellsP (l.map toP)=cellsT l:=by
 induction l with
 | nil=>rfl
 | cons t r ih=>rw[List.map_cons,cellsP,List.flatMap_cons,← cellsP,ih];rfl
theorem cellsT_get:∀ (l:List RTok) (k:Nat) (h:k<l.length),(cellsT l)[k*3]?=some (.int .i64 (kindP l[k].text))∧(cellsT l)[k*3+1]?=some (.int .i64 l[k].at')∧(cellsT l)[k*3+2]?=some (.string (bsOf l[k].text))
 | [],k,h=>by simp at h
 | t :: r,0,h=>⟨rfl,rfl,rfl⟩
 | t :: r,k+1,h=>by
  have ih:=cellsT_get r k (by simpa using h)
  have e:∀ j,(cellsT (t :: r))[(k+1)*3+j]?=(cellsT r)[k*3+j]?:=by
   intro j
   rw[show (k+1)*3+j=3+(k*3+j) by omega]
   show (cellT t++cellsT r)[3+(k*3+j)]?=_
   rw[List.getElem?_append_right (by simp[cellT])]
   simp[cellT]
  exact ⟨by rw[show (k+1)*3=(k+1)*3+0 by omega,e];exact ih.1,by rw[e];exact ih.2.1,by rw[e];exact ih.2.2⟩
structure RS where
 tv:Value
 T:List RTok
 k:Nat
 d:Nat
 f:Bool
 nv:Value
 lv:Value
 rv:Value
 ns:List PNode
 ls:List PLet
 rs:List PRule
structure RdAt(w:World)(B:Nat)(S:RS):Prop where
 blk:Blk w B #[S.tv,.int .i64 S.k,.int .i64 S.d,.bool S.f,S.nv,S.lv,S.rv] 105
 otk:w.ownsRow 0 107 3 S.tv S.T.length (cellsT S.T)
 ond:w.ownsRow (B+1) 175 6 S.nv S.ns.length (cellsN S.ns)
 olt:w.ownsRow (B+1) 113 6 S.lv S.ls.length (cellsLt S.ls)
 orl:w.ownsRow (B+1) 116 8 S.rv S.rs.length (cellsU S.rs)
 kt:S.k<S.T.length
 tl:S.T.length≤401
 nk:S.ns.length≤S.k
 dl:S.d≤8
theorem RdAt.below{w w':World}{B:Nat}{S:RS}(h:RdAt w B S)(hb:Below w.heap.size w w'):RdAt w' B S :=
 ⟨h.blk.below hb h.blk.lt,own_below h.otk hb,own_below h.ond hb,own_below h.olt hb,own_below h.orl hb,h.kt,h.tl,h.nk,h.dl⟩
theorem RdAt.drew{w:World}{B:Nat}{S:RS}(h:RdAt w B S):RdAt w.drew B S:=h.below (below_drewN (Below.refl _ w) 1)
theorem RdAt.alloc{w:World}{B:Nat}{S:RS}(h:RdAt w B S)(o:Obj):RdAt (w.alloc o) B S:=h.below ((Below.refl _ _).alloc (Nat.le_refl _) o)
theorem own_set{w:World}{base B i s n:Nat}{e t:TypeId}{v u:Value}{xs:List Value}{cs:Array Value}(h:w.ownsRow base e s v n xs)(hb:Blk w B cs t)(hne:t≠e):(w.setCell ⟨B,i,none⟩ u).ownsRow base e s v n xs:=by
 refine ⟨h.1, ?_⟩
 rcases h.2 with hn | ⟨g,cap,cur,rfl,hbg,hg,r⟩
 ·exact .inl hn
 ·refine .inr ⟨g,cap,cur,rfl,hbg, ?_,r⟩
  have hgb:g≠B:=by
   rintro rfl
   unfold Blk at hb
   rw[hb]at hg
   simp only[Option.some.injEq,Obj.cells.injEq]at hg
   exact hne hg.2.1
  rw[Below.heap_setCell _ _ _ _ hgb]
  exact hg
structure KeepN(B:Nat)(w w':World):Prop where
 os:w'.os=w.os
 tape:w'.tape=w.tape
 output:w'.output=w.output
 size:w.heap.size≤w'.heap.size
 block:∀ b o,w.heap[b]?=some o→b≠B→(b<B∨∀ cs fz,o≠.cells cs 175 fz)→w'.heap[b]?=some o
theorem KeepN.refl(B:Nat)(w:World):KeepN B w w:=⟨rfl,rfl,rfl,Nat.le_refl _,fun _ _ h _ _=>h⟩
theorem KeepN.trans{B:Nat}{w w1 w2:World}(h:KeepN B w w1)(g:KeepN B w1 w2):KeepN B w w2 :=
 ⟨g.os.trans h.os,g.tape.trans h.tape,g.output.trans h.output,Nat.le_trans h.size g.size,fun b o h1 h2 h3=>g.block b o (h.block b o h1 h2 h3) h2 h3⟩
theorem KeepN.of{B:Nat}{w w':World}(h:Below w.heap.size w w'):KeepN B w w':=⟨h.os,h.tape,h.output,h.size,fun b o h1 _ _=>by rw[h.block b (Array.getElem?_eq_some_iff.1 h1).1];exact h1⟩
theorem KeepN.below{B:Nat}{w w':World}(h:KeepN B w w')(hB:B≤w.heap.size):Below B w w' :=
 ⟨h.os,h.tape,h.output,h.size,fun k hk=>by
  have hlt:k<w.heap.size:=by omega
  have e:=Array.getElem?_eq_getElem hlt
  rw[e]
  exact h.block k _ e (by omega) (.inl hk)⟩
theorem KeepN.set{w:World}(B i:Nat)(v:Value):KeepN B w (w.setCell ⟨B,i,none⟩ v):=by
 have g:=(Below.refl B w).setCell (p:=⟨B,i,none⟩) (Nat.le_refl _) v
 exact ⟨g.os,g.tape,g.output,g.size,fun b o h1 h2 _=>by rw[Below.heap_setCell _ _ _ _ h2];exact h1⟩
theorem Blk.keepN{w w':World}{B b:Nat}{cs:Array Value}{t:TypeId}(h:Blk w b cs t)(hk:KeepN B w w')(hne:b≠B)(ht:t≠175):Blk w' b cs t :=
 hk.block b _ h hne (.inr fun cs' fz e=>by simp only[Obj.cells.injEq]at e;exact ht e.2.1)
theorem own_keepN{w w':World}{B base s n:Nat}{e t:TypeId}{v:Value}{xs:List Value}{cs:Array Value}(h:w.ownsRow base e s v n xs)(hb:Blk w B cs t)(hne:t≠e)(he:e≠175)(hk:KeepN B w w'):w'.ownsRow base e s v n xs:=by
 refine ⟨h.1, ?_⟩
 rcases h.2 with hn | ⟨g,cap,cur,rfl,hbg,hg,r⟩
 ·exact .inl hn
 ·refine .inr ⟨g,cap,cur,rfl,hbg, ?_,r⟩
  refine hk.block g _ hg ?_ (.inr fun cs' fz e'=>by simp only[Obj.cells.injEq]at e';exact he e'.2.1)
  rintro rfl
  unfold Blk at hb
  rw[hb]at hg
  simp only[Option.some.injEq,Obj.cells.injEq]at hg
  exact hne hg.2.1
theorem KeepN.grown{w w':World}{B s n:Nat}{v:Value}{xs:List Value}(h:w.ownsRow (B+1) 175 s v n xs)(hg:w.grownBy w' v.ownBlock):KeepN B w w':=by
 refine ⟨hg.os,hg.tape,hg.output,hg.size,fun b o h1 h2 h3=>?_⟩
 have hlt:=(Array.getElem?_eq_some_iff.1 h1).1
 rw[hg.block b hlt ?_]
 ·exact h1
 ·intro e
  rcases h.2 with ⟨rfl,_⟩ | ⟨g,cap,cur,rfl,hbg,hgg,r⟩
  ·cases e
  ·simp only[Value.ownBlock,Option.some.injEq]at e
   subst e
   rcases h3 with h3 | h3
   ·omega
   ·rw[hgg]at h1
    simp only[Option.some.injEq]at h1
    exact h3 _ _ h1.symm
theorem RdAt.setK{w:World}{B:Nat}{S:RS}(h:RdAt w B S)(k:Nat)(hk:k<S.T.length)(hn:S.k≤k):RdAt (w.setCell ⟨B,1,none⟩ (.int .i64 k)) B { S with k:=k } :=
 ⟨h.blk.set 1 _,own_set h.otk h.blk (by decide),own_set h.ond h.blk (by decide),own_set h.olt h.blk (by decide),own_set h.orl h.blk (by decide),hk,h.tl,Nat.le_trans h.nk hn,h.dl⟩
theorem RdAt.setD{w:World}{B:Nat}{S:RS}(h:RdAt w B S)(d:Nat)(hd:d≤8):RdAt (w.setCell ⟨B,2,none⟩ (.int .i64 d)) B { S with d:=d } :=
 ⟨h.blk.set 2 _,own_set h.otk h.blk (by decide),own_set h.ond h.blk (by decide),own_set h.olt h.blk (by decide),own_set h.orl h.blk (by decide),h.kt,h.tl,h.nk,hd⟩
theorem RdAt.setF{w:World}{B:Nat}{S:RS}(h:RdAt w B S)(f:Bool):RdAt (w.setCell ⟨B,3,none⟩ (.bool f)) B { S with f:=f } :=
 ⟨h.blk.set 3 _,own_set h.otk h.blk (by decide),own_set h.ond h.blk (by decide),own_set h.olt h.blk (by decide),own_set h.orl h.blk (by decide),h.kt,h.tl,h.nk,h.dl⟩
theorem RdAt.shape{w:World}{B:Nat}{S:RS}(h:RdAt w B S):∃ g cap,S.tv=.slice (some ⟨g,0,none⟩) S.T.length cap∧S.T.length≤cap∧g<w.heap.size∧∀ j u,(cellsT S.T)[j]?=some u→w.cell? ⟨g,j,none⟩=some u:=by
 have hp:=h.kt
 rcases h.otk.2 with ⟨_,hn⟩ | ⟨g,cap,cur,hv,hb,hg,hnc,hcm,hcs,htk⟩
 ·omega
 ·refine ⟨g,cap,hv,hnc,lt_of_block hg,fun j u hj=>?_⟩
  have hlt:j<S.T.length*3:=by
   have:=h.otk.1
   rw[List.getElem?_eq_some_iff]at hj
   obtain ⟨h1,_⟩:=hj
   omega
  have:=h.otk
  rw[hv]at this
  rw[this.cellAt j hlt]
  exact hj
def tokA(t:RTok):Value:=.agg #[.int .i64 (kindP t.text),.int .i64 t.at',.string (bsOf t.text)]
theorem tok_end{w W:World}(hb:Below w.heap.size w W)(a b c:Value):Below w.heap.size w (((W.setCell ⟨w.heap.size,0,none⟩ a).setCell ⟨w.heap.size,1,none⟩ b).setCell ⟨w.heap.size,2,none⟩ c) :=
 ((hb.setCell (p:=⟨w.heap.size,0,none⟩) (Nat.le_refl _) a).setCell (p:=⟨w.heap.size,1,none⟩) (Nat.le_refl _) b).setCell (p:=⟨w.heap.size,2,none⟩) (Nat.le_refl _) c
theorem new_below(w:World)(o:Obj):Below w.heap.size w (w.alloc o):=(Below.refl _ _).alloc (Nat.le_refl _) o
set_option maxHeartbeats 1000000 in
theorem current_any(B:Nat)(S:RS)(w:World)(h:RdAt w B S)(hk:S.k<S.T.length) :
  Calls Tryz.prog 55 #[.pointer (some ⟨B,0,none⟩)] w fun e w'=>e=.returned (tokA S.T[S.k])∧Below w.heap.size w w':=by
 obtain ⟨g,cap,hv,hcap,hg,hc⟩:=h.shape
 have htl:=h.tl
 have hB:=h.blk.lt
 have c0:=h.blk.cell 0
 have c1:=h.blk.cell 1
 simp only[List.getElem?_toArray,List.getElem?_cons_zero,List.getElem?_cons_succ]at c0 c1
 rw[hv]at c0
 obtain ⟨g0,g1,g2⟩:=cellsT_get S.T S.k hk
 have d0:=hc _ _ g0
 have d1:=hc _ _ g1
 have d2:=hc _ _ g2
 clear hc g0 g1 g2 h hv
 unfold tokA
 generalize S.T[S.k]=t at *
 obtain ⟨kd,hkd⟩:∃ kd,kd=kindP t.text:=⟨_,rfl⟩
 rw[← hkd]at d0 ⊢
 clear hkd
 generalize hn:S.T.length=n at *
 clear hn
 generalize hkk:S.k=k at *
 clear hkk
 go_enter Tryz.func55,Tryz.ntmps55
 go_wp2
 go_quiet (fail)
 go_wp2
 go_region
 all_goals
  go_wp2
  refine bodyPost_ret (v:=.agg #[.int .i64 kd,.int .i64 t.at',.string (bsOf t.text)]) (by simp[results,Tryz.results55,go_sem]) rfl ⟨rfl, ?_⟩
  exact tok_end (below_drewN (new_below w _) _) _ _ _
set_option maxHeartbeats 1000000 in
theorem sees_any(B:Nat)(S:RS)(w:World)(h:RdAt w B S)(hk:S.k<S.T.length)(n:Nat) :
  Calls Tryz.prog 91 #[.pointer (some ⟨B,0,none⟩),.int .i64 n] w fun e w'=>e=.returned (.bool (!S.f&&kindP S.T[S.k].text==n))∧Below w.heap.size w w':=by
 have HR:=hideP h
 have hB:=h.blk.lt
 clear h
 go_enter Tryz.func91,Tryz.ntmps91
 go_wp2_with (go_at_call 55;refine (current_any B S _ HR.out hk).mono ?_;rintro e w1 ⟨rfl,hb1⟩;unfold tokA;replace HR:=hideP (HR.out.below hb1);have c3:=HR.out.blk.cell 3;have hB1:=HR.out.blk.lt;simp only[List.getElem?_toArray,List.getElem?_cons_zero,List.getElem?_cons_succ]at c3)
 all_goals go_ret
 all_goals refine ⟨ret_bool ?_,hb1.alloc (by have:=hb1.size;omega) _⟩
 ·simp_all
 ·have hf:S.f=false:=by simp_all
  rw[hf,Bool.eq_iff_iff]
  simp only[Bool.not_false,Bool.true_and,beq_iff_eq]
  omega
set_option maxHeartbeats 1000000 in
theorem take_yes(B:Nat)(S:RS)(w:World)(h:RdAt w B S)(hk:S.k<S.T.length)(n:Nat)(hs:S.f=false)(hn:kindP S.T[S.k].text=n)(hk2:S.k+1<S.T.length) :
  Calls Tryz.prog 136 #[.pointer (some ⟨B,0,none⟩),.int .i64 n] w fun e w'=>e=.returned (.tuple #[])∧RdAt w' B { S with k:=S.k+1 }∧KeepN B w w':=by
 have HR:=hideP h
 have HN:=hideP hn
 have HS:=hideP hs
 have hB:=h.blk.lt
 have htl:=h.tl
 clear h hn hs
 go_enter Tryz.func136,Tryz.ntmps136
 go_wp2_with (go_at_call 91;refine (sees_any B S _ HR.out hk n).mono ?_;rintro e w1 ⟨rfl,hb1⟩;rw[HN.out,HS.out];simp only[Bool.not_false,Bool.true_and,beq_self_eq_true];replace HR:=hideP (HR.out.below hb1);have c1:=HR.out.blk.cell 1;have f1:=HR.out.blk.free 1;have hB1:=HR.out.blk.lt;simp only[List.getElem?_toArray,List.getElem?_cons_zero,List.getElem?_cons_succ]at c1)
 have R:=HR.out.setK (S.k+1) hk2 (by omega)
 refine bodyPost_end (results_none rfl _ _ _) rfl ?_
 exact ⟨rfl,R,(KeepN.of hb1).trans (KeepN.set B 1 _)⟩
set_option maxHeartbeats 1000000 in
theorem take_no(B:Nat)(S:RS)(w:World)(h:RdAt w B S)(hk:S.k<S.T.length)(n:Nat)(hs:S.f=true∨kindP S.T[S.k].text≠n) :
  Calls Tryz.prog 136 #[.pointer (some ⟨B,0,none⟩),.int .i64 n] w fun e w'=>e=.returned (.tuple #[])∧RdAt w' B { S with f:=true }∧KeepN B w w':=by
 have HR:=hideP h
 have hb:(!S.f&&kindP S.T[S.k].text==n)=false:=by
  rcases hs with hs | hs
  ·simp[hs]
  ·simp[hs]
 have HN:=hideP hb
 have hB:=h.blk.lt
 have htl:=h.tl
 clear h hb hs
 go_enter Tryz.func136,Tryz.ntmps136
 go_wp2_with (go_at_call 91;refine (sees_any B S _ HR.out hk n).mono ?_;rintro e w1 ⟨rfl,hb1⟩;rw[HN.out];replace HR:=hideP (HR.out.below hb1);have c1:=HR.out.blk.cell 3;have f1:=HR.out.blk.free 3;have hB1:=HR.out.blk.lt;simp only[List.getElem?_toArray,List.getElem?_cons_zero,List.getElem?_cons_succ]at c1)
 have R:=HR.out.setF true
 refine bodyPost_end (results_none rfl _ _ _) rfl ?_
 exact ⟨rfl,R,(KeepN.of hb1).trans (KeepN.set B 3 _)⟩
set_option maxHeartbeats 1000000 in
theorem currentBinding_any(B:Nat)(S:RS)(w:World)(h:RdAt w B S)(hk:S.k<S.T.length) :
  Calls Tryz.prog 181 #[.pointer (some ⟨B,0,none⟩)] w fun e w'=>e=.returned (.int .i64 ((if S.f then 0 else bindK (kindP S.T[S.k].text):Nat):Int))∧Below w.heap.size w w':=by
 have HR:=hideP h
 have hB:=h.blk.lt
 have c3:=h.blk.cell 3
 simp only[List.getElem?_toArray,List.getElem?_cons_zero,List.getElem?_cons_succ]at c3
 clear h
 cases hf:S.f
 ·rw[hf]at c3
  clear hf
  go_enter Tryz.func181,Tryz.ntmps181
  go_wp2_with (first | (go_at_call 55;refine (current_any B S _ HR.out hk).mono ?_;rintro e w1 ⟨rfl,hb1⟩;unfold tokA;replace HR:=hideP (HR.out.below hb1)) | (go_at_call 184;refine (binding_any _ _).mono ?_;rintro e w2 ⟨rfl,rfl⟩))
  go_ret
  exact ⟨ret_int (by simp),hb1.alloc (by have:=hb1.size;omega) _⟩
 ·rw[hf]at c3
  clear hf
  go_enter Tryz.func181,Tryz.ntmps181
  go_wp2
  go_ret
  exact ⟨ret_int (by simp),Below.refl _ _⟩
def nodA(n:PNode):Value:=.agg #[.int .i64 (kindP n.tok.text),.int .i64 n.tok.at',.string (bsOf n.tok.text),.int .i64 n.ops,.int .i64 n.left,.int .i64 n.right]
theorem Tryz.infoNode:(Tryz.prog.info? 175).map (fun i=>(i.zero,i.size,i.bytes))=some (some (.agg #[.int .i64 0,.int .i64 0,.string ⟨#[]⟩,.int .i64 0,.int .i64 0,.int .i64 0]),6,56):=by kernel_rfl
end Go.Proofs.YtgfnkeiigjholaaGreatDoor
