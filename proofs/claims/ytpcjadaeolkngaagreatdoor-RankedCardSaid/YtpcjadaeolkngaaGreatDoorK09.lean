/-
  The program's reader: its state in memory, what a call on it keeps.
-/
import Derived.Test.YtpcjadaeolkngaaGreatDoorK08
import Derived.Test.YtpcjadaeolkngaaGreatDoorK04
import Derived.Deep.RegionHeld3
import Derived.Deep.RegionLaw
import Derived.Deep.DeepCutAuto
import Derived.Deep.AppendLies
set_option linter.unusedVariables false
set_option linter.unusedSimpArgs false
namespace Go.Proofs.YtpcjadaeolkngaaGreatDoor
open Go.RowKit Go.Deep
theorem hideP {p:Prop} (h:p):Hid p:=h
def cellN (n:PNode):List Value:=[.int .i64 (kindP n.tok.text),.int .i64 n.tok.at',.string (bsOf n.tok.text),.int .i64 n.ops,.int .i64 n.left,.int .i64 n.right]
def cellL (p:PLet):List Value:=[.int .i64 (kindP p.name.text),.int .i64 p.name.at',.string (bsOf p.name.text),.int .i64 p.val.place,.int .i64 p.val.fr,.int .i64 p.val.behind]
def cellU (p:PRule):List Value:=[.bool p.hw,.int .i64 p.when.place,.int .i64 p.when.fr,.int .i64 p.when.behind,.bool p.hs,.int .i64 p.score.place,.int .i64 p.score.fr,.int .i64 p.score.behind]
def cellT (t:RTok):List Value:=[.int .i64 (kindP t.text),.int .i64 t.at',.string (bsOf t.text)]
def cellsN (l:List PNode):List Value:=l.flatMap cellN
def cellsLt (l:List PLet):List Value:=l.flatMap cellL
def cellsU (l:List PRule):List Value:=l.flatMap cellU
def cellsT (l:List RTok):List Value:=l.flatMap cellT
theorem cellsT_toP (l:List RTok):cellsP (l.map toP)=cellsT l:=by
 induction l with
 | nil=>rfl
 | cons t r ih=>rw[List.map_cons,cellsP,List.flatMap_cons,← cellsP,ih];rfl
theorem cellsT_get:∀ (l:List RTok) (k:Nat) (h:k < l.length),(cellsT l)[k * 3]?=some (.int .i64 (kindP l[k].text))∧(cellsT l)[k * 3+1]?=some (.int .i64 l[k].at')∧(cellsT l)[k * 3+2]?=some (.string (bsOf l[k].text))
 | [],k,h=>by simp at h
 | t :: r,0,h=>⟨rfl,rfl,rfl⟩
 | t :: r,k+1,h=>by
  have ih:=cellsT_get r k (by simpa using h)
  have e:∀ j,(cellsT (t :: r))[(k+1) * 3+j]?=(cellsT r)[k * 3+j]?:=by
   intro j
   rw[show (k+1) * 3+j=3+(k * 3+j) by omega]
   show (cellT t++cellsT r)[3+(k * 3+j)]?=_
   rw[List.getElem?_append_right (by simp[cellT])]
   simp[cellT]
  exact ⟨by rw[show (k+1) * 3=(k+1) * 3+0 by omega,e];exact ih.1,by rw[e];exact ih.2.1,by rw[e];exact ih.2.2⟩
structure RS where
 tv:Value
 T:List RTok
 k:Nat
 d:Nat
 f:Bool
 nv:Value
 lv:Value
 rv:Value
 ns:List PNode
 ls:List PLet
 rs:List PRule
structure RdAt (w:World) (B:Nat) (S:RS):Prop where
 blk:Blk w B #[S.tv,.int .i64 S.k,.int .i64 S.d,.bool S.f,S.nv,S.lv,S.rv] 99
 otk:w.ownsRow 0 101 3 S.tv S.T.length (cellsT S.T)
 ond:w.ownsRow (B+1) 154 6 S.nv S.ns.length (cellsN S.ns)
 olt:w.ownsRow (B+1) 107 6 S.lv S.ls.length (cellsLt S.ls)
 orl:w.ownsRow (B+1) 110 8 S.rv S.rs.length (cellsU S.rs)
 kt:S.k < S.T.length
 tl:S.T.length≤401
 nk:S.ns.length≤S.k
 dl:S.d≤8
theorem RdAt.below {w w':World} {B:Nat} {S:RS} (h:RdAt w B S) (hb:Below w.heap.size w w'):RdAt w' B S :=
 ⟨h.blk.below hb h.blk.lt,own_below h.otk hb,own_below h.ond hb,own_below h.olt hb,own_below h.orl hb,h.kt,h.tl,h.nk,h.dl⟩
theorem RdAt.drew {w:World} {B:Nat} {S:RS} (h:RdAt w B S):RdAt w.drew B S:=h.below (below_drewN (Below.refl _ w) 1)
theorem RdAt.alloc {w:World} {B:Nat} {S:RS} (h:RdAt w B S) (o:Obj):RdAt (w.alloc o) B S:=h.below ((Below.refl _ _).alloc (Nat.le_refl _) o)
theorem own_set {w:World} {base B i s n:Nat} {e t:TypeId} {v u:Value} {xs:List Value} {cs:Array Value} (h:w.ownsRow base e s v n xs) (hb:Blk w B cs t) (hne:t≠e):(w.setCell ⟨B,i,none⟩ u).ownsRow base e s v n xs:=by
 refine ⟨h.1, ?_⟩
 rcases h.2 with hn | ⟨g,cap,cur,rfl,hbg,hg,r⟩
 ·exact .inl hn
 ·refine .inr ⟨g,cap,cur,rfl,hbg, ?_,r⟩
  have hgb:g≠B:=by
   rintro rfl
   unfold Blk at hb
   rw[hb] at hg
   simp only[Option.some.injEq,Obj.cells.injEq] at hg
   exact hne hg.2.1
  rw[Below.heap_setCell _ _ _ _ hgb]
  exact hg
structure KeepN (B:Nat) (w w':World):Prop where
 os:w'.os=w.os
 tape:w'.tape=w.tape
 output:w'.output=w.output
 size:w.heap.size≤w'.heap.size
 block:∀ b o,w.heap[b]?=some o→b≠B→(b < B∨∀ cs fz,o≠.cells cs 154 fz)→w'.heap[b]?=some o
theorem KeepN.refl (B:Nat) (w:World):KeepN B w w:=⟨rfl,rfl,rfl,Nat.le_refl _,fun _ _ h _ _=>h⟩
theorem KeepN.trans {B:Nat} {w w1 w2:World} (h:KeepN B w w1) (g:KeepN B w1 w2):KeepN B w w2 :=
 ⟨g.os.trans h.os,g.tape.trans h.tape,g.output.trans h.output,Nat.le_trans h.size g.size,fun b o h1 h2 h3=>g.block b o (h.block b o h1 h2 h3) h2 h3⟩
theorem KeepN.of {B:Nat} {w w':World} (h:Below w.heap.size w w'):KeepN B w w':=⟨h.os,h.tape,h.output,h.size,fun b o h1 _ _=>by rw[h.block b (Array.getElem?_eq_some_iff.1 h1).1];exact h1⟩
theorem KeepN.below {B:Nat} {w w':World} (h:KeepN B w w') (hB:B≤w.heap.size):Below B w w' :=
 ⟨h.os,h.tape,h.output,h.size,fun k hk=>by
  have hlt:k < w.heap.size:=by omega
  have e:=Array.getElem?_eq_getElem hlt
  rw[e]
  exact h.block k _ e (by omega) (.inl hk)⟩
theorem KeepN.set {w:World} (B i:Nat) (v:Value):KeepN B w (w.setCell ⟨B,i,none⟩ v):=by
 have g:=(Below.refl B w).setCell (p:=⟨B,i,none⟩) (Nat.le_refl _) v
 exact ⟨g.os,g.tape,g.output,g.size,fun b o h1 h2 _=>by rw[Below.heap_setCell _ _ _ _ h2];exact h1⟩
theorem Blk.keepN {w w':World} {B b:Nat} {cs:Array Value} {t:TypeId} (h:Blk w b cs t) (hk:KeepN B w w') (hne:b≠B) (ht:t≠154):Blk w' b cs t :=
 hk.block b _ h hne (.inr fun cs' fz e=>by simp only[Obj.cells.injEq] at e;exact ht e.2.1)
theorem own_keepN {w w':World} {B base s n:Nat} {e t:TypeId} {v:Value} {xs:List Value} {cs:Array Value} (h:w.ownsRow base e s v n xs) (hb:Blk w B cs t) (hne:t≠e) (he:e≠154) (hk:KeepN B w w'):w'.ownsRow base e s v n xs:=by
 refine ⟨h.1, ?_⟩
 rcases h.2 with hn | ⟨g,cap,cur,rfl,hbg,hg,r⟩
 ·exact .inl hn
 ·refine .inr ⟨g,cap,cur,rfl,hbg, ?_,r⟩
  refine hk.block g _ hg ?_ (.inr fun cs' fz e'=>by simp only[Obj.cells.injEq] at e';exact he e'.2.1)
  rintro rfl
  unfold Blk at hb
  rw[hb] at hg
  simp only[Option.some.injEq,Obj.cells.injEq] at hg
  exact hne hg.2.1
theorem KeepN.grown {w w':World} {B s n:Nat} {v:Value} {xs:List Value} (h:w.ownsRow (B+1) 154 s v n xs) (hg:w.grownBy w' v.ownBlock):KeepN B w w':=by
 refine ⟨hg.os,hg.tape,hg.output,hg.size,fun b o h1 h2 h3=>?_⟩
 have hlt:=(Array.getElem?_eq_some_iff.1 h1).1
 rw[hg.block b hlt ?_]
 ·exact h1
 ·intro e
  rcases h.2 with ⟨rfl,_⟩ | ⟨g,cap,cur,rfl,hbg,hgg,r⟩
  ·cases e
  ·simp only[Value.ownBlock,Option.some.injEq] at e
   subst e
   rcases h3 with h3 | h3
   ·omega
   ·rw[hgg] at h1
    simp only[Option.some.injEq] at h1
    exact h3 _ _ h1.symm
theorem RdAt.setK {w:World} {B:Nat} {S:RS} (h:RdAt w B S) (k:Nat) (hk:k < S.T.length) (hn:S.k≤k):RdAt (w.setCell ⟨B,1,none⟩ (.int .i64 k)) B { S with k:=k } :=
 ⟨h.blk.set 1 _,own_set h.otk h.blk (by decide),own_set h.ond h.blk (by decide),own_set h.olt h.blk (by decide),own_set h.orl h.blk (by decide),hk,h.tl,Nat.le_trans h.nk hn,h.dl⟩
theorem RdAt.setD {w:World} {B:Nat} {S:RS} (h:RdAt w B S) (d:Nat) (hd:d≤8):RdAt (w.setCell ⟨B,2,none⟩ (.int .i64 d)) B { S with d:=d } :=
 ⟨h.blk.set 2 _,own_set h.otk h.blk (by decide),own_set h.ond h.blk (by decide),own_set h.olt h.blk (by decide),own_set h.orl h.blk (by decide),h.kt,h.tl,h.nk,hd⟩
theorem RdAt.setF {w:World} {B:Nat} {S:RS} (h:RdAt w B S) (f:Bool):RdAt (w.setCell ⟨B,3,none⟩ (.bool f)) B { S with f:=f } :=
 ⟨h.blk.set 3 _,own_set h.otk h.blk (by decide),own_set h.ond h.blk (by decide),own_set h.olt h.blk (by decide),own_set h.orl h.blk (by decide),h.kt,h.tl,h.nk,h.dl⟩
theorem RdAt.shape {w:World} {B:Nat} {S:RS} (h:RdAt w B S):∃ g cap,S.tv=.slice (some ⟨g,0,none⟩) S.T.length cap∧S.T.length≤cap∧g < w.heap.size∧∀ j u,(cellsT S.T)[j]?=some u→w.cell? ⟨g,j,none⟩=some u:=by
 have hp:=h.kt
 rcases h.otk.2 with ⟨_,hn⟩ | ⟨g,cap,cur,hv,hb,hg,hnc,hcm,hcs,htk⟩
 ·omega
 ·refine ⟨g,cap,hv,hnc,lt_of_block hg,fun j u hj=>?_⟩
  have hlt:j < S.T.length * 3:=by
   have:=h.otk.1
   rw[List.getElem?_eq_some_iff] at hj
   obtain ⟨h1,_⟩:=hj
   omega
  have:=h.otk
  rw[hv] at this
  rw[this.cellAt j hlt]
  exact hj
end Go.Proofs.YtpcjadaeolkngaaGreatDoor
namespace Go.Proofs.YtpcjadaeolkngaaGreatDoor
open Go.RowKit Go.Deep
def tokA (t:RTok):Value:=.agg #[.int .i64 (kindP t.text),.int .i64 t.at',.string (bsOf t.text)]
theorem tok_end {w W:World} (hb:Below w.heap.size w W) (a b c:Value):Below w.heap.size w (((W.setCell ⟨w.heap.size,0,none⟩ a).setCell ⟨w.heap.size,1,none⟩ b).setCell ⟨w.heap.size,2,none⟩ c) :=
 ((hb.setCell (p:=⟨w.heap.size,0,none⟩) (Nat.le_refl _) a).setCell (p:=⟨w.heap.size,1,none⟩) (Nat.le_refl _) b).setCell (p:=⟨w.heap.size,2,none⟩) (Nat.le_refl _) c
theorem new_below (w:World) (o:Obj):Below w.heap.size w (w.alloc o):=(Below.refl _ _).alloc (Nat.le_refl _) o
set_option maxHeartbeats 1000000 in
theorem current_any (B:Nat) (S:RS) (w:World) (h:RdAt w B S) (hk:S.k < S.T.length) :
  Calls Tryz.prog 43 #[.pointer (some ⟨B,0,none⟩)] w fun e w'=>e=.returned (tokA S.T[S.k])∧Below w.heap.size w w':=by
 obtain ⟨g,cap,hv,hcap,hg,hc⟩:=h.shape
 have htl:=h.tl
 have hB:=h.blk.lt
 have c0:=h.blk.cell 0
 have c1:=h.blk.cell 1
 simp only[List.getElem?_toArray,List.getElem?_cons_zero,List.getElem?_cons_succ] at c0 c1
 rw[hv] at c0
 obtain ⟨g0,g1,g2⟩:=cellsT_get S.T S.k hk
 have d0:=hc _ _ g0
 have d1:=hc _ _ g1
 have d2:=hc _ _ g2
 clear hc g0 g1 g2 h hv
 unfold tokA
 generalize S.T[S.k]=t at *
 obtain ⟨kd,hkd⟩:∃ kd,kd=kindP t.text:=⟨_,rfl⟩
 rw[← hkd] at d0 ⊢
 clear hkd
 generalize hn:S.T.length=n at *
 clear hn
 generalize hkk:S.k=k at *
 clear hkk
 go_enter Tryz.func43,Tryz.ntmps43
 go_wp2
 go_quiet (fail)
 go_wp2
 go_region
 all_goals
  go_wp2
  refine bodyPost_ret (v:=.agg #[.int .i64 kd,.int .i64 t.at',.string (bsOf t.text)]) (by simp[results,Tryz.results43,go_sem]) rfl ⟨rfl, ?_⟩
  exact tok_end (below_drewN (new_below w _) _) _ _ _
set_option maxHeartbeats 1000000 in
theorem sees_any (B:Nat) (S:RS) (w:World) (h:RdAt w B S) (hk:S.k < S.T.length) (n:Nat) :
  Calls Tryz.prog 67 #[.pointer (some ⟨B,0,none⟩),.int .i64 n] w fun e w'=>e=.returned (.bool (!S.f&&kindP S.T[S.k].text==n))∧Below w.heap.size w w':=by
 have HR:=hideP h
 have hB:=h.blk.lt
 clear h
 go_enter Tryz.func67,Tryz.ntmps67
 go_wp2_with (go_at_call 43;refine (current_any B S _ HR.out hk).mono ?_;rintro e w1 ⟨rfl,hb1⟩;unfold tokA;replace HR:=hideP (HR.out.below hb1);have c3:=HR.out.blk.cell 3;have hB1:=HR.out.blk.lt;simp only[List.getElem?_toArray,List.getElem?_cons_zero,List.getElem?_cons_succ] at c3)
 all_goals go_ret
 all_goals refine ⟨ret_bool ?_,hb1.alloc (by have:=hb1.size;omega) _⟩
 ·simp_all
 ·have hf:S.f=false:=by simp_all
  rw[hf,Bool.eq_iff_iff]
  simp only[Bool.not_false,Bool.true_and,beq_iff_eq]
  omega
set_option maxHeartbeats 1000000 in
theorem take_yes (B:Nat) (S:RS) (w:World) (h:RdAt w B S) (hk:S.k < S.T.length) (n:Nat) (hs:S.f=false) (hn:kindP S.T[S.k].text=n) (hk2:S.k+1 < S.T.length) :
  Calls Tryz.prog 102 #[.pointer (some ⟨B,0,none⟩),.int .i64 n] w fun e w'=>e=.returned (.tuple #[])∧RdAt w' B { S with k:=S.k+1 }∧KeepN B w w':=by
 have HR:=hideP h
 have HN:=hideP hn
 have HS:=hideP hs
 have hB:=h.blk.lt
 have htl:=h.tl
 clear h hn hs
 go_enter Tryz.func102,Tryz.ntmps102
 go_wp2_with (go_at_call 67;refine (sees_any B S _ HR.out hk n).mono ?_;rintro e w1 ⟨rfl,hb1⟩;rw[HN.out,HS.out];simp only[Bool.not_false,Bool.true_and,beq_self_eq_true];replace HR:=hideP (HR.out.below hb1);have c1:=HR.out.blk.cell 1;have f1:=HR.out.blk.free 1;have hB1:=HR.out.blk.lt;simp only[List.getElem?_toArray,List.getElem?_cons_zero,List.getElem?_cons_succ] at c1)
 have R:=HR.out.setK (S.k+1) hk2 (by omega)
 refine bodyPost_end (results_none rfl _ _ _) rfl ?_
 exact ⟨rfl,R,(KeepN.of hb1).trans (KeepN.set B 1 _)⟩
set_option maxHeartbeats 1000000 in
theorem take_no (B:Nat) (S:RS) (w:World) (h:RdAt w B S) (hk:S.k < S.T.length) (n:Nat) (hs:S.f=true∨kindP S.T[S.k].text≠n) :
  Calls Tryz.prog 102 #[.pointer (some ⟨B,0,none⟩),.int .i64 n] w fun e w'=>e=.returned (.tuple #[])∧RdAt w' B { S with f:=true }∧KeepN B w w':=by
 have HR:=hideP h
 have hb:(!S.f&&kindP S.T[S.k].text==n)=false:=by
  rcases hs with hs | hs
  ·simp[hs]
  ·simp[hs]
 have HN:=hideP hb
 have hB:=h.blk.lt
 have htl:=h.tl
 clear h hb hs
 go_enter Tryz.func102,Tryz.ntmps102
 go_wp2_with (go_at_call 67;refine (sees_any B S _ HR.out hk n).mono ?_;rintro e w1 ⟨rfl,hb1⟩;rw[HN.out];replace HR:=hideP (HR.out.below hb1);have c1:=HR.out.blk.cell 3;have f1:=HR.out.blk.free 3;have hB1:=HR.out.blk.lt;simp only[List.getElem?_toArray,List.getElem?_cons_zero,List.getElem?_cons_succ] at c1)
 have R:=HR.out.setF true
 refine bodyPost_end (results_none rfl _ _ _) rfl ?_
 exact ⟨rfl,R,(KeepN.of hb1).trans (KeepN.set B 3 _)⟩
set_option maxHeartbeats 1000000 in
theorem currentBinding_any (B:Nat) (S:RS) (w:World) (h:RdAt w B S) (hk:S.k < S.T.length) :
  Calls Tryz.prog 141 #[.pointer (some ⟨B,0,none⟩)] w fun e w'=>e=.returned (.int .i64 ((if S.f then 0 else bindK (kindP S.T[S.k].text):Nat):Int))∧Below w.heap.size w w':=by
 have HR:=hideP h
 have hB:=h.blk.lt
 have c3:=h.blk.cell 3
 simp only[List.getElem?_toArray,List.getElem?_cons_zero,List.getElem?_cons_succ] at c3
 clear h
 cases hf:S.f
 ·rw[hf] at c3
  clear hf
  go_enter Tryz.func141,Tryz.ntmps141
  go_wp2_with (first | (go_at_call 43;refine (current_any B S _ HR.out hk).mono ?_;rintro e w1 ⟨rfl,hb1⟩;unfold tokA;replace HR:=hideP (HR.out.below hb1)) | (go_at_call 144;refine (binding_any _ _).mono ?_;rintro e w2 ⟨rfl,rfl⟩))
  go_ret
  exact ⟨ret_int (by simp),hb1.alloc (by have:=hb1.size;omega) _⟩
 ·rw[hf] at c3
  clear hf
  go_enter Tryz.func141,Tryz.ntmps141
  go_wp2
  go_ret
  exact ⟨ret_int (by simp),Below.refl _ _⟩
def nodA (n:PNode):Value:=.agg #[.int .i64 (kindP n.tok.text),.int .i64 n.tok.at',.string (bsOf n.tok.text),.int .i64 n.ops,.int .i64 n.left,.int .i64 n.right]
theorem Tryz.infoNode:(Tryz.prog.info? 154).map (fun i=>(i.zero,i.size,i.bytes))=some (some (.agg #[.int .i64 0,.int .i64 0,.string ⟨#[]⟩,.int .i64 0,.int .i64 0,.int .i64 0]),6,56):=by kernel_rfl
end Go.Proofs.YtpcjadaeolkngaaGreatDoor
namespace Go.Proofs.YtpcjadaeolkngaaGreatDoor
open Go.RowKit Go.Deep
theorem one_nod (n:PNode):∀ u∈cellN n,u.oneCell'=true:=by
 intro u hu
 simp[cellN] at hu
 rcases hu with rfl | rfl | rfl | rfl | rfl | rfl <;> rfl
theorem cellsN_snoc (l:List PNode) (n:PNode):cellsN (l++[n])=cellsN l++cellN n:=by simp[cellsN]
theorem rd_added {w w3:World} {B:Nat} {S:RS} {n:PNode} {v:Value} {kd:Nat} (h:RdAt w B S) (ho:w3.ownsRow (B+1) 154 6 v (S.ns.length+1) (cellsN S.ns++[.int .i64 kd,.int .i64 n.tok.at',.string (bsOf n.tok.text),.int .i64 n.ops,.int .i64 n.left,.int .i64 n.right])) (hg:w.grownBy w3 S.nv.ownBlock) (hkd:kindP n.tok.text=kd) (hn:S.ns.length+1≤S.k) :
  RdAt (w3.setCell ⟨B,4,none⟩ v) B { S with nv:=v,ns:=S.ns++[n] }∧KeepN B w (w3.setCell ⟨B,4,none⟩ v):=by
 have hk:=KeepN.grown h.ond hg
 have hneB:some B≠S.nv.ownBlock:=by intro e;have:=(h.ond.lt B e.symm).1;omega
 have hb:Blk w3 B #[S.tv,.int .i64 S.k,.int .i64 S.d,.bool S.f,S.nv,S.lv,S.rv] 99:=by
  unfold Blk;rw[hg.block B h.blk.lt hneB];exact h.blk
 subst hkd
 refine ⟨⟨hb.set 4 v,own_set (own_keepN h.otk h.blk (by decide) (by decide) hk) hb (by decide), ?_,own_set (own_keepN h.olt h.blk (by decide) (by decide) hk) hb (by decide),own_set (own_keepN h.orl h.blk (by decide) (by decide) hk) hb (by decide),h.kt,h.tl,by simpa using hn,h.dl⟩,hk.trans (KeepN.set B 4 v)⟩
 have:=own_set (i:=4) (u:=v) ho hb (by decide)
 simpa[cellsN_snoc,cellN] using this
set_option maxHeartbeats 2000000 in
set_option maxRecDepth 100000 in
theorem add_any (B:Nat) (S:RS) (w:World) (h:RdAt w B S) (n:PNode) (hn:S.ns.length+1≤S.k) :
  Calls Tryz.prog 142 #[.pointer (some ⟨B,0,none⟩),nodA n] w fun e w'=>e=.returned (.int .i64 (S.ns.length:Nat))∧(∃ nv,RdAt w' B { S with nv:=nv,ns:=S.ns++[n] })∧KeepN B w w':=by
 obtain ⟨i0,hi,hz0,hz1,hz2⟩:=info_parts Tryz.infoNode
 have HR:=hideP h
 have hB:=h.blk.lt
 have htl:=h.tl
 have hkt:=h.kt
 have c4:=h.blk.cell 4
 have f4:=h.blk.free 4
 simp only[List.getElem?_toArray,List.getElem?_cons_zero,List.getElem?_cons_succ] at c4
 have hOn:=h.ond
 clear h
 unfold nodA
 generalize hkd:kindP n.tok.text=kd
 have HKD:=hideP hkd
 clear hkd
 go_enter Tryz.func142,Tryz.ntmps142
 go_wp2
 have hneB:S.nv.ownBlock≠some B:=by intro e;have:=(hOn.lt B e).1;omega
 have HW:=hideP (((HR.out.alloc (.cells #[.int .i64 kd,.int .i64 n.tok.at',.string (bsOf n.tok.text),.int .i64 n.ops,.int .i64 n.left,.int .i64 n.right] 154)).alloc (.cells #[.int .i64 kd,.int .i64 n.tok.at',.string (bsOf n.tok.text),.int .i64 n.ops,.int .i64 n.left,.int .i64 n.right] 154)).drew)
 have hone:∀ u∈[Value.int .i64 kd,.int .i64 n.tok.at',.string (bsOf n.tok.text),.int .i64 n.ops,.int .i64 n.left,.int .i64 n.right],u.oneCell'=true:=by have:=one_nod n;unfold cellN at this;rw[HKD.out] at this;exact this
 have h63:S.ns.length+1≤maxLen:=by unfold maxLen;omega
 have hnb:=Blk.new (w.alloc (.cells #[.int .i64 kd,.int .i64 n.tok.at',.string (bsOf n.tok.text),.int .i64 n.ops,.int .i64 n.left,.int .i64 n.right] 154)) #[.int .i64 kd,.int .i64 n.tok.at',.string (bsOf n.tok.text),.int .i64 n.ops,.int .i64 n.left,.int .i64 n.right] 154
 rw[show (w.alloc (.cells #[.int .i64 kd,.int .i64 n.tok.at',.string (bsOf n.tok.text),.int .i64 n.ops,.int .i64 n.left,.int .i64 n.right] 154)).heap.size=w.heap.size+1 from by simp] at hnb
 have hnews:∀ j u,[Value.int .i64 kd,.int .i64 n.tok.at',.string (bsOf n.tok.text),.int .i64 n.ops,.int .i64 n.left,.int .i64 n.right][j]?=some u→(((w.alloc (.cells #[.int .i64 kd,.int .i64 n.tok.at',.string (bsOf n.tok.text),.int .i64 n.ops,.int .i64 n.left,.int .i64 n.right] 154)).alloc (.cells #[.int .i64 kd,.int .i64 n.tok.at',.string (bsOf n.tok.text),.int .i64 n.ops,.int .i64 n.left,.int .i64 n.right] 154)).drew).cell? ((⟨w.heap.size+1,0,none⟩:Addr).add j)=some u:=World.news_of_block (cs:=#[.int .i64 kd,.int .i64 n.tok.at',.string (bsOf n.tok.text),.int .i64 n.ops,.int .i64 n.left,.int .i64 n.right]) (t:=154) (fr:=(0,0)) hnb
 go_region_law ((refine step_append_lies _ (by rfl) _ _ _ (by rfl) (B+1) 154 i0 _ 6 56 Tryz.underlying69 hi hz0 hz1 hz2 rfl (by omega) S.nv S.ns.length (cellsN S.ns) (by rfl) HW.out.ond ⟨w.heap.size+1,0,none⟩ 1 1 [.int .i64 kd,.int .i64 n.tok.at',.string (bsOf n.tok.text),.int .i64 n.ops,.int .i64 n.left,.int .i64 n.right] (by rfl) (by rfl) hnews hone (by omega) h63 (by omega) (by simp <;> omega) (w.heap.size+1+1) (by simp) ?_;intro gg cap w3 hown3 hgrow hat hlt4;have f3:w3.frozen? ⟨B,4,none⟩=false:=(hgrow.frozen_far _ (by simp <;> omega) (Ne.symm hneB)).trans (HW.out.blk.free 4);have c3:w3.cell? ⟨B,4,none⟩=some S.nv:=(hgrow.cell_far _ (by simp <;> omega) (Ne.symm hneB)).trans (HW.out.blk.cell 4)))
 all_goals
  have R:=rd_added HW.out hown3 hgrow HKD.out hn
  clear hnews hnb hone hown3 hgrow
  go_wp2
  go_ret
  exact ⟨ret_int (by omega),⟨_,R.1⟩,(KeepN.of (below_drewN (((Below.refl _ w).alloc (Nat.le_refl _) _).alloc (by simp) _) 1)).trans R.2⟩
end Go.Proofs.YtpcjadaeolkngaaGreatDoor
namespace Go.Proofs.YtpcjadaeolkngaaGreatDoor
open Go.RowKit Go.Deep
structure LeftR (S:RS) (l:List RTok):Prop where
  eq:∃ E,S.T.drop S.k=l++[⟨[],E⟩]
  may:∀ t∈l,mayT t.text=true
theorem LeftR.len {S:RS} {l:List RTok} (h:LeftR S l) (hk:S.k < S.T.length):S.k+l.length+1=S.T.length:=by
  obtain ⟨E,e⟩:=h.eq
  have:=congrArg List.length e
  simp at this
  omega
theorem LeftR.head {S:RS} {a:RTok} {r:List RTok} (h:LeftR S (a :: r)):S.T[S.k]?=some a:=by
  obtain ⟨E,e⟩:=h.eq
  have:=congrArg (fun x=>x[0]?) e
  simpa using this
theorem LeftR.nil {S:RS} (h:LeftR S []):∃ E,S.T[S.k]?=some ⟨[],E⟩:=by
  obtain ⟨E,e⟩:=h.eq
  have:=congrArg (fun x=>x[0]?) e
  exact ⟨E,by simpa using this⟩
theorem LeftR.drop {S:RS} {l:List RTok} (h:LeftR S l) {j:Nat} (hj:j≤l.length) (S':RS) (hT:S'.T=S.T) (hk:S'.k=S.k+j):LeftR S' (l.drop j):=by
  obtain ⟨E,e⟩:=h.eq
  refine ⟨⟨E, ?_⟩,fun t ht=>h.may t (List.mem_of_mem_drop ht)⟩
  rw[hT,hk,← List.drop_drop,e,List.drop_append_of_le_length hj]
theorem LeftR.next {S:RS} {a:RTok} {r:List RTok} (h:LeftR S (a :: r)) (S':RS) (hT:S'.T=S.T) (hk:S'.k=S.k+1):LeftR S' r:=by
  have:=h.drop (j:=1) (by simp) S' hT hk
  simpa using this
theorem LeftR.behind {S:RS} {l rest:List RTok} {t:Tr} {d:Nat} (h:LeftR S l) (g:GotO d l t rest) (S':RS) (hT:S'.T=S.T) (hk:S'.k=S.k+t.toks.length):LeftR S' rest:=by
  have:=h.drop (j:=t.toks.length) (by rw[g.eq];simp) S' hT hk
  rw[g.eq] at this
  simpa using this
theorem kindP_nil:kindP []=0:=by decide
theorem cur_at {S:RS} {t:RTok} (ht:S.T[S.k]?=some t):∃ hk:S.k < S.T.length,S.T[S.k]=t:=by
  rw[List.getElem?_eq_some_iff] at ht;exact ht
theorem current_at {B:Nat} {S:RS} {w:World} (h:RdAt w B S) {t:RTok} (ht:S.T[S.k]?=some t) :
    Calls Tryz.prog 43 #[.pointer (some ⟨B,0,none⟩)] w fun e w'=>e=.returned (tokA t)∧Below w.heap.size w w':=by
  obtain ⟨hk,rfl⟩:=cur_at ht
  exact current_any B S w h hk
theorem sees_at {B:Nat} {S:RS} {w:World} (h:RdAt w B S) {t:RTok} (ht:S.T[S.k]?=some t) (n:Nat) :
    Calls Tryz.prog 67 #[.pointer (some ⟨B,0,none⟩),.int .i64 n] w fun e w'=>e=.returned (.bool (!S.f&&kindP t.text==n))∧Below w.heap.size w w':=by
  obtain ⟨hk,rfl⟩:=cur_at ht
  exact sees_any B S w h hk n
theorem take_at {B:Nat} {S:RS} {w:World} (h:RdAt w B S) {a:RTok} {r:List RTok} (hl:LeftR S (a :: r)) (n:Nat) (hs:S.f=false) (hn:kindP a.text=n) :
    Calls Tryz.prog 102 #[.pointer (some ⟨B,0,none⟩),.int .i64 n] w fun e w'=>e=.returned (.tuple #[])∧RdAt w' B { S with k:=S.k+1 }∧KeepN B w w':=by
  obtain ⟨hk,he⟩:=cur_at hl.head
  have hlen:=hl.len hk
  exact take_yes B S w h hk n hs (by rw[he];exact hn) (by simp at hlen;omega)
theorem take_not {B:Nat} {S:RS} {w:World} (h:RdAt w B S) {t:RTok} (ht:S.T[S.k]?=some t) (n:Nat) (hs:S.f=true∨kindP t.text≠n) :
    Calls Tryz.prog 102 #[.pointer (some ⟨B,0,none⟩),.int .i64 n] w fun e w'=>e=.returned (.tuple #[])∧RdAt w' B { S with f:=true }∧KeepN B w w':=by
  obtain ⟨hk,rfl⟩:=cur_at ht
  exact take_no B S w h hk n hs
theorem binding_at {B:Nat} {S:RS} {w:World} (h:RdAt w B S) {t:RTok} (ht:S.T[S.k]?=some t) :
    Calls Tryz.prog 141 #[.pointer (some ⟨B,0,none⟩)] w fun e w'=>e=.returned (.int .i64 ((if S.f then 0 else bindK (kindP t.text):Nat):Int))∧Below w.heap.size w w':=by
  obtain ⟨hk,rfl⟩:=cur_at ht
  exact currentBinding_any B S w h hk
theorem RdAt.cur {w:World} {B:Nat} {S:RS} (h:RdAt w B S):∃ t,S.T[S.k]?=some t:=⟨_,List.getElem?_eq_getElem h.kt⟩
def OutE (P:Tr→List RTok→Prop) (B:Nat) (S:RS) (l:List RTok) (w w':World) (e:Ending):Prop :=
  KeepN B w w' ∧
  ((∃ t rest nv,GotO S.d l t rest∧P t rest∧RdAt w' B { S with k:=S.k+t.toks.length,nv:=nv,ns:=S.ns++t.flat S.ns.length }∧e=.returned (.int .i64 ((S.ns.length+t.num - 1:Nat):Int))) ∨
   (∃ j nv ns x,BadV S.d l j∧ns.length≤S.ns.length+j∧RdAt w' B { S with k:=S.k+j,f:=true,nv:=nv,ns:=ns }∧e=.returned (.int .i64 ((x:Nat):Int))))
structure RdW (w0 w:World) (B:Nat) (S:RS) (nb:Nat) (t:RTok):Prop where
  rd:RdAt w B S
  tk:Blk w nb #[.int .i64 (kindP t.text),.int .i64 t.at',.string (bsOf t.text)] 101
  ne:nb≠B
  kp:KeepN B w0 w
theorem RdW.step {w0 w w':World} {B nb:Nat} {S S':RS} {t:RTok} (h:RdW w0 w B S nb t) (hr:RdAt w' B S') (hk:KeepN B w w'):RdW w0 w' B S' nb t :=
  ⟨hr,h.tk.keepN hk h.ne (by decide),h.ne,h.kp.trans hk⟩
theorem RdW.start {w w1:World} {B:Nat} {S:RS} (h:RdAt w1 B S) (hb:Below w.heap.size w w1) (t:RTok):RdW w (w1.alloc (.cells #[.int .i64 (kindP t.text),.int .i64 t.at',.string (bsOf t.text)] 101)) B S w1.heap.size t :=
  ⟨h.alloc _,Blk.new _ _ _,by have:=h.blk.lt;omega,(KeepN.of hb).trans (KeepN.of (new_below _ _))⟩
theorem RdW.cells {w0 w:World} {B nb:Nat} {S:RS} {t:RTok} (h:RdW w0 w B S nb t):w.cell? ⟨nb,0,none⟩=some (.int .i64 (kindP t.text))∧w.cell? ⟨nb,1,none⟩=some (.int .i64 t.at')∧w.cell? ⟨nb,2,none⟩=some (.string (bsOf t.text))∧w.cell? ⟨B,2,none⟩=some (.int .i64 S.d)∧w.cell? ⟨B,3,none⟩=some (.bool S.f)∧w.frozen? ⟨B,3,none⟩=false :=
  ⟨h.tk.cell 0,h.tk.cell 1,h.tk.cell 2,h.rd.blk.cell 2,h.rd.blk.cell 3,h.rd.blk.free 3⟩
set_option maxHeartbeats 1000000 in
theorem operand_failed {B:Nat} {S:RS} {w:World} (h:RdAt w B S) (hf:S.f=true) :
    Calls Tryz.prog 140 #[.pointer (some ⟨B,0,none⟩)] w fun e w'=>e=.returned (.int .i64 0)∧Below w.heap.size w w':=by
  obtain ⟨t,ht⟩:=h.cur
  have HR:=hideP h
  have HT:=hideP ht
  have hB:=h.blk.lt
  have HF:=hideP hf
  clear h ht hf
  go_enter Tryz.func140,Tryz.ntmps140
  go_wp2_with (go_at_call 43;refine (current_at HR.out HT.out).mono ?_;rintro e w1 ⟨rfl,hb1⟩;unfold tokA;have hB1:=(HR.out.below hb1).blk.lt;have c3:=(HR.out.below hb1).blk.cell 3;simp only[List.getElem?_toArray,List.getElem?_cons_zero,List.getElem?_cons_succ] at c3;rw[HF.out] at c3)
  go_ret
  exact ⟨rfl,hb1.alloc (by have:=hb1.size;omega) _⟩
set_option maxHeartbeats 1000000 in
theorem binding_failed {B:Nat} {S:RS} {w:World} (h:RdAt w B S) (hf:S.f=true) (n:Nat) :
    Calls Tryz.prog 122 #[.pointer (some ⟨B,0,none⟩),.int .i64 n] w fun e w'=>e=.returned (.int .i64 0)∧Below w.heap.size w w':=by
  obtain ⟨t,ht⟩:=h.cur
  have HR:=hideP h
  have HT:=hideP ht
  have hB:=h.blk.lt
  have HF:=hideP hf
  clear h ht hf
  go_enter Tryz.func122,Tryz.ntmps122
  go_wp2_with (first | (go_at_call 140;refine (operand_failed HR.out HF.out).mono ?_;rintro e w1 ⟨rfl,hb1⟩;replace HR:=hideP (HR.out.below hb1)) | (go_at_call 141;refine (binding_at HR.out HT.out).mono ?_;rintro e w2 ⟨rfl,hb2⟩;rw[HF.out];simp only[if_true];replace HR:=hideP (HR.out.below hb2)))
  go_loopw [5,6] (fun vl vb wr=>vl=.int .i64 0∧vb=.int .i64 0∧Below w.heap.size w wr) (fun _ _ _=>0)
  case atStart=>exact ⟨rfl,rfl,hb1.trans (hb2.mono hb1.size)⟩
  case round =>
    obtain ⟨rfl,rfl,hbw⟩:=hrel
    go_wp2
    go_ret
    exact ⟨rfl,hbw⟩
end Go.Proofs.YtpcjadaeolkngaaGreatDoor
