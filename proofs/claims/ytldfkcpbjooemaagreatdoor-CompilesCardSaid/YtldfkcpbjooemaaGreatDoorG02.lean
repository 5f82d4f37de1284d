/-
  The document's Tokened, called in any world: the tokens of a text that is a policy, or the error and its place.
-/
import Derived.Test.YtldfkcpbjooemaaGreatDoorG01
import Derived.Deep.Trees
set_option linter.unusedVariables false
set_option linter.unusedSimpArgs false
namespace Go.Proofs.YtldfkcpbjooemaaGreatDoor
open Go.RowKit
theorem cellsR_get:∀ (l:List RTok) (k:Nat) (h:k < l.length),(cellsR l)[k * 2]?=some (.string (bsOf l[k].text))∧(cellsR l)[k * 2+1]?=some (.int .i64 l[k].at')
  | a :: r,0,_=>⟨rfl,rfl⟩
  | a :: r,k+1,h=>by
    have:=cellsR_get r k (by simpa using h)
    have e:cellsR (a :: r)=.string (bsOf a.text) :: .int .i64 a.at' :: cellsR r:=rfl
    rw[e,show (k+1) * 2=k * 2+2 by omega,show k * 2+2+1=(k * 2+1)+2 by omega]
    simpa using this
theorem tokened_err {s:ByteArray} (hs:s.size≤400) {p:Nat} (h:toksR s.toList 0=.error p):tokened s.toList=.bad 2 p:=by
  unfold tokened;rw[toList_length,if_neg (by omega),h]
theorem tokened_syn {s:ByteArray} (hs:s.size≤400) {l:List RTok} (h:toksR s.toList 0=.ok l) {p:Nat} (hg:goS ⟨0,0,0⟩ l=.error p):tokened s.toList=.bad 3 p:=by
  unfold tokened;rw[toList_length,if_neg (by omega),h];simp only[hg]
theorem tokened_end {s:ByteArray} (hs:s.size≤400) {l:List RTok} (h:toksR s.toList 0=.ok l) {q:Spot} (hg:goS ⟨0,0,0⟩ l=.ok q) (hq:q.next≠6):tokened s.toList=.bad 3 s.size:=by
  unfold tokened;rw[toList_length,if_neg (by omega),h];simp only[hg,if_neg hq]
theorem fine_tokened {s:ByteArray} (hs:s.size≤400) {l:List RTok} (h:toksR s.toList 0=.ok l) {q:Spot} (hg:goS ⟨0,0,0⟩ l=.ok q) (hq:q.next=6):tokened s.toList=.fine l:=by
  unfold tokened;rw[toList_length,if_neg (by omega),h];simp only[hg,if_pos hq]
def TokedRel (l:List RTok) (sb:Nat) (W:World) (i:Value) (wr:World):Prop :=
  ∃ (k:Nat) (q:Spot),k≤l.length∧i=.int .i64 k∧SpotAt wr sb q∧q.opn≤8∧q.expr≤2∧q.next≤6∧Below sb W wr∧goS ⟨0,0,0⟩ l=goS q (l.drop k)
set_option maxHeartbeats 1000000 in
theorem Tokened_any (s:ByteArray) (w:World) :
    Calls Tryz.prog 27 #[.string s] w fun e w'=>Below w.heap.size w w' ∧
      ((∃ l v,tokened s.toList=.fine l∧l.length≤400∧e=.returned (.tuple #[v,.int .i64 0,.int .i64 0])∧w'.ownsRow w.heap.size 77 2 v l.length (cellsR l)) ∨
       (∃ c p,tokened s.toList=.bad c p∧e=.returned (.tuple #[.slice none 0 0,.int .i64 c,.int .i64 p]))):=by
  by_cases hs:s.size≤400
  · go_enter Tryz.func27,Tryz.ntmps27
    go_wp2_with (go_at_call 58;refine (Tokens_any s hs _).mono ?_;rintro e w1 ⟨hb1,⟨l,v,htk,hl4,rfl,hown⟩ | ⟨p,htk,rfl⟩⟩)
    · have HT:Hid (toksR s.toList 0=.ok l):=htk
      have hne:=toks_nonempty htk
      clear htk
      have hbs:=hb1.size
      have HW:Hid (w1.ownsRow w.heap.size 77 2 v l.length (cellsR l)):=hown
      have hrd:=reads_of_own hown
      clear hown
      rcases hrd with ⟨rfl,hn,hx⟩ | ⟨g,o,cap,rfl,_,hlt,hc⟩
      · have hl0:l=[]:=List.eq_nil_of_length_eq_zero hn
        subst hl0
        refine wp_loop_rounds 1 ?_;rw[rounds_succ]
        go_wp2
        go_ret3
        exact ⟨hb1.alloc hbs _,.inr ⟨3,s.size,tokened_end hs HT.out (q:=⟨0,0,0⟩) rfl (by decide),rfl⟩⟩
      · have hsp0:SpotAt (w1.alloc (.cells (spotCells ⟨0,0,0⟩) 121)) w1.heap.size ⟨0,0,0⟩:=Blk.new _ _ _
        have hbW:Below w.heap.size w (w1.alloc (.cells (spotCells ⟨0,0,0⟩) 121)):=hb1.alloc hbs _
        have hc2:∀ j u,(cellsR l)[j]?=some u→(w1.alloc (.cells (spotCells ⟨0,0,0⟩) 121)).cell? ⟨g,o+j,none⟩=some u:=fun j u hj=>(((Below.refl _ w1).alloc (Nat.le_refl _) _).cell (p:=⟨g,o+j,none⟩) hlt).trans (hc j u hj)
        clear hc
        go_loopw [8] (fun i wr=>TokedRel l w1.heap.size (w1.alloc (.cells (spotCells ⟨0,0,0⟩) 121)) i wr) (fun i _=>l.length - (intOf i).toNat)
        case atStart=>exact ⟨0,⟨0,0,0⟩,Nat.zero_le _,rfl,hsp0,by decide,by decide,by decide,Below.refl _ _,rfl⟩
        case round =>
          obtain ⟨k,q,hk,rfl,hsp,hq1,hq2,hq3,hbr,hgo⟩:=hrel
          have HG:Hid (goS ⟨0,0,0⟩ l=goS q (l.drop k)):=hgo
          clear hgo
          by_cases hkl:k < l.length
          · have hcell:=cellsR_get l k hkl
            have c0:wr.cell? ⟨g,o+k * 2,none⟩=some (.string (bsOf l[k].text)):=(hbr.cell (p:=⟨g,o+k * 2,none⟩) hlt).trans (hc2 _ _ hcell.1)
            have c1:wr.cell? ⟨g,o+k * 2+1,none⟩=some (.int .i64 l[k].at'):=(hbr.cell (p:=⟨g,o+k * 2+1,none⟩) hlt).trans (hc2 _ _ hcell.2)
            have hz:Hid (0 < (bsOf l[k].text).size):=(by rw[bsOf_size];exact List.length_pos_iff.2 (hne _ (List.getElem_mem hkl)):0 < (bsOf l[k].text).size)
            clear hcell
            have hst:Hid (goS ⟨0,0,0⟩ l=if (stepS q l[k].text).2 then goS (stepS q l[k].text).1 (l.drop (k+1)) else .error l[k].at'):=(by rw[HG.out,List.drop_eq_getElem_cons hkl];rfl:goS ⟨0,0,0⟩ l=_)
            cases hr:(stepS q l[k].text).2
            · go_wp2_with (go_at_call 59;refine (step_any _ q _ hz.out hq1 hq2 hq3 _ hsp).mono ?_;rintro e w2 ⟨rfl,hs2,hb2⟩;simp only[bsOf_toList] at hs2 ⊢;have c2:=(hb2.cell (p:=⟨g,o+k * 2+1,none⟩) hlt).trans c1)
              go_quiet (fail)
              go_wp2
              go_ret3
              refine ⟨?_,.inr ⟨3,l[k].at',tokened_syn hs HT.out ?_,rfl⟩⟩
              · exact below_drewN ((hbW.trans (hbr.mono hbs)).trans (hb2.mono hbs)) _
              · rw[hst.out];simp[hr]
            · have HRr:Hid ((stepS q l[k].text).2=true):=hr
              go_wp2_with (go_at_call 59;refine (step_any _ q _ hz.out hq1 hq2 hq3 _ hsp).mono ?_;rintro e w2 ⟨rfl,hs2,hb2⟩;simp only[bsOf_toList] at hs2 ⊢)
              go_roundw
              case rel=>exact ⟨k+1,(stepS q l[k].text).1,by omega,by go_num,hs2,stepS_open q _ hq1 HRr.out,stepS_expr q _ hq2,stepS_next q _ hq3,hbr.trans hb2,by rw[hst.out,if_pos HRr.out]⟩
              case measure=>simp[intOf];omega
          · have HP:Hid (SpotAt wr w1.heap.size q):=hsp
            have c0:=hsp.facts.1.1
            clear hsp
            have hgo2:Hid (goS ⟨0,0,0⟩ l=.ok q):=(by rw[HG.out,List.drop_eq_nil_of_le (by omega)];rfl:goS ⟨0,0,0⟩ l=.ok q)
            by_cases h6:q.next=6
            · rw[h6] at c0
              go_wp2
              go_ret3
              exact ⟨hbW.trans (hbr.mono hbs),.inl ⟨l,_,fine_tokened hs HT.out hgo2.out h6,hl4,rfl,own_belowB (own_below HW.out ((Below.refl _ w1).alloc (Nat.le_refl _) _)) hbr (by intro k hk;simp[Value.ownBlock] at hk;omega)⟩⟩
            · go_wp2
              go_ret3
              exact ⟨hbW.trans (hbr.mono hbs),.inr ⟨3,s.size,tokened_end hs HT.out hgo2.out h6,rfl⟩⟩
    · go_ret3
      exact ⟨hb1,.inr ⟨2,p,tokened_err hs htk,rfl⟩⟩
  · have hT:tokened s.toList=.bad 1 0:=by unfold tokened;rw[toList_length,if_pos (by omega)]
    go_enter Tryz.func27,Tryz.ntmps27
    go_wp2
    go_ret3
    exact ⟨Below.refl _ _,.inr ⟨1,0,hT,rfl⟩⟩
end Go.Proofs.YtldfkcpbjooemaaGreatDoor
namespace Go.Proofs.YtldfkcpbjooemaaGreatDoor
open Go.Deep
def cNeq:Txt:=[33,61]
def cLess:Txt:=[60]
def cMost:Txt:=[60,61]
def cPlus:Txt:=[43]
def cTimes:Txt:=[42]
def cDiv:Txt:=[47]
def cMod:Txt:=[37]
def bindsT (t:Txt):Nat :=
 if t==cOr then 1
 else if t==cAnd then 2
 else if t==cEq||t==cNeq||t==cLess||t==cMost then 3
 else if t==cPlus||t==cMinus then 4
 else if t==cTimes||t==cDiv||t==cMod then 5
 else 0
theorem bindsT_le (t:Txt):bindsT t≤5:=by
 unfold bindsT
 split
 ·omega
 ·split
  ·omega
  ·split
   ·omega
   ·split
    ·omega
    ·split <;> omega
theorem joint_binds (t:Txt):jointT t=true ↔ 0 < bindsT t:=by
 unfold jointT tJoint bindsT cOr cAnd cEq cNeq cLess cMost cPlus cMinus cTimes cDiv cMod
 simp only[List.contains_cons,List.contains_nil,Bool.or_false,Bool.or_eq_true,beq_iff_eq]
 constructor
 ·rintro (rfl | rfl | rfl | rfl | rfl | rfl | rfl | rfl | rfl | rfl | rfl) <;> decide
 ·intro h
  refine Decidable.byContradiction fun hn=>?_
  simp only[not_or] at hn
  obtain ⟨n1,n2,n3,n4,n5,n6,n7,n8,n9,n10,n11⟩:=hn
  simp[n1,n2,n3,n4,n5,n6,n7,n8,n9,n10,n11] at h
def Tr:Type:=BT (RTok × RTok)
def Tr.leaf (t:RTok):Tr:=BT.node 0 0 (t,t) .nil .nil
def Tr.un (op:RTok) (e:Tr):Tr:=BT.node 1 0 (op,op) e .nil
def Tr.bin (op:RTok) (l r:Tr):Tr:=BT.node 2 0 (op,op) l r
def Tr.par (o:RTok) (e:Tr) (c:RTok):Tr:=BT.node 3 0 (o,c) e .nil
def toksB:BT (RTok × RTok)→List RTok
 | .nil=>[⟨[],0⟩]
 | .node 0 _ a _ _=>[a.1]
 | .node 1 _ a e _=>a.1 :: toksB e
 | .node 2 _ a l r=>toksB l++a.1 :: toksB r
 | .node _ _ a e _=>a.1 :: (toksB e++[a.2])
def Tr.toks (t:Tr):List RTok:=toksB t
def levelB:BT (RTok × RTok)→Nat
 | .node 2 _ a _ _=>bindsT a.1.text
 | _=>6
def Tr.level (t:Tr):Nat:=levelB t
theorem Tr.toks_leaf (t:RTok):(Tr.leaf t).toks=[t]:=rfl
theorem Tr.toks_un (op:RTok) (e:Tr):(Tr.un op e).toks=op :: e.toks:=rfl
theorem Tr.toks_bin (op:RTok) (l r:Tr):(Tr.bin op l r).toks=l.toks++op :: r.toks:=rfl
theorem Tr.toks_par (o:RTok) (e:Tr) (c:RTok):(Tr.par o e c).toks=o :: (e.toks++[c]):=rfl
theorem Tr.level_bin (op:RTok) (l r:Tr):(Tr.bin op l r).level=bindsT op.text:=rfl
theorem Tr.level_leaf (t:RTok):(Tr.leaf t).level=6:=rfl
def singleT (t:Txt):Bool:=leafT t||nameT t||isDig (headC t)
def unT (t:Txt):Bool:=t==cMinus||t==cNot
def wfB:BT (RTok × RTok)→Prop
 | .nil=>False
 | .node 0 o a l r=>(o=0∧a.2=a.1∧l=.nil∧r=.nil)∧singleT a.1.text=true∧a.1.text≠cOpen∧a.1.text≠cClose∧unT a.1.text=false∧bindsT a.1.text=0
 | .node 1 o a e r=>(o=0∧a.2=a.1∧r=.nil)∧unT a.1.text=true∧levelB e=6∧wfB e
 | .node 2 o a l r=>(o=0∧a.2=a.1)∧0 < bindsT a.1.text∧a.1.text≠cOpen∧a.1.text≠cClose∧bindsT a.1.text≤levelB l∧bindsT a.1.text < levelB r∧wfB l∧wfB r
 | .node 3 o a e r=>(o=0∧r=.nil)∧a.1.text=cOpen∧a.2.text=cClose∧wfB e
 | .node (_+4) _ _ _ _=>False
def Tr.wf (t:Tr):Prop:=wfB t
theorem Tr.wf_leaf {t:RTok} (h:(Tr.leaf t).wf):singleT t.text=true∧t.text≠cOpen∧t.text≠cClose∧unT t.text=false∧bindsT t.text=0:=h.2
theorem Tr.wf_un {op:RTok} {e:Tr} (h:(Tr.un op e).wf):unT op.text=true∧e.level=6∧e.wf:=h.2
theorem Tr.wf_bin {op:RTok} {l r:Tr} (h:(Tr.bin op l r).wf):0 < bindsT op.text∧op.text≠cOpen∧op.text≠cClose∧bindsT op.text≤l.level∧bindsT op.text < r.level∧l.wf∧r.wf:=h.2
theorem Tr.wf_par {o c:RTok} {e:Tr} (h:(Tr.par o e c).wf):o.text=cOpen∧c.text=cClose∧e.wf:=h.2
theorem indB {P:Tr→Prop} (h1:∀ t,(Tr.leaf t).wf→P (.leaf t)) (h2:∀ op e,(Tr.un op e).wf→P e→P (.un op e)) (h3:∀ op l r,(Tr.bin op l r).wf→P l→P r→P (.bin op l r)) (h4:∀ o e c,(Tr.par o e c).wf→P e→P (.par o e c)) :
  ∀ t:BT (RTok × RTok),wfB t→P t
 | .nil,h=>h.elim
 | .node 0 o a l r,h=>by
  obtain ⟨a1,a2⟩:=a
  have hh:=h
  obtain ⟨⟨rfl,e,rfl,rfl⟩,_⟩:=h
  simp only at e
  subst e
  exact h1 _ hh
 | .node 1 o a e r,h=>by
  obtain ⟨a1,a2⟩:=a
  have hh:=h
  obtain ⟨⟨rfl,e',rfl⟩,_,_,he⟩:=h
  simp only at e'
  subst e'
  exact h2 _ _ hh (indB h1 h2 h3 h4 e he)
 | .node 2 o a l r,h=>by
  obtain ⟨a1,a2⟩:=a
  have hh:=h
  obtain ⟨⟨rfl,e'⟩,_,_,_,_,_,hl,hr⟩:=h
  simp only at e'
  subst e'
  exact h3 _ _ _ hh (indB h1 h2 h3 h4 l hl) (indB h1 h2 h3 h4 r hr)
 | .node 3 o a e r,h=>by
  obtain ⟨a1,a2⟩:=a
  have hh:=h
  obtain ⟨⟨rfl,rfl⟩,_,_,he⟩:=h
  exact h4 _ _ _ hh (indB h1 h2 h3 h4 e he)
 | .node (_+4) _ _ _ _,h=>h.elim
theorem Tr.ind {P:Tr→Prop} (t:Tr) (h:t.wf) (h1:∀ t,(Tr.leaf t).wf→P (.leaf t)) (h2:∀ op e,(Tr.un op e).wf→P e→P (.un op e)) (h3:∀ op l r,(Tr.bin op l r).wf→P l→P r→P (.bin op l r)) (h4:∀ o e c,(Tr.par o e c).wf→P e→P (.par o e c)):P t:=indB h1 h2 h3 h4 t h
theorem Tr.cases (t:Tr) (h:t.wf):(∃ a,t=.leaf a)∨(∃ op e,t=.un op e)∨(∃ op l r,t=.bin op l r)∨(∃ o e c,t=.par o e c) :=
 Tr.ind (P:=fun t=>(∃ a,t=.leaf a)∨(∃ op e,t=.un op e)∨(∃ op l r,t=.bin op l r)∨(∃ o e c,t=.par o e c)) t h (fun a _=>.inl ⟨a,rfl⟩) (fun op e _ _=>.inr (.inl ⟨op,e,rfl⟩)) (fun op l r _ _ _=>.inr (.inr (.inl ⟨op,l,r,rfl⟩))) (fun o e c _ _=>.inr (.inr (.inr ⟨o,e,c,rfl⟩)))
theorem levelB_le:∀ t:BT (RTok × RTok),levelB t≤6
 | .nil=>Nat.le_refl _
 | .node 0 _ _ _ _=>Nat.le_refl _
 | .node 1 _ _ _ _=>Nat.le_refl _
 | .node 2 _ a _ _=>by have:=bindsT_le a.1.text;simp only[levelB];omega
 | .node (_+3) _ _ _ _=>Nat.le_refl _
theorem toksB_pos:∀ t:BT (RTok × RTok),1≤(toksB t).length
 | .nil=>by simp[toksB]
 | .node 0 _ _ _ _=>by simp[toksB]
 | .node 1 _ _ _ _=>by simp[toksB]
 | .node 2 _ _ _ _=>by simp[toksB];omega
 | .node (_+3) _ _ _ _=>by simp[toksB]
theorem Tr.toks_pos (t:Tr):1≤t.toks.length:=toksB_pos t
def rootGo:Nat→Int→Nat→Int→Bool→List RTok→Int
 | _,best,_,_,_,[]=>best
 | i,best,bb,op,wants,t :: r =>
  if t.text==cOpen then rootGo (i+1) best bb (op+1) true r
  else if t.text==cClose then rootGo (i+1) best bb (op - 1) false r
  else if wants&&unT t.text then rootGo (i+1) best bb op wants r
  else if 0 < bindsT t.text then
   (if op=0∧(best < 0∨bindsT t.text≤bb) then rootGo (i+1) i (bindsT t.text) op true r else rootGo (i+1) best bb op true r)
  else rootGo (i+1) best bb op false r
def rootR (l:List RTok):Int:=rootGo 0 (-1) 0 0 true l
def updB:BT (RTok × RTok)→Nat→Int × Nat→Int × Nat
 | .node 2 _ a l r,i,b =>
  updB r (i+(toksB l).length+1) (if (updB l i b).1 < 0∨bindsT a.1.text≤(updB l i b).2 then ((i+(toksB l).length:Nat),bindsT a.1.text) else updB l i b)
 | _,_,b=>b
def Tr.upd (t:Tr) (i:Nat) (b:Int × Nat):Int × Nat:=updB t i b
theorem Tr.upd_leaf (t:RTok) (i:Nat) (b:Int × Nat):(Tr.leaf t).upd i b=b:=rfl
theorem Tr.upd_un (op:RTok) (e:Tr) (i:Nat) (b:Int × Nat):(Tr.un op e).upd i b=b:=rfl
theorem Tr.upd_par (o:RTok) (e:Tr) (c:RTok) (i:Nat) (b:Int × Nat):(Tr.par o e c).upd i b=b:=rfl
theorem Tr.upd_bin (op:RTok) (l r:Tr) (i:Nat) (b:Int × Nat):(Tr.bin op l r).upd i b=r.upd (i+l.toks.length+1) (if (l.upd i b).1 < 0∨bindsT op.text≤(l.upd i b).2 then ((i+l.toks.length:Nat),bindsT op.text) else l.upd i b):=rfl
theorem scan_in (t:Tr) (h:t.wf):∀ (i:Nat) (best:Int) (bb:Nat) (op:Int) (r:List RTok),0 < op →
  rootGo i best bb op true (t.toks++r)=rootGo (i+t.toks.length) best bb op false r:=by
 refine Tr.ind (P:=fun t=>∀ (i:Nat) (best:Int) (bb:Nat) (op:Int) (r:List RTok),0 < op→rootGo i best bb op true (t.toks++r)=rootGo (i+t.toks.length) best bb op false r) t h ?_ ?_ ?_ ?_
 ·intro t h i best bb op r hop
  obtain ⟨h1,h2,h3,h4,h5⟩:=Tr.wf_leaf h
  simp[Tr.toks_leaf,rootGo,h2,h3,h4,h5]
 ·intro o e h ih i best bb op r hop
  obtain ⟨h1,h2,h3⟩:=Tr.wf_un h
  have ho:o.text≠cOpen∧o.text≠cClose:=by
   unfold unT at h1
   simp at h1
   rcases h1 with h1 | h1 <;> rw[h1] <;> decide
  simp only[Tr.toks_un,List.cons_append,rootGo,h1,Bool.and_self,List.length_cons]
  rw[if_neg (by simpa using ho.1),if_neg (by simpa using ho.2),if_pos trivial,ih _ _ _ _ _ hop]
  congr 1;omega
 ·intro o l r h ihl ihr i best bb op rest hop
  obtain ⟨h1,h2,h3,h4,h5,h6,h7⟩:=Tr.wf_bin h
  simp only[Tr.toks_bin,List.append_assoc,List.cons_append,List.length_append,List.length_cons]
  rw[ihl _ _ _ _ _ hop]
  simp only[rootGo]
  rw[if_neg (by simpa using h2),if_neg (by simpa using h3),if_neg (by simp),if_pos h1,if_neg (by omega),ihr _ _ _ _ _ hop]
  congr 1;omega
 ·intro o e c h ih i best bb op r hop
  obtain ⟨h1,h2,h3⟩:=Tr.wf_par h
  simp only[Tr.toks_par,List.cons_append,List.append_assoc,List.nil_append,rootGo,h1,beq_self_eq_true,if_true]
  rw[ih _ _ _ _ _ (by omega)]
  simp only[rootGo,h2]
  rw[if_neg (by decide),if_pos (by decide)]
  simp only[List.length_cons,List.length_append,List.length_nil]
  congr 1 <;> omega
theorem upd_unit (e:Tr) (h:e.wf) (hl:e.level=6) (j:Nat) (b:Int × Nat):e.upd j b=b:=by
 rcases e.cases h with ⟨a,rfl⟩ | ⟨op,e,rfl⟩ | ⟨op,l,r,rfl⟩ | ⟨o,e,c,rfl⟩
 ·rfl
 ·rfl
 ·rw[Tr.level_bin] at hl;have:=bindsT_le op.text;omega
 ·rfl
theorem scan_at (t:Tr) (h:t.wf):∀ (i:Nat) (best:Int) (bb:Nat) (r:List RTok),
  rootGo i best bb 0 true (t.toks++r)=rootGo (i+t.toks.length) (t.upd i (best,bb)).1 (t.upd i (best,bb)).2 0 false r:=by
 refine Tr.ind (P:=fun t=>∀ (i:Nat) (best:Int) (bb:Nat) (r:List RTok),rootGo i best bb 0 true (t.toks++r)=rootGo (i+t.toks.length) (t.upd i (best,bb)).1 (t.upd i (best,bb)).2 0 false r) t h ?_ ?_ ?_ ?_
 ·intro t h i best bb r
  obtain ⟨h1,h2,h3,h4,h5⟩:=Tr.wf_leaf h
  simp[Tr.toks_leaf,rootGo,h2,h3,h4,h5,Tr.upd_leaf]
 ·intro o e h ih i best bb r
  obtain ⟨h1,h2,h3⟩:=Tr.wf_un h
  have ho:o.text≠cOpen∧o.text≠cClose:=by
   unfold unT at h1
   simp at h1
   rcases h1 with h1 | h1 <;> rw[h1] <;> decide
  simp only[Tr.toks_un,List.cons_append,rootGo,h1,Bool.and_self,List.length_cons]
  rw[if_neg (by simpa using ho.1),if_neg (by simpa using ho.2),if_pos trivial,ih _ _ _ _,upd_unit e h3 h2,Tr.upd_un]
  congr 1;omega
 ·intro o l r h ihl ihr i best bb rest
  obtain ⟨h1,h2,h3,h4,h5,h6,h7⟩:=Tr.wf_bin h
  simp only[Tr.toks_bin,List.append_assoc,List.cons_append,List.length_append,List.length_cons]
  rw[ihl]
  simp only[rootGo]
  rw[if_neg (by simpa using h2),if_neg (by simpa using h3),if_neg (by simp),if_pos h1]
  simp only[Tr.upd_bin,true_and]
  split
  ·rw[ihr];congr 1;omega
  ·rw[ihr];congr 1;omega
 ·intro o e c h ih i best bb r
  obtain ⟨h1,h2,h3⟩:=Tr.wf_par h
  simp only[Tr.toks_par,List.cons_append,List.append_assoc,List.nil_append,rootGo,h1,beq_self_eq_true,if_true]
  rw[scan_in e h3 _ _ _ _ _ (by omega)]
  simp only[rootGo,h2]
  rw[if_neg (by decide),if_pos (by decide)]
  simp only[List.length_cons,List.length_append,List.length_nil,Tr.upd_par]
  congr 1 <;> omega
theorem upd_keep (t:Tr) (h:t.wf):∀ (i:Nat) (best:Int) (bb:Nat),0≤best→bb < t.level→t.upd i (best,bb)=(best,bb):=by
 refine Tr.ind (P:=fun t=>∀ (i:Nat) (best:Int) (bb:Nat),0≤best→bb < t.level→t.upd i (best,bb)=(best,bb)) t h ?_ ?_ ?_ ?_
 ·intro t _ i best bb _ _;rfl
 ·intro o e _ _ i best bb _ _;rfl
 ·intro o l r h ihl ihr i best bb hb hlt
  obtain ⟨h1,h2,h3,h4,h5,h6,h7⟩:=Tr.wf_bin h
  rw[Tr.level_bin] at hlt
  rw[Tr.upd_bin,ihl i best bb hb (by omega),if_neg (by simp;omega),ihr _ _ _ hb (by omega)]
 ·intro o e c _ _ i best bb _ _;rfl
def isBinB:BT (RTok × RTok)→Bool
 | .node 2 _ _ _ _=>true
 | _=>false
def Tr.isBin (t:Tr):Bool:=isBinB t
theorem upd_bin_new (op:RTok) (l r:Tr) (h:(Tr.bin op l r).wf) (i:Nat):(Tr.bin op l r).upd i (-1,0)=(((i+l.toks.length:Nat):Int),bindsT op.text)∧True:=by
 refine ⟨?_,trivial⟩
 obtain ⟨h1,h2,h3,h4,h5,h6,h7⟩:=Tr.wf_bin h
 have key:∀ t:Tr,t.wf→∀ i,(t.upd i (-1,0)).1 < 0∨(t.upd i (-1,0)).2=t.level:=by
  intro t ht
  refine Tr.ind (P:=fun t=>∀ i,(t.upd i (-1,0)).1 < 0∨(t.upd i (-1,0)).2=t.level) t ht ?_ ?_ ?_ ?_
  ·intro t _ i;left;show (-1:Int) < 0;decide
  ·intro o e _ _ i;left;show (-1:Int) < 0;decide
  ·intro o l r h ihl _ i
   obtain ⟨g1,g2,g3,g4,g5,g6,g7⟩:=Tr.wf_bin h
   right
   rw[Tr.upd_bin,if_pos,upd_keep r g7 _ _ _ (by omega) g5]
   ·rfl
   ·rcases ihl i with h' | h'
    ·exact .inl h'
    ·right;rw[h'];exact g4
  ·intro o e c _ _ i;left;show (-1:Int) < 0;decide
 rw[Tr.upd_bin,if_pos,upd_keep r h7 _ _ _ (by omega) h5]
 rcases key l h6 i with h' | h'
 ·exact .inl h'
 ·right;rw[h'];exact h4
theorem root_bin (op:RTok) (l r:Tr) (h:(Tr.bin op l r).wf):rootR (Tr.bin op l r).toks=l.toks.length:=by
 have:=scan_at _ h 0 (-1) 0 []
 rw[List.append_nil] at this
 unfold rootR
 rw[this,rootGo,(upd_bin_new op l r h 0).1]
 simp
theorem root_none (t:Tr) (h:t.wf) (hb:t.isBin=false):rootR t.toks=-1:=by
 have:=scan_at _ h 0 (-1) 0 []
 rw[List.append_nil] at this
 unfold rootR
 rw[this,rootGo]
 rcases t.cases h with ⟨a,rfl⟩ | ⟨op,e,rfl⟩ | ⟨op,l,r,rfl⟩ | ⟨o,e,c,rfl⟩
 ·rfl
 ·rfl
 ·cases hb
 ·rfl
end Go.Proofs.YtldfkcpbjooemaaGreatDoor
namespace Go.Proofs.YtldfkcpbjooemaaGreatDoor
open Go.RowKit
set_option maxHeartbeats 1000000 in
theorem binds_any (t:ByteArray) (w:World) :
  Calls Tryz.prog 141 #[.string t] w fun e w'=>e=.returned (.int .i64 (bindsT t.toList))∧w'=w:=by
 go_enter Tryz.func141,Tryz.ntmps141
 go_wp2
 all_goals go_ret
 all_goals exact ⟨ret_int (by simp_all [bindsT,cOr,cAnd,cEq,cNeq,cLess,cMost,cPlus,cMinus,cTimes,cDiv,cMod]),rfl⟩
end Go.Proofs.YtldfkcpbjooemaaGreatDoor
namespace Go.Proofs.YtldfkcpbjooemaaGreatDoor
open Go.RowKit
def BestOk (l:List RTok) (k:Nat) (best:Int) (bb:Nat):Prop:=best=-1∨∃ m:Nat,∃ h:m < l.length,best=m∧m < k∧bindsT (l[m]).text=bb
def RootRel (l:List RTok) (sb so sw si:Value):Prop :=
 ∃ (k:Nat) (best:Int) (bb:Nat) (op:Int) (wants:Bool),k≤l.length∧si=.int .i64 k∧sb=.int .i64 best∧so=.int .i64 op∧sw=.bool wants∧BestOk l k best bb∧-(k:Int)≤op∧op≤k∧rootR l=rootGo k best bb op wants (l.drop k)
theorem BestOk.mono {l:List RTok} {k:Nat} {best:Int} {bb:Nat} (h:BestOk l k best bb):BestOk l (k+1) best bb:=by
 rcases h with h | ⟨m,hm,e,hk,hb⟩
 ·exact .inl h
 ·exact .inr ⟨m,hm,e,by omega,hb⟩
theorem rg_open {k:Nat} {best:Int} {bb:Nat} {op:Int} {wants:Bool} {t:RTok} {r:List RTok} (h:(t.text==cOpen)=true) :
  rootGo k best bb op wants (t :: r)=rootGo (k+1) best bb (op+1) true r:=by simp only[rootGo,h,if_true]
theorem rg_close {k:Nat} {best:Int} {bb:Nat} {op:Int} {wants:Bool} {t:RTok} {r:List RTok} (h:(t.text==cOpen)=false) (h2:(t.text==cClose)=true) :
  rootGo k best bb op wants (t :: r)=rootGo (k+1) best bb (op - 1) false r:=by simp[rootGo,h,h2]
theorem rg_un {k:Nat} {best:Int} {bb:Nat} {op:Int} {t:RTok} {r:List RTok} (h:(t.text==cOpen)=false) (h2:(t.text==cClose)=false) (h3:unT t.text=true) :
  rootGo k best bb op true (t :: r)=rootGo (k+1) best bb op true r:=by simp[rootGo,h,h2,h3]
theorem rg_op {k:Nat} {best:Int} {bb:Nat} {op:Int} {wants:Bool} {t:RTok} {r:List RTok} (h:(t.text==cOpen)=false) (h2:(t.text==cClose)=false) (h3:(wants&&unT t.text)=false) (h4:0 < bindsT t.text) (h5:op=0∧(best < 0∨bindsT t.text≤bb)) :
  rootGo k best bb op wants (t :: r)=rootGo (k+1) k (bindsT t.text) op true r:=by simp only[rootGo,h,h2,h3];rw[if_neg (by simp),if_neg (by simp),if_neg (by simp),if_pos h4,if_pos h5]
theorem rg_no {k:Nat} {best:Int} {bb:Nat} {op:Int} {wants:Bool} {t:RTok} {r:List RTok} (h:(t.text==cOpen)=false) (h2:(t.text==cClose)=false) (h3:(wants&&unT t.text)=false) (h4:0 < bindsT t.text) (h5:¬ (op=0∧(best < 0∨bindsT t.text≤bb))) :
  rootGo k best bb op wants (t :: r)=rootGo (k+1) best bb op true r:=by simp only[rootGo,h,h2,h3];rw[if_neg (by simp),if_neg (by simp),if_neg (by simp),if_pos h4,if_neg h5]
theorem rg_leaf {k:Nat} {best:Int} {bb:Nat} {op:Int} {wants:Bool} {t:RTok} {r:List RTok} (h:(t.text==cOpen)=false) (h2:(t.text==cClose)=false) (h3:(wants&&unT t.text)=false) (h4:bindsT t.text=0) :
  rootGo k best bb op wants (t :: r)=rootGo (k+1) best bb op false r:=by simp only[rootGo,h,h2,h3,h4];simp
set_option maxHeartbeats 2000000 in
set_option maxRecDepth 10000 in
theorem root_any (l:List RTok) (v:Value) (w:World) (hl:0 < l.length) (hl4:l.length≤400) (hv:Reads w v l.length (cellsR l)) :
  Calls Tryz.prog 101 #[v] w fun e w'=>e=.returned (.int .i64 (rootR l))∧w'=w:=by
 rcases hv with ⟨_,hn,_⟩ | ⟨g,o,cap,rfl,_,hlt,hc⟩
 ·omega
 go_enter Tryz.func101,Tryz.ntmps101
 go_wp2
 go_loop [3,4,5,6] (fun sb so sw si=>RootRel l sb so sw si) (fun _ _ _ i=>l.length - (intOf i).toNat)
 case atStart=>exact ⟨0,-1,0,0,true,Nat.zero_le _,rfl,rfl,rfl,rfl,.inl rfl,by omega,by omega,rfl⟩
 case round =>
  obtain ⟨k,best,bb,op,wants,hk,rfl,rfl,rfl,rfl,hbest,ho1,ho2,hroot⟩:=hrel
  by_cases hkl:k < l.length
  ·have hcell:w.cell? ⟨g,o+k * 2,none⟩=some (.string (bsOf l[k].text)):=hc _ _ (cellsR_get l k hkl).1
   have HR:Hid (rootR l=rootGo k best bb op wants (l[k] :: l.drop (k+1))):=(by rw[hroot,List.drop_eq_getElem_cons hkl]:rootR l=_)
   have HB:Hid (BestOk l k best bb):=hbest
   have HC:Hid (∀ j u,(cellsR l)[j]?=some u→w.cell? ⟨g,o+j,none⟩=some u):=hc
   clear hroot hbest hc
   obtain ⟨c,hc⟩:∃ c,c=bsOf l[k].text:=⟨_,rfl⟩
   rw[← hc] at hcell
   have ht:c.toList=l[k].text:=by rw[hc,bsOf_toList]
   clear hc
   have hbt:=bindsT_le c.toList
   have HT:Hid (l[k].text=c.toList):=ht.symm
   clear ht
   have hb1:Hid (∀ x,(c.toList==x)=(l[k].text==x)):=(by rw[HT.out];exact fun _=>rfl:∀ x,(c.toList==x)=(l[k].text==x))
   cases h1:(c.toList==[40])
   ·have g1:Hid ((l[k].text==cOpen)=false):=(by rw[← hb1.out];exact h1:(l[k].text==cOpen)=false)
    cases h2:(c.toList==[41])
    ·have g2:Hid ((l[k].text==cClose)=false):=(by rw[← hb1.out];exact h2:(l[k].text==cClose)=false)
     have hun:Hid ((unT l[k].text)=((c.toList==[45])||(c.toList==[110,111,116]))):=(by rw[HT.out];rfl:unT l[k].text=((c.toList==[45])||(c.toList==[110,111,116])))
     have hbin:Hid (bindsT l[k].text=bindsT c.toList):=(by rw[HT.out]:bindsT l[k].text=bindsT c.toList)
     have fin:∀ (x y:Bool),(c.toList==[45])=x→(c.toList==[110,111,116])=y→wants=false∨(wants=true∧x=false∧y=false)→(wants&&unT l[k].text)=false:=by
      intro x y hx hy h
      rw[hun.out,hx,hy]
      rcases h with h | ⟨_,h,h'⟩
      ·simp[h]
      ·simp[h,h']
     have FIN:Hid _:=fin
     clear fin
     have main:∀ (x y:Bool),(c.toList==[45])=x→(c.toList==[110,111,116])=y→(wants=false∨(wants=true∧x=false∧y=false))∨(wants=true∧(x=true∨(x=false∧y=true))):=by
      intro x y _ _
      cases wants <;> cases x <;> cases y <;> simp
     rcases main _ _ rfl rfl with hw | ⟨rfl,hw⟩
     ·have F3:Hid ((wants&&unT l[k].text)=false):=FIN.out _ _ rfl rfl hw
      clear FIN
      rcases hw with rfl | ⟨rfl,h3,h4⟩
      all_goals
       by_cases hb0:bindsT c.toList=0
       ·go_wp2_with (go_at_call 141;refine (binds_any _ _).mono ?_;rintro e _ ⟨rfl,rfl⟩)
        go_round
        case rel=>exact ⟨k+1,best,bb,op,false,by omega,by go_num,rfl,rfl,rfl,HB.out.mono,by omega,by omega,by rw[HR.out];exact rg_leaf g1.out g2.out F3.out (by rw[hbin.out];exact hb0)⟩
        case measure=>simp[intOf];omega
       ·have hbp:0 < bindsT c.toList:=by omega
        have hbp':(0:Int) < bindsT c.toList:=by omega
        by_cases hop:op=0
        ·subst hop
         rcases HB.out with rfl | ⟨m,hm,rfl,hmk,hmb⟩
         ·go_wp2_with (go_at_call 141;refine (binds_any _ _).mono ?_;rintro e _ ⟨rfl,rfl⟩)
          go_round
          case rel=>exact ⟨k+1,k,bindsT c.toList,0,true,by omega,by go_num,rfl,rfl,rfl,.inr ⟨k,hkl,rfl,by omega,hbin.out⟩,by omega,by omega,by rw[HR.out,← hbin.out];exact rg_op g1.out g2.out F3.out (by rw[hbin.out];exact hbp) ⟨rfl,.inl (by decide)⟩⟩
          case measure=>simp[intOf];omega
         ·have cm:w.cell? ⟨g,o+m * 2,none⟩=some (.string (bsOf l[m].text)):=HC.out _ _ (cellsR_get l m hm).1
          have hbm:bindsT (bsOf l[m].text).toList=bb:=by rw[bsOf_toList];exact hmb
          have HM:Hid (bindsT l[m].text=bb):=hmb
          clear hmb
          by_cases hle:bindsT c.toList≤bb
          ·go_wp2_with (go_at_call 141;refine (binds_any _ _).mono ?_;rintro e _ ⟨rfl,rfl⟩)
           go_round
           case rel=>exact ⟨k+1,k,bindsT c.toList,0,true,by omega,by go_num,rfl,rfl,rfl,.inr ⟨k,hkl,rfl,by omega,hbin.out⟩,by omega,by omega,by rw[HR.out,← hbin.out];exact rg_op g1.out g2.out F3.out (by rw[hbin.out];exact hbp) ⟨rfl,.inr (by rw[hbin.out];exact hle)⟩⟩
           case measure=>simp[intOf];omega
          ·go_wp2_with (go_at_call 141;refine (binds_any _ _).mono ?_;rintro e _ ⟨rfl,rfl⟩)
           go_round
           case rel=>exact ⟨k+1,m,bb,0,true,by omega,by go_num,rfl,rfl,rfl,.inr ⟨m,hm,rfl,by omega,HM.out⟩,by omega,by omega,by rw[HR.out];exact rg_no g1.out g2.out F3.out (by rw[hbin.out];exact hbp) (by rw[hbin.out];omega)⟩
           case measure=>simp[intOf];omega
        ·go_wp2_with (go_at_call 141;refine (binds_any _ _).mono ?_;rintro e _ ⟨rfl,rfl⟩)
         go_round
         case rel=>exact ⟨k+1,best,bb,op,true,by omega,by go_num,rfl,rfl,rfl,HB.out.mono,by omega,by omega,by rw[HR.out];exact rg_no g1.out g2.out F3.out (by rw[hbin.out];exact hbp) (fun h=>hop h.1)⟩
         case measure=>simp[intOf];omega
     ·rcases hw with h3 | ⟨h3,h4⟩
      ·go_wp2_with (go_at_call 141;refine (binds_any _ _).mono ?_;rintro e _ ⟨rfl,rfl⟩)
       go_round
       case rel=>exact ⟨k+1,best,bb,op,true,by omega,by go_num,rfl,rfl,rfl,HB.out.mono,by omega,by omega,by rw[HR.out];exact rg_un g1.out g2.out (by rw[hun.out];simp[h3])⟩
       case measure=>simp[intOf];omega
      ·go_wp2_with (go_at_call 141;refine (binds_any _ _).mono ?_;rintro e _ ⟨rfl,rfl⟩)
       go_round
       case rel=>exact ⟨k+1,best,bb,op,true,by omega,by go_num,rfl,rfl,rfl,HB.out.mono,by omega,by omega,by rw[HR.out];exact rg_un g1.out g2.out (by rw[hun.out];simp[h4])⟩
       case measure=>simp[intOf];omega
    ·have g2:Hid ((l[k].text==cClose)=true):=(by rw[← hb1.out];exact h2:(l[k].text==cClose)=true)
     go_wp2_with (go_at_call 141;refine (binds_any _ _).mono ?_;rintro e _ ⟨rfl,rfl⟩)
     go_round
     case rel=>exact ⟨k+1,best,bb,op - 1,false,by omega,by go_num,rfl,rfl,rfl,HB.out.mono,by omega,by omega,by rw[HR.out];exact rg_close g1.out g2.out⟩
     case measure=>simp[intOf];omega
   ·have g1:Hid ((l[k].text==cOpen)=true):=(by rw[← hb1.out];exact h1:(l[k].text==cOpen)=true)
    go_wp2_with (go_at_call 141;refine (binds_any _ _).mono ?_;rintro e _ ⟨rfl,rfl⟩)
    go_round
    case rel=>exact ⟨k+1,best,bb,op+1,true,by omega,by go_num,rfl,rfl,rfl,HB.out.mono,by omega,by omega,by rw[HR.out];exact rg_open g1.out⟩
    case measure=>simp[intOf];omega
  ·go_wp2
   go_ret
   exact ⟨ret_int (by rw[List.drop_eq_nil_of_le (by omega)];rfl),rfl⟩
end Go.Proofs.YtldfkcpbjooemaaGreatDoor
