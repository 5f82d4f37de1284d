/-
  The document's step from token to token, and Tokened: the tokens of a text that is a policy, or the error and its place.
-/
import Derived.Test.YtgfnkeiigjholaaGreatDoorQ03
set_option linter.unusedVariables false
set_option linter.unusedSimpArgs false
namespace Go.Proofs.YtgfnkeiigjholaaGreatDoor
open Go.RowKit
set_option maxHeartbeats 2000000 in
theorem step_any(b:Nat)(p:Spot)(t:ByteArray)(h0:0<t.size)(ho:p.opn≤8)(he:p.expr≤2)(hn:p.next≤6)(w:World)(h:SpotAt w b p) :
  Calls Tryz.prog 59 #[.pointer (some ⟨b,0,none⟩),.string t] w fun e w'=>e=.returned (.bool (stepS p t.toList).2)∧SpotAt w' b (stepS p t.toList).1∧Below b w w':=by
 have HP:Hid (SpotAt w b p):=h
 have hlt:=h.lt
 obtain ⟨⟨c0,c1,c2⟩,f0,f1,f2⟩:=h.facts
 clear h
 rcases (show p.next=0∨p.next=1∨p.next=2∨p.next=3∨p.next=4∨p.next=5∨p.next=6 by omega) with e | e | e | e | e | e | e
 ·by_cases hl:(t.toList==cLet)=true
  ·have hr:stepS p t.toList=(⟨1,p.expr,p.opn⟩,true):=by simp only[stepS,e,hl,if_true]
   rw[hr];clear hr
   have hl':(t.toList==[108,101,116])=true:=hl
   rw[e]at c0
   go_enter Tryz.func59,Tryz.ntmps59
   go_wp2
   go_ret
   exact ⟨rfl,HP.out.set0 1,below_setCell b 0 _⟩
  ·have hl:(t.toList==cLet)=false:=by simpa using hl
   have hr:stepS p t.toList=ruleS p t.toList true:=by simp[stepS,e,hl]
   rw[hr];clear hr
   have hl':(t.toList==[108,101,116])=false:=hl
   rw[e]at c0
   go_enter Tryz.func59,Tryz.ntmps59
   go_wp2_with (go_at_call 97;refine (rule_any b p _ _ _ HP.out).mono ?_;rintro e w2 ⟨rfl,hs2,hb2⟩)
   go_ret
   exact ⟨rfl,hs2,hb2⟩
 ·have hr:stepS p t.toList=(⟨2,p.expr,p.opn⟩,nameT t.toList):=by simp[stepS,e]
  rw[hr];clear hr
  rw[e]at c0
  go_enter Tryz.func59,Tryz.ntmps59
  go_wp2_with (go_at_call 65;refine (isName_any _ h0 _).mono ?_;rintro e w2 ⟨rfl,hb2⟩)
  go_ret
  exact ⟨rfl,(HP.out.set0 2).below hb2 (by simp;exact hlt),(below_setCell b 0 _).trans (hb2.mono (by simp;omega))⟩
 ·have hr:stepS p t.toList=(⟨3,0,p.opn⟩,t.toList==cEq):=by simp[stepS,e]
  rw[hr];clear hr
  rw[e]at c0
  go_enter Tryz.func59,Tryz.ntmps59
  go_wp2
  go_ret
  exact ⟨rfl,(HP.out.set0 3).set1 0,(below_setCell b 0 _).setCell (p:=⟨b,1,none⟩) (Nat.le_refl _) _⟩
 ·have hr:stepS p t.toList=valueS p t.toList:=by simp[stepS,e]
  rw[hr];clear hr
  rw[e]at c0
  go_enter Tryz.func59,Tryz.ntmps59
  go_wp2_with (go_at_call 98;refine (value_any b p _ h0 ho _ HP.out).mono ?_;rintro e w2 ⟨rfl,hs2,hb2⟩)
  go_ret
  exact ⟨rfl,hs2,hb2⟩
 ·have hr:stepS p t.toList=afterS p t.toList:=by simp[stepS,e]
  rw[hr];clear hr
  rw[e]at c0
  go_enter Tryz.func59,Tryz.ntmps59
  go_wp2_with (go_at_call 99;refine (after_any b p _ ho he _ HP.out).mono ?_;rintro e w2 ⟨rfl,hs2,hb2⟩)
  go_ret
  exact ⟨rfl,hs2,hb2⟩
 ·have hr:stepS p t.toList=(⟨6,p.expr,p.opn⟩,t.toList==cSemi):=by simp[stepS,e]
  rw[hr];clear hr
  rw[e]at c0
  go_enter Tryz.func59,Tryz.ntmps59
  go_wp2
  go_ret
  exact ⟨rfl,HP.out.set0 6,below_setCell b 0 _⟩
 ·have hr:stepS p t.toList=ruleS p t.toList true:=by simp[stepS,e]
  rw[hr];clear hr
  rw[e]at c0
  go_enter Tryz.func59,Tryz.ntmps59
  go_wp2_with (go_at_call 97;refine (rule_any b p _ _ _ HP.out).mono ?_;rintro e w2 ⟨rfl,hs2,hb2⟩)
  go_ret
  exact ⟨rfl,hs2,hb2⟩
theorem cellsR_get:∀ (l:List RTok) (k:Nat) (h:k<l.length),(cellsR l)[k*2]?=some (.string (bsOf l[k].text))∧(cellsR l)[k*2+1]?=some (.int .i64 l[k].at')
  | a :: r,0,_=>⟨rfl,rfl⟩
  | a :: r,k+1,h=>by
    have:=cellsR_get r k (by simpa using h)
    have e:cellsR (a :: r)=.string (bsOf a.text) :: .int .i64 a.at' :: cellsR r:=rfl
    rw[e,show (k+1)*2=k*2+2 by omega,show k*2+2+1=(k*2+1)+2 by omega]
    simpa using this
theorem tokened_err{s:ByteArray}(hs:s.size≤400){p:Nat}(h:toksR s.toList 0=.error p):tokened s.toList=.bad 2 p:=by
  unfold tokened;rw[toList_length,if_neg (by omega),h]
theorem tokened_syn{s:ByteArray}(hs:s.size≤400){l:List RTok}(h:toksR s.toList 0=.ok l){p:Nat}(hg:goS ⟨0,0,0⟩ l=.error p):tokened s.toList=.bad 3 p:=by
  unfold tokened;rw[toList_length,if_neg (by omega),h];simp only[hg]
theorem tokened_end{s:ByteArray}(hs:s.size≤400){l:List RTok}(h:toksR s.toList 0=.ok l){q:Spot}(hg:goS ⟨0,0,0⟩ l=.ok q)(hq:q.next≠6):tokened s.toList=.bad 3 s.size:=by
  unfold tokened;rw[toList_length,if_neg (by omega),h];simp only[hg,if_neg hq]
theorem fine_tokened{s:ByteArray}(hs:s.size≤400){l:List RTok}(h:toksR s.toList 0=.ok l){q:Spot}(hg:goS ⟨0,0,0⟩ l=.ok q)(hq:q.next=6):tokened s.toList=.fine l:=by
  unfold tokened;rw[toList_length,if_neg (by omega),h];simp only[hg,if_pos hq]
def TokedRel(l:List RTok)(sb:Nat)(W:World)(i:Value)(wr:World):Prop :=
  ∃ (k:Nat) (q:Spot),k≤l.length∧i=.int .i64 k∧SpotAt wr sb q∧q.opn≤8∧q.expr≤2∧q.next≤6∧Below sb W wr∧goS ⟨0,0,0⟩ l=goS q (l.drop k)
set_option maxHeartbeats 1000000 in
theorem Tokened_any(s:ByteArray)(w:World) :
    Calls Tryz.prog 27 #[.string s] w fun e w'=>Below w.heap.size w w' ∧
      ((∃ l v,tokened s.toList=.fine l∧l.length≤400∧e=.returned (.tuple #[v,.int .i64 0,.int .i64 0])∧w'.ownsRow w.heap.size 77 2 v l.length (cellsR l)) ∨
       (∃ c p,tokened s.toList=.bad c p∧e=.returned (.tuple #[.slice none 0 0,.int .i64 c,.int .i64 p]))):=by
  by_cases hs:s.size≤400
  · go_enter Tryz.func27,Tryz.ntmps27
    go_wp2_with (go_at_call 58;refine (Tokens_any s hs _).mono ?_;rintro e w1 ⟨hb1,⟨l,v,htk,hl4,rfl,hown⟩ | ⟨p,htk,rfl⟩⟩)
    · have HT:Hid (toksR s.toList 0=.ok l):=htk
      have hne:=toks_nonempty htk
      clear htk
      have hbs:=hb1.size
      have HW:Hid (w1.ownsRow w.heap.size 77 2 v l.length (cellsR l)):=hown
      have hrd:=reads_of_own hown
      clear hown
      rcases hrd with ⟨rfl,hn,hx⟩ | ⟨g,o,cap,rfl,_,hlt,hc⟩
      · have hl0:l=[]:=List.eq_nil_of_length_eq_zero hn
        subst hl0
        refine wp_loop_rounds 1 ?_;rw[rounds_succ]
        go_wp2
        go_ret3
        exact ⟨hb1.alloc hbs _,.inr ⟨3,s.size,tokened_end hs HT.out (q:=⟨0,0,0⟩) rfl (by decide),rfl⟩⟩
      · have hsp0:SpotAt (w1.alloc (.cells (spotCells ⟨0,0,0⟩) 121)) w1.heap.size ⟨0,0,0⟩:=Blk.new _ _ _
        have hbW:Below w.heap.size w (w1.alloc (.cells (spotCells ⟨0,0,0⟩) 121)):=hb1.alloc hbs _
        have hc2:∀ j u,(cellsR l)[j]?=some u→(w1.alloc (.cells (spotCells ⟨0,0,0⟩) 121)).cell? ⟨g,o+j,none⟩=some u:=fun j u hj=>(((Below.refl _ w1).alloc (Nat.le_refl _) _).cell (p:=⟨g,o+j,none⟩) hlt).trans (hc j u hj)
        clear hc
        go_loopw [8] (fun i wr=>TokedRel l w1.heap.size (w1.alloc (.cells (spotCells ⟨0,0,0⟩) 121)) i wr) (fun i _=>l.length-(intOf i).toNat)
        case atStart=>exact ⟨0,⟨0,0,0⟩,Nat.zero_le _,rfl,hsp0,by decide,by decide,by decide,Below.refl _ _,rfl⟩
        case round =>
          obtain ⟨k,q,hk,rfl,hsp,hq1,hq2,hq3,hbr,hgo⟩:=hrel
          have HG:Hid (goS ⟨0,0,0⟩ l=goS q (l.drop k)):=hgo
          clear hgo
          by_cases hkl:k<l.length
          · have hcell:=cellsR_get l k hkl
            have c0:wr.cell? ⟨g,o+k*2,none⟩=some (.string (bsOf l[k].text)):=(hbr.cell (p:=⟨g,o+k*2,none⟩) hlt).trans (hc2 _ _ hcell.1)
            have c1:wr.cell? ⟨g,o+k*2+1,none⟩=some (.int .i64 l[k].at'):=(hbr.cell (p:=⟨g,o+k*2+1,none⟩) hlt).trans (hc2 _ _ hcell.2)
            have hz:Hid (0<(bsOf l[k].text).size):=(by rw[bsOf_size];exact List.length_pos_iff.2 (hne _ (List.getElem_mem hkl)):0<(bsOf l[k].text).size)
            clear hcell
            have hst:Hid (goS ⟨0,0,0⟩ l=if (stepS q l[k].text).2 then goS (stepS q l[k].text).1 (l.drop (k+1)) else .error l[k].at'):=(by rw[HG.out,List.drop_eq_getElem_cons hkl];rfl:goS ⟨0,0,0⟩ l=_)
            cases hr:(stepS q l[k].text).2
            · go_wp2_with (go_at_call 59;refine (step_any _ q _ hz.out hq1 hq2 hq3 _ hsp).mono ?_;rintro e w2 ⟨rfl,hs2,hb2⟩;simp only[bsOf_toList]at hs2 ⊢;have c2:=(hb2.cell (p:=⟨g,o+k*2+1,none⟩) hlt).trans c1)
              go_quiet (fail)
              go_wp2
              go_ret3
              refine ⟨?_,.inr ⟨3,l[k].at',tokened_syn hs HT.out ?_,rfl⟩⟩
              · exact below_drewN ((hbW.trans (hbr.mono hbs)).trans (hb2.mono hbs)) _
              · rw[hst.out];simp[hr]
            · have HRr:Hid ((stepS q l[k].text).2=true):=hr
              go_wp2_with (go_at_call 59;refine (step_any _ q _ hz.out hq1 hq2 hq3 _ hsp).mono ?_;rintro e w2 ⟨rfl,hs2,hb2⟩;simp only[bsOf_toList]at hs2 ⊢)
              go_roundw
              case rel=>exact ⟨k+1,(stepS q l[k].text).1,by omega,by go_num,hs2,stepS_open q _ hq1 HRr.out,stepS_expr q _ hq2,stepS_next q _ hq3,hbr.trans hb2,by rw[hst.out,if_pos HRr.out]⟩
              case measure=>simp[intOf];omega
          · have HP:Hid (SpotAt wr w1.heap.size q):=hsp
            have c0:=hsp.facts.1.1
            clear hsp
            have hgo2:Hid (goS ⟨0,0,0⟩ l=.ok q):=(by rw[HG.out,List.drop_eq_nil_of_le (by omega)];rfl:goS ⟨0,0,0⟩ l=.ok q)
            by_cases h6:q.next=6
            · rw[h6]at c0
              go_wp2
              go_ret3
              exact ⟨hbW.trans (hbr.mono hbs),.inl ⟨l,_,fine_tokened hs HT.out hgo2.out h6,hl4,rfl,own_belowB (own_below HW.out ((Below.refl _ w1).alloc (Nat.le_refl _) _)) hbr (by intro k hk;simp[Value.ownBlock]at hk;omega)⟩⟩
            · go_wp2
              go_ret3
              exact ⟨hbW.trans (hbr.mono hbs),.inr ⟨3,s.size,tokened_end hs HT.out hgo2.out h6,rfl⟩⟩
    · go_ret3
      exact ⟨hb1,.inr ⟨2,p,tokened_err hs htk,rfl⟩⟩
  · have hT:tokened s.toList=.bad 1 0:=by unfold tokened;rw[toList_length,if_pos (by omega)]
    go_enter Tryz.func27,Tryz.ntmps27
    go_wp2
    go_ret3
    exact ⟨Below.refl _ _,.inr ⟨1,0,hT,rfl⟩⟩
end Go.Proofs.YtgfnkeiigjholaaGreatDoor
