/-
  The document's way through the tokens of a policy: what may come next, as plain data.
-/
import Derived.Test.YtgfnkeiigjholaaGreatDoorQ00
import Derived.Test.YtgfnkeiigjholaaGreatDoorQ02
import Derived.Test.YtgfnkeiigjholaaGreatDoorQ01
set_option linter.unusedVariables false
set_option linter.unusedSimpArgs false
namespace Go.Proofs.YtgfnkeiigjholaaGreatDoor
structure Spot where
 next:Nat
 expr:Nat
 opn:Nat
def cWhen:Txt:=[119,104,101,110]
def cScore:Txt:=[115,99,111,114,101]
def cReject:Txt:=[114,101,106,101,99,116]
def cLet:Txt:=[108,101,116]
def cNot:Txt:=[110,111,116]
def cAnd:Txt:=[97,110,100]
def cOr:Txt:=[111,114]
def cMinus:Txt:=[45]
def cOpen:Txt:=[40]
def cClose:Txt:=[41]
def cSemi:Txt:=[59]
def cEq:Txt:=[61]
def ruleS(p:Spot)(t:Txt)(when:Bool):Spot×Bool :=
 if t==cWhen&&when then (⟨3,1,p.opn⟩,true)
 else if t==cScore then (⟨3,2,p.opn⟩,true)
 else if t==cReject then (⟨5,p.expr,p.opn⟩,true)
 else (p,false)
def valueS(p:Spot)(t:Txt):Spot×Bool :=
 if t==cMinus||t==cNot then (p,true)
 else if t==cOpen then (⟨p.next,p.expr,p.opn+1⟩,decide (p.opn+1≤8))
 else (⟨4,p.expr,p.opn⟩,leafT t||nameT t||isDig (headC t))
def afterS(p:Spot)(t:Txt):Spot×Bool :=
 if jointT t then (⟨3,p.expr,p.opn⟩,true)
 else if p.opn>0 then (⟨p.next,p.expr,p.opn-1⟩,t==cClose)
 else if p.expr=1 then ruleS p t false
 else if p.expr=0 then (⟨0,p.expr,p.opn⟩,t==cSemi)
 else (⟨6,p.expr,p.opn⟩,t==cSemi)
def stepS(p:Spot)(t:Txt):Spot×Bool :=
 if p.next=0 then (if t==cLet then (⟨1,p.expr,p.opn⟩,true) else ruleS p t true)
 else if p.next=1 then (⟨2,p.expr,p.opn⟩,nameT t)
 else if p.next=2 then (⟨3,0,p.opn⟩,t==cEq)
 else if p.next=3 then valueS p t
 else if p.next=4 then afterS p t
 else if p.next=5 then (⟨6,p.expr,p.opn⟩,t==cSemi)
 else ruleS p t true
def goS:Spot→List RTok→Except Nat Spot
 | p,[]=>.ok p
 | p,t :: r=>if (stepS p t.text).2 then goS (stepS p t.text).1 r else .error t.at'
abbrev Toked:=Except (Int×Nat) (List RTok)
abbrev Toked.fine(l:List RTok):Toked:=.ok l
abbrev Toked.bad(e:Int)(place:Nat):Toked:=.error (e,place)
def tokened(s:Txt):Toked :=
 if s.length>400 then Toked.bad 1 0
 else match toksR s 0 with
  | .error p=>Toked.bad 2 p
  | .ok l=>match goS ⟨0,0,0⟩ l with
   | .error p=>Toked.bad 3 p
   | .ok q=>if q.next=6 then Toked.fine l else Toked.bad 3 s.length
theorem ruleS_opn(p:Spot)(t:Txt)(b:Bool):(ruleS p t b).1.opn=p.opn:=by
 unfold ruleS
 split
 ·rfl
 ·split
  ·rfl
  ·split <;> rfl
theorem valueS_opn(p:Spot)(t:Txt)(h:p.opn≤8)(hs:(valueS p t).2=true):(valueS p t).1.opn≤8:=by
 unfold valueS at hs ⊢
 split at hs
 ·rename_i h1;rw[if_pos h1];exact h
 ·rename_i h1
  rw[if_neg h1]
  split at hs
  ·rename_i h2;rw[if_pos h2];simpa using hs
  ·rename_i h2;rw[if_neg h2];exact h
theorem afterS_opn(p:Spot)(t:Txt)(h:p.opn≤8):(afterS p t).1.opn≤8:=by
 unfold afterS
 split
 ·exact h
 ·split
  ·show p.opn-1≤8;omega
  ·split
   ·rw[ruleS_opn];exact h
   ·split <;> exact h
theorem stepS_open(p:Spot)(t:Txt)(h:p.opn≤8)(hs:(stepS p t).2=true):(stepS p t).1.opn≤8:=by
 unfold stepS at hs ⊢
 by_cases h0:p.next=0
 ·rw[if_pos h0];split
  ·exact h
  ·rw[ruleS_opn];exact h
 ·rw[if_neg h0]at hs ⊢
  by_cases h1:p.next=1
  ·rw[if_pos h1];exact h
  ·rw[if_neg h1]at hs ⊢
   by_cases h2:p.next=2
   ·rw[if_pos h2];exact h
   ·rw[if_neg h2]at hs ⊢
    by_cases h3:p.next=3
    ·rw[if_pos h3]at hs ⊢;exact valueS_opn p t h hs
    ·rw[if_neg h3]at hs ⊢
     by_cases h4:p.next=4
     ·rw[if_pos h4];exact afterS_opn p t h
     ·rw[if_neg h4]at hs ⊢
      by_cases h5:p.next=5
      ·rw[if_pos h5];exact h
      ·rw[if_neg h5];rw[ruleS_opn];exact h
theorem ruleS_expr(p:Spot)(t:Txt)(b:Bool)(h:p.expr≤2):(ruleS p t b).1.expr≤2:=by
 unfold ruleS
 split
 ·show 1≤2;omega
 ·split
  ·show 2≤2;omega
  ·split <;> exact h
theorem stepS_expr(p:Spot)(t:Txt)(h:p.expr≤2):(stepS p t).1.expr≤2:=by
 unfold stepS
 split
 ·split
  ·exact h
  ·exact ruleS_expr p t true h
 ·split
  ·exact h
  ·split
   ·show 0≤2;omega
   ·split
    ·unfold valueS;split
     ·exact h
     ·split <;> exact h
    ·split
     ·unfold afterS;split
      ·exact h
      ·split
       ·exact h
       ·split
        ·exact ruleS_expr p t false h
        ·split <;> exact h
     ·split
      ·exact h
      ·exact ruleS_expr p t true h
theorem ruleS_next(p:Spot)(t:Txt)(b:Bool)(h:p.next≤6):(ruleS p t b).1.next≤6:=by
 unfold ruleS
 split
 ·show 3≤6;omega
 ·split
  ·show 3≤6;omega
  ·split
   ·show 5≤6;omega
   ·exact h
theorem stepS_next(p:Spot)(t:Txt)(h:p.next≤6):(stepS p t).1.next≤6:=by
 unfold stepS
 split
 ·split
  ·show 1≤6;omega
  ·exact ruleS_next p t true h
 ·split
  ·show 2≤6;omega
  ·split
   ·show 3≤6;omega
   ·split
    ·unfold valueS;split
     ·exact h
     ·split
      ·exact h
      ·show 4≤6;omega
    ·split
     ·unfold afterS;split
      ·show 3≤6;omega
      ·split
       ·exact h
       ·split
        ·exact ruleS_next p t false h
        ·split
         ·show 0≤6;omega
         ·show 6≤6;omega
     ·split
      ·show 6≤6;omega
      ·exact ruleS_next p t true h
theorem toks_nonempty_aux:∀ (n:Nat) (s:Txt) (p:Nat) (l:List RTok),s.length≤n→toksR s p=.ok l→∀ t∈l,t.text≠[]
 | n,[],p,l,_,h=>by
  rw[toksR_nil]at h
  cases h
  simp
 | 0,c :: r,_,_,hn,_=>by simp at hn
 | n+1,c :: r,p,l,hn,h=>by
  rw[toksR_cons]at h
  split at h
  ·exact toks_nonempty_aux n r (p+1) l (by simpa using hn) h
  ·split at h
   ·have hp:=runLen_pos c r
    split at h
    ·rename_i l' he
     cases h
     intro t ht
     simp only[List.mem_cons]at ht
     rcases ht with rfl | ht
     ·intro e
      have:=congrArg List.length e
      have h2:=runLen_le (c :: r)
      simp at this
      omega
     ·refine toks_nonempty_aux n _ _ l' ?_ he t ht
      simp at hn ⊢
      omega
    ·cases h
   ·cases h
theorem toks_nonempty{s:Txt}{p:Nat}{l:List RTok}(h:toksR s p=.ok l):∀ t∈l,t.text≠[]:=toks_nonempty_aux s.length s p l (Nat.le_refl _) h
open Go.RowKit
def spotCells(p:Spot):Array Value:=#[.int .i64 p.next,.int .i64 p.expr,.int .i64 p.opn]
def SpotAt(w:World)(b:Nat)(p:Spot):Prop:=Blk w b (spotCells p) 121
theorem SpotAt.facts{w:World}{b:Nat}{p:Spot}(h:SpotAt w b p):(w.cell? ⟨b,0,none⟩=some (.int .i64 p.next)∧w.cell? ⟨b,1,none⟩=some (.int .i64 p.expr)∧w.cell? ⟨b,2,none⟩=some (.int .i64 p.opn)) ∧
    w.frozen? ⟨b,0,none⟩=false∧w.frozen? ⟨b,1,none⟩=false∧w.frozen? ⟨b,2,none⟩=false :=
  ⟨⟨h.cell 0,h.cell 1,h.cell 2⟩,h.free 0,h.free 1,h.free 2⟩
theorem SpotAt.set0{w:World}{b:Nat}{p:Spot}(h:SpotAt w b p)(n:Nat):SpotAt (w.setCell ⟨b,0,none⟩ (.int .i64 n)) b ⟨n,p.expr,p.opn⟩:=h.set 0 _
theorem SpotAt.set1{w:World}{b:Nat}{p:Spot}(h:SpotAt w b p)(n:Nat):SpotAt (w.setCell ⟨b,1,none⟩ (.int .i64 n)) b ⟨p.next,n,p.opn⟩:=h.set 1 _
theorem SpotAt.set2{w:World}{b:Nat}{p:Spot}(h:SpotAt w b p)(n:Nat):SpotAt (w.setCell ⟨b,2,none⟩ (.int .i64 n)) b ⟨p.next,p.expr,n⟩:=h.set 2 _
set_option maxHeartbeats 400000 in
theorem enter_any(b:Nat)(p:Spot)(x:Nat)(w:World)(h:SpotAt w b p) :
    Calls Tryz.prog 139 #[.pointer (some ⟨b,0,none⟩),.int .i64 x] w fun e w'=>e=.returned (.bool true)∧SpotAt w' b ⟨3,x,p.opn⟩∧Below b w w':=by
  have HP:Hid (SpotAt w b p):=h
  obtain ⟨⟨c0,c1,c2⟩,f0,f1,f2⟩:=h.facts
  clear h
  go_enter Tryz.func139,Tryz.ntmps139
  go_wp2
  go_ret
  exact ⟨rfl,(HP.out.set0 3).set1 x,(below_setCell b 0 _).setCell (p:=⟨b,1,none⟩) (Nat.le_refl _) _⟩
set_option maxHeartbeats 1000000 in
theorem rule_any(b:Nat)(p:Spot)(t:ByteArray)(wh:Bool)(w:World)(h:SpotAt w b p) :
    Calls Tryz.prog 97 #[.pointer (some ⟨b,0,none⟩),.string t,.bool wh] w fun e w'=>e=.returned (.bool (ruleS p t.toList wh).2)∧SpotAt w' b (ruleS p t.toList wh).1∧Below b w w':=by
  have HP:Hid (SpotAt w b p):=h
  obtain ⟨⟨c0,c1,c2⟩,f0,f1,f2⟩:=h.facts
  clear h
  cases wh
  all_goals
    go_enter Tryz.func97,Tryz.ntmps97
    go_wp2_with (go_at_call 139;refine (enter_any b p _ _ HP.out).mono ?_;rintro e w1 ⟨rfl,hs1,hb1⟩)
  all_goals go_ret
  all_goals first
    | (have hr:ruleS p t.toList true=(⟨3,1,p.opn⟩,true):=by simp[ruleS,cWhen, *]
       rw[hr];exact ⟨rfl,hs1,hb1⟩)
    | (have hr:∀ x,ruleS p t.toList x=(⟨3,2,p.opn⟩,true):=by simp[ruleS,cWhen,cScore, *]
       rw[hr];exact ⟨rfl,hs1,hb1⟩)
    | (have hr:∀ x,ruleS p t.toList x=(⟨5,p.expr,p.opn⟩,true):=by simp[ruleS,cWhen,cScore,cReject, *]
       rw[hr];exact ⟨rfl,HP.out.set0 5,below_setCell b 0 _⟩)
    | (have hr:∀ x,ruleS p t.toList x=(p,false):=by simp[ruleS,cWhen,cScore,cReject, *]
       rw[hr];exact ⟨rfl,HP.out,Below.refl _ _⟩)
    | (have hr:ruleS p t.toList false=(p,false):=by simp[ruleS,cWhen,cScore,cReject, *]
       rw[hr];exact ⟨rfl,HP.out,Below.refl _ _⟩)
set_option maxHeartbeats 1000000 in
theorem value_any(b:Nat)(p:Spot)(t:ByteArray)(h0:0<t.size)(ho:p.opn≤8)(w:World)(h:SpotAt w b p) :
    Calls Tryz.prog 98 #[.pointer (some ⟨b,0,none⟩),.string t] w fun e w'=>e=.returned (.bool (valueS p t.toList).2)∧SpotAt w' b (valueS p t.toList).1∧Below b w w':=by
  have HP:Hid (SpotAt w b p):=h
  have hlt:=h.lt
  have HH:Hid (headC t.toList=t[0]):=head_getElem t h0
  obtain ⟨⟨c0,c1,c2⟩,f0,f1,f2⟩:=h.facts
  clear h
  cases hl:leafT t.toList <;> cases hn:nameT t.toList
  all_goals
    go_enter Tryz.func98,Tryz.ntmps98
    go_wp2_with (first | (go_at_call 64;refine (isLeaf_any _ _).mono ?_;rintro e w1 ⟨rfl,hb1⟩) | (go_at_call 65;refine (isName_any _ h0 _).mono ?_;rintro e w2 ⟨rfl,hb2⟩;have hb12:=hb1.trans (hb2.mono hb1.size);have hs2:Hid (SpotAt w2 b p):=HP.out.below hb12 hlt;have hf2:=hs2.out.facts;obtain ⟨⟨d0,d1,d2⟩,g0,g1,g2⟩:=hf2) | (go_at_call 66;refine (isDigit_any _ _).mono ?_;rintro e _ ⟨rfl,rfl⟩))
  all_goals go_ret
  all_goals first
    | (have hr:valueS p t.toList=(p,true):=by simp[valueS,cMinus,cNot, *]
       rw[hr];exact ⟨rfl,HP.out,Below.refl _ _⟩)
    | (have hr:valueS p t.toList=(p,true):=by simp_all [valueS,cMinus,cNot]
       rw[hr];exact ⟨rfl,HP.out,Below.refl _ _⟩)
    | (have hr:valueS p t.toList=(⟨p.next,p.expr,p.opn+1⟩,decide (p.opn+1≤8)):=by simp_all [valueS,cMinus,cNot,cOpen]
       rw[hr];exact ⟨ret_bool (by simp;omega),HP.out.set2 (p.opn+1),below_setCell b 2 _⟩)
    | (have hr:valueS p t.toList=(⟨4,p.expr,p.opn⟩,leafT t.toList||nameT t.toList||isDig t[0]):=by rw[← HH.out];simp_all [valueS,cMinus,cNot,cOpen]
       rw[hr];exact ⟨ret_bool (by simp[hl,hn]),hs2.out.set0 4,(hb12.mono (Nat.le_of_lt hlt)).setCell (p:=⟨b,0,none⟩) (Nat.le_refl _) _⟩)
set_option maxHeartbeats 1000000 in
theorem after_any(b:Nat)(p:Spot)(t:ByteArray)(ho:p.opn≤8)(he:p.expr≤2)(w:World)(h:SpotAt w b p) :
    Calls Tryz.prog 99 #[.pointer (some ⟨b,0,none⟩),.string t] w fun e w'=>e=.returned (.bool (afterS p t.toList).2)∧SpotAt w' b (afterS p t.toList).1∧Below b w w':=by
  have HP:Hid (SpotAt w b p):=h
  have hlt:=h.lt
  clear h
  by_cases hj:jointT t.toList=true
  · have hr:afterS p t.toList=(⟨3,p.expr,p.opn⟩,true):=by simp[afterS,hj]
    rw[hr];clear hr
    go_enter Tryz.func99,Tryz.ntmps99
    go_wp2_with (go_at_call 140;refine (isJoint_any _ _).mono ?_;rintro e w1 ⟨rfl,hb1⟩;have hs1:Hid (SpotAt w1 b p):=HP.out.below hb1 hlt;have hf1:=hs1.out.facts;obtain ⟨⟨d0,d1,d2⟩,g0,g1,g2⟩:=hf1)
    go_ret
    exact ⟨rfl,hs1.out.set0 3,(hb1.mono (Nat.le_of_lt hlt)).setCell (p:=⟨b,0,none⟩) (Nat.le_refl _) _⟩
  · have hj:jointT t.toList=false:=by simpa using hj
    by_cases hop:0<p.opn
    · have hr:afterS p t.toList=(⟨p.next,p.expr,p.opn-1⟩,t.toList==cClose):=by simp[afterS,hj,hop]
      rw[hr];clear hr
      go_enter Tryz.func99,Tryz.ntmps99
      go_wp2_with (go_at_call 140;refine (isJoint_any _ _).mono ?_;rintro e w1 ⟨rfl,hb1⟩;have hs1:Hid (SpotAt w1 b p):=HP.out.below hb1 hlt;have hf1:=hs1.out.facts;obtain ⟨⟨d0,d1,d2⟩,g0,g1,g2⟩:=hf1)
      go_ret
      refine ⟨rfl, ?_,(hb1.mono (Nat.le_of_lt hlt)).setCell (p:=⟨b,2,none⟩) (Nat.le_refl _) _⟩
      have:=hs1.out.set2 (p.opn-1)
      rw[show ((p.opn-1:Nat):Int)=(p.opn:Int)-1 by omega]at this
      exact this
    · have hop0:p.opn=0:=by omega
      have hr:afterS p t.toList=if p.expr=1 then ruleS p t.toList false else if p.expr=0 then (⟨0,p.expr,p.opn⟩,t.toList==cSemi) else (⟨6,p.expr,p.opn⟩,t.toList==cSemi):=by simp[afterS,hj,hop0]
      rw[hr];clear hr
      by_cases h1:p.expr=1
      · rw[if_pos h1]
        go_enter Tryz.func99,Tryz.ntmps99
        go_wp2_with (first | (go_at_call 140;refine (isJoint_any _ _).mono ?_;rintro e w1 ⟨rfl,hb1⟩;have hs1:Hid (SpotAt w1 b p):=HP.out.below hb1 hlt;have hf1:=hs1.out.facts;obtain ⟨⟨d0,d1,d2⟩,g0,g1,g2⟩:=hf1) | (go_at_call 97;refine (rule_any b p _ _ _ hs1.out).mono ?_;rintro e w2 ⟨rfl,hs2,hb2⟩))
        go_ret
        exact ⟨rfl,hs2,(hb1.mono (Nat.le_of_lt hlt)).trans hb2⟩
      · rw[if_neg h1]
        by_cases h2:p.expr=0
        · rw[if_pos h2]
          go_enter Tryz.func99,Tryz.ntmps99
          go_wp2_with (go_at_call 140;refine (isJoint_any _ _).mono ?_;rintro e w1 ⟨rfl,hb1⟩;have hs1:Hid (SpotAt w1 b p):=HP.out.below hb1 hlt;have hf1:=hs1.out.facts;obtain ⟨⟨d0,d1,d2⟩,g0,g1,g2⟩:=hf1)
          go_ret
          exact ⟨rfl,hs1.out.set0 0,(hb1.mono (Nat.le_of_lt hlt)).setCell (p:=⟨b,0,none⟩) (Nat.le_refl _) _⟩
        · rw[if_neg h2]
          go_enter Tryz.func99,Tryz.ntmps99
          go_wp2_with (go_at_call 140;refine (isJoint_any _ _).mono ?_;rintro e w1 ⟨rfl,hb1⟩;have hs1:Hid (SpotAt w1 b p):=HP.out.below hb1 hlt;have hf1:=hs1.out.facts;obtain ⟨⟨d0,d1,d2⟩,g0,g1,g2⟩:=hf1)
          go_ret
          exact ⟨rfl,hs1.out.set0 6,(hb1.mono (Nat.le_of_lt hlt)).setCell (p:=⟨b,0,none⟩) (Nat.le_refl _) _⟩
end Go.Proofs.YtgfnkeiigjholaaGreatDoor
