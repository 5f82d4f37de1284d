/-
  The program's kinds of tokens, by their bytes; what the program's reader may find: plain.
-/
import Derived.Test.YtgfnkeiigjholaaGreatDoorQ09
set_option linter.unusedVariables false
set_option linter.unusedSimpArgs false
namespace Go.Proofs.YtgfnkeiigjholaaGreatDoor
def bindK(k:Nat):Nat :=
 if k=8 then 1 else if k=7 then 2 else if k=23∨k=24∨k=25∨k=26 then 3 else if k=27∨k=28 then 4 else if k=29∨k=30∨k=31 then 5 else 0
def singleK(k:Nat):Bool:=decide (k=1)||decide (k=2)||(decide (10≤k)&&decide (k≤21))
theorem wordGo_cases(t:Txt):∀ (l:List Txt) (i:Nat),(l.contains t=false∧wordGo l i t=2)∨∃ k,∃ h:k<l.length,t=l[k]∧wordGo l i t=3+(i+k)
 | [],i=>Or.inl ⟨rfl,rfl⟩
 | x :: r,i=>by
  by_cases h:x=t
  ·subst h
   exact Or.inr ⟨0,by simp,rfl,by simp[wordGo]⟩
  ·have hb:(x==t)=false:=by simpa using h
   rcases wordGo_cases t r (i+1) with ⟨h1,h2⟩ | ⟨k,hk,h1,h2⟩
   ·refine Or.inl ⟨by rw[List.contains_cons,h1,Bool.or_false,beq_eq_false_iff_ne];exact fun hh=>h hh.symm,by simp[wordGo,hb,h2]⟩
   ·exact Or.inr ⟨k+1,by simp;omega,by simpa using h1,by simp only[wordGo,hb];simp;rw[h2];omega⟩
theorem signKind_cases(t:Txt):∀ (l:List Txt) (i:Nat),(l.contains t=false∧signKind l i t=0)∨∃ k,∃ h:k<l.length,t=l[k]∧signKind l i t=22+(i+k)
 | [],i=>Or.inl ⟨rfl,rfl⟩
 | x :: r,i=>by
  by_cases h:x=t
  ·subst h
   exact Or.inr ⟨0,by simp,rfl,by simp[signKind]⟩
  ·have hb:(x==t)=false:=by simpa using h
   rcases signKind_cases t r (i+1) with ⟨h1,h2⟩ | ⟨k,hk,h1,h2⟩
   ·refine Or.inl ⟨by rw[List.contains_cons,h1,Bool.or_false,beq_eq_false_iff_ne];exact fun hh=>h hh.symm,by simp[signKind,hb,h2]⟩
   ·exact Or.inr ⟨k+1,by simp;omega,by simpa using h1,by simp only[signKind,hb];simp;rw[h2];omega⟩
theorem kind_cases(t:Txt)(h:mayT t=true) :
  (isDig (headC t)=true∧kindP t=1)∨(isLet (headC t)=true∧tWords.contains t=false∧kindP t=2) ∨
  (∃ k,∃ hk:k<19,t=tWords[k]'hk∧kindP t=3+k)∨(∃ k,∃ hk:k<12,t=tSign[k]'hk∧kindP t=22+k):=by
 unfold kindP
 cases h1:isDig (headC t) with
 | true=>exact Or.inl ⟨rfl,by simp⟩
 | false =>
  cases h2:isLet (headC t) with
  | true =>
   rcases wordGo_cases t tWords 0 with ⟨h3,h4⟩ | ⟨k,hk,h3,h4⟩
   ·exact Or.inr (Or.inl ⟨rfl,h3,by simpa[wordKindT] using h4⟩)
   ·exact Or.inr (Or.inr (Or.inl ⟨k,hk,h3,by simpa[wordKindT] using h4⟩))
  | false =>
   rcases signKind_cases t tSign 0 with ⟨h3,h4⟩ | ⟨k,hk,h3,h4⟩
   ·unfold mayT at h
    simp only[h1,h2,signT,h3]at h
    cases h
   ·exact Or.inr (Or.inr (Or.inr ⟨k,hk,h3,by simpa using h4⟩))
structure KindOf(t:Txt):Prop where
 pos:kindP t≠0
 klet:kindP t=3↔t=cLet
 kwhen:kindP t=4↔t=cWhen
 kscore:kindP t=5↔t=cScore
 krej:kindP t=6↔t=cReject
 kand:kindP t=7↔t=cAnd
 kor:kindP t=8↔t=cOr
 knot:kindP t=9↔t=cNot
 ksemi:kindP t=22↔t=cSemi
 keq:kindP t=23↔t=cEq
 kminus:kindP t=28↔t=cMinus
 kopen:kindP t=32↔t=cOpen
 kclose:kindP t=33↔t=cClose
 kname:kindP t=2↔nameT t=true
 single:singleK (kindP t)=singleT t
 binds:bindK (kindP t)=bindsT t
 joint:jointT t=decide (0<bindK (kindP t))
 le:kindP t≤33
theorem words_sub(t:Txt)(h:tWords.contains t=false):leafT t=false∧ownT t=false:=by
 simp only[tWords,List.contains_cons,List.contains_nil,Bool.or_false,Bool.or_eq_false_iff]at h
 obtain ⟨h1,h2,h3,h4,h5,h6,h7,h8,h9,h10,h11,h12,h13,h14,h15,h16,h17,h18,h19⟩:=h
 constructor
 ·simp only[leafT,tLeaf,List.contains_cons,List.contains_nil,Bool.or_false,Bool.or_eq_false_iff]
  exact ⟨h8,h9,h10,h11,h12,h13,h14,h15,h16,h17,h18,h19⟩
 ·simp only[ownT,tOwn,List.contains_cons,List.contains_nil,Bool.or_false,Bool.or_eq_false_iff]
  exact ⟨h1,h2,h3,h4,h5,h6,h7⟩
theorem kindOf(t:Txt)(h:mayT t=true):KindOf t:=by
 rcases kind_cases t h with ⟨h1,h2⟩ | ⟨h1,h2,h3⟩ | ⟨k,hk,rfl,h2⟩ | ⟨k,hk,rfl,h2⟩
 ·have hn:∀ u:Txt,isDig (headC u)=false→t≠u:=fun u hu e=>by rw[e,hu]at h1;cases h1
  have hb:bindsT t=0:=by
   have:jointT t=false:=by
    unfold jointT
    simp only[tJoint,List.contains_cons,List.contains_nil,Bool.or_false,Bool.or_eq_false_iff,beq_eq_false_iff_ne]
    refine ⟨?_, ?_, ?_, ?_, ?_, ?_, ?_, ?_, ?_, ?_, ?_⟩ <;> exact hn _ (by decide)
   have:=joint_binds t
   cases hz:bindsT t with
   | zero=>rfl
   | succ m=>exact absurd (this.2 (by omega)) (by simp[*])
  have hj:jointT t=false:=by cases e:jointT t with | false=>rfl | true=>have:=(joint_binds t).1 e;omega
  have hl:isLet (headC t)=false:=by
   unfold isLet isDig at *
   simp only[Bool.and_eq_true,decide_eq_true_eq,Bool.and_eq_false_iff,decide_eq_false_iff_not]at *
   left
   intro h5
   exact absurd (UInt8.le_trans h5 h1.2) (by decide)
  have hnm:nameT t=false:=by simp[nameT,hl]
  have hsg:singleT t=true:=by simp[singleT,h1]
  refine ⟨?_, ?_, ?_, ?_, ?_, ?_, ?_, ?_, ?_, ?_, ?_, ?_, ?_, ?_, ?_, ?_, ?_, ?_⟩ <;> rw[h2]
  ·decide
  iterate 12 exact ⟨fun h=>absurd h (by decide),fun h=>absurd h (hn _ (by decide))⟩
  ·rw[hnm];simp
  ·rw[hsg];rfl
  ·rw[hb];rfl
  ·rw[hj];rfl
  ·decide
 ·have hw:=words_sub t h2
  have hd:isDig (headC t)=false:=by
   unfold isLet isDig at *
   simp only[Bool.and_eq_true,decide_eq_true_eq,Bool.and_eq_false_iff,decide_eq_false_iff_not]at *
   right
   intro h5
   exact absurd (UInt8.le_trans h1.1 h5) (by decide)
  have hn:∀ u:Txt,isLet (headC u)=false→t≠u:=fun u hu e=>by rw[e,hu]at h1;cases h1
  have hn2:∀ u:Txt,ownT u=true→t≠u:=fun u hu e=>by rw[e,hu]at hw;cases hw.2
  have hj:jointT t=false:=by
   unfold jointT
   simp only[tJoint,List.contains_cons,List.contains_nil,Bool.or_false,Bool.or_eq_false_iff,beq_eq_false_iff_ne]
   refine ⟨hn2 _ (by decide),hn2 _ (by decide), ?_, ?_, ?_, ?_, ?_, ?_, ?_, ?_, ?_⟩ <;> exact hn _ (by decide)
  have hb:bindsT t=0:=by
   have:=joint_binds t
   cases hz:bindsT t with
   | zero=>rfl
   | succ m=>exact absurd (this.2 (by omega)) (by simp[*])
  have hnm:nameT t=true:=by simp[nameT,h1,hw.1,hw.2]
  have hsg:singleT t=true:=by simp[singleT,hnm]
  refine ⟨?_, ?_, ?_, ?_, ?_, ?_, ?_, ?_, ?_, ?_, ?_, ?_, ?_, ?_, ?_, ?_, ?_, ?_⟩ <;> rw[h3]
  ·decide
  iterate 7 exact ⟨fun h=>absurd h (by decide),fun h=>absurd h (hn2 _ (by decide))⟩
  iterate 5 exact ⟨fun h=>absurd h (by decide),fun h=>absurd h (hn _ (by decide))⟩
  ·rw[hnm];simp
  ·rw[hsg];rfl
  ·rw[hb];rfl
  ·rw[hj];rfl
  ·decide
 ·have:∀ u∈tWords,KindOf u:=by
   intro u hu
   simp only[tWords,List.mem_cons,List.not_mem_nil,or_false]at hu
   rcases hu with rfl | rfl | rfl | rfl | rfl | rfl | rfl | rfl | rfl | rfl | rfl | rfl | rfl | rfl | rfl | rfl | rfl | rfl | rfl
   all_goals (clear h2 h;refine ⟨?_, ?_, ?_, ?_, ?_, ?_, ?_, ?_, ?_, ?_, ?_, ?_, ?_, ?_, ?_, ?_, ?_, ?_⟩ <;> decide)
  exact this _ (List.getElem_mem _)
 ·have:∀ u∈tSign,KindOf u:=by
   intro u hu
   simp only[tSign,List.mem_cons,List.not_mem_nil,or_false]at hu
   rcases hu with rfl | rfl | rfl | rfl | rfl | rfl | rfl | rfl | rfl | rfl | rfl | rfl
   all_goals (clear h2 h;refine ⟨?_, ?_, ?_, ?_, ?_, ?_, ?_, ?_, ?_, ?_, ?_, ?_, ?_, ?_, ?_, ?_, ?_, ?_⟩ <;> decide)
  exact this _ (List.getElem_mem _)
end Go.Proofs.YtgfnkeiigjholaaGreatDoor
