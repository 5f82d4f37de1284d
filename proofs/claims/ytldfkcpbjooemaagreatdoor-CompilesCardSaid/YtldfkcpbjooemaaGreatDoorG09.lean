/-
  The program's tokens are the document's, with their kinds, and one of the kind End behind them.
-/
import Derived.Test.YtldfkcpbjooemaaGreatDoorG08
set_option linter.unusedVariables false
set_option linter.unusedSimpArgs false
namespace Go.Proofs.YtldfkcpbjooemaaGreatDoor
theorem same_dig {a b:UInt8} (h:isDig a=true):sameC a b=isDig b:=by
 unfold sameC
 have h1:isLet a=false:=by
  unfold isDig at h;unfold isLet
  simp only[Bool.and_eq_true,decide_eq_true_eq,UInt8.le_iff_toNat_le] at h
  simp[UInt8.le_iff_toNat_le,UInt8.lt_iff_toNat_lt]
  have:=h.2
  intro h'
  simp at this h'
  omega
 have h2:(a==60)=false∧(a==33)=false:=by
  constructor
  ·cases h3:(a==60)
   ·rfl
   ·have:a=60:=by simpa using h3
    subst this;revert h;decide
  ·cases h3:(a==33)
   ·rfl
   ·have:a=33:=by simpa using h3
    subst this;revert h;decide
 simp[h,h1,h2.1,h2.2]
theorem same_let {a b:UInt8} (h:isLet a=true):sameC a b=isLet b:=by
 unfold sameC
 have h1:isDig a=false:=by
  unfold isLet at h;unfold isDig
  simp only[Bool.and_eq_true,decide_eq_true_eq,UInt8.le_iff_toNat_le] at h
  simp[UInt8.le_iff_toNat_le,UInt8.lt_iff_toNat_lt]
  have:=h.1
  intro h'
  simp at this h' ⊢
  omega
 have h2:(a==60)=false∧(a==33)=false:=by
  constructor
  ·cases h3:(a==60)
   ·rfl
   ·have:a=60:=by simpa using h3
    subst this;revert h;decide
  ·cases h3:(a==33)
   ·rfl
   ·have:a=33:=by simpa using h3
    subst this;revert h;decide
 simp[h,h1,h2.1,h2.2]
theorem run_dig:∀ (r:Txt) (c:UInt8),isDig c=true→runLen (c :: r)=digitRowT (c :: r)
 | [],c,h=>by simp[runLen,digitRowT,List.takeWhile,h]
 | d :: r,c,h=>by
  have hs:=same_dig (b:=d) h
  cases hd:isDig d
  ·simp[runLen,hs,hd,digitRowT,List.takeWhile,h]
  ·have:=run_dig r d hd
   simp only[runLen,hs,hd,if_true,this,digitRowT,List.takeWhile,h,List.length_cons]
theorem run_let:∀ (r:Txt) (c:UInt8),isLet c=true→runLen (c :: r)=letterRowT (c :: r)
 | [],c,h=>by simp[runLen,letterRowT,List.takeWhile,h]
 | d :: r,c,h=>by
  have hs:=same_let (b:=d) h
  cases hd:isLet d
  ·simp[runLen,hs,hd,letterRowT,List.takeWhile,h]
  ·have:=run_let r d hd
   simp only[runLen,hs,hd,if_true,this,letterRowT,List.takeWhile,h,List.length_cons]
theorem run_eq (r:Txt):runLen (61 :: r)=1:=by
 cases r with
 | nil=>rfl
 | cons d r=>simp[runLen,sameC,isDig,isLet]
def signKind:List Txt→Nat→Txt→Nat
 | [],_,_=>0
 | x :: r,i,t=>if x==t then 22+i else signKind r (i+1) t
def kindP (t:Txt):Nat:=if isDig (headC t) then 1 else if isLet (headC t) then wordKindT t else signKind tSign 0 t
theorem row_no (c:UInt8) (r:Txt) (h1:isDig c=false):digitRowT (c :: r)=0:=by simp[digitRowT,List.takeWhile,h1]
theorem row_no2 (c:UInt8) (r:Txt) (h1:isLet c=false):letterRowT (c :: r)=0:=by simp[letterRowT,List.takeWhile,h1]
theorem sign_cases (c:UInt8):c=59∨c=61∨c=33∨c=60∨c=43∨c=45∨c=42∨c=47∨c=37∨c=40∨c=41∨(c≠59∧c≠61∧c≠33∧c≠60∧c≠43∧c≠45∧c≠42∧c≠47∧c≠37∧c≠40∧c≠41):=by
 by_cases h1:c=59
 ·simp[h1]
 by_cases h2:c=61
 ·simp[h2]
 by_cases h3:c=33
 ·simp[h3]
 by_cases h4:c=60
 ·simp[h4]
 by_cases h5:c=43
 ·simp[h5]
 by_cases h6:c=45
 ·simp[h6]
 by_cases h7:c=42
 ·simp[h7]
 by_cases h8:c=47
 ·simp[h8]
 by_cases h9:c=37
 ·simp[h9]
 by_cases h10:c=40
 ·simp[h10]
 by_cases h11:c=41
 ·simp[h11]
 simp[h1,h2,h3,h4,h5,h6,h7,h8,h9,h10,h11]
theorem sign_one (c:UInt8) (r:Txt) (h1:isDig c=false) (h2:isLet c=false) :
  (signT ((c :: r).take (runLen (c :: r)))=true→firstSignT (c :: r)=(signKind tSign 0 ((c :: r).take (runLen (c :: r))),runLen (c :: r))) ∧
  (signT ((c :: r).take (runLen (c :: r)))=false→(firstSignT (c :: r)).2=0):=by
 have hrun:runLen (c :: r)=if (c=60∨c=33)∧r.head?=some 61 then 2 else 1:=by
  cases r with
  | nil=>simp[runLen]
  | cons d r =>
   have hs:sameC c d=((c==60||c==33)&&d==61):=by simp[sameC,h1,h2]
   by_cases hd:d=61
   ·subst hd
    have:=run_eq r
    simp only[runLen,hs,this]
    by_cases hc:c=60∨c=33
    ·rcases hc with rfl | rfl <;> simp
    ·simp only[not_or] at hc
     simp[hc.1,hc.2]
   ·simp[runLen,hs,hd]
 rw[hrun]
 rcases sign_cases c with rfl | rfl | rfl | rfl | rfl | rfl | rfl | rfl | rfl | rfl | rfl | ⟨n1,n2,n3,n4,n5,n6,n7,n8,n9,n10,n11⟩
 all_goals
  cases r with
  | nil=>simp_all [firstSignT,signGo,tSign,signT,signKind]
  | cons d r =>
   by_cases hd:d=61
   ·subst hd
    simp_all [firstSignT,signGo,tSign,signT,signKind]
   ·simp_all [firstSignT,signGo,tSign,signT,signKind]
theorem head_take (c:UInt8) (r:Txt) (n:Nat) (h:1≤n):headC ((c :: r).take n)=c:=by
 cases n with
 | zero=>omega
 | succ n=>rfl
theorem first_tok (c:UInt8) (r:Txt):(mayT ((c :: r).take (runLen (c :: r)))=true→firstT (c :: r)=(kindP ((c :: r).take (runLen (c :: r))),runLen (c :: r))) ∧
  (mayT ((c :: r).take (runLen (c :: r)))=false→(firstT (c :: r)).2=0):=by
 have hp:=runLen_pos c r
 have hle:=runLen_le (c :: r)
 have hlen:((c :: r).take (runLen (c :: r))).length=runLen (c :: r):=by rw[List.length_take];omega
 unfold mayT kindP
 rw[head_take c r _ hp,hlen]
 cases hd:isDig c
 ·have h0:=row_no c r hd
  cases hl:isLet c
  ·have h1:=row_no2 c r hl
   have hs:=sign_one c r hd hl
   simp only[firstT,h0,h1]
   simp
   exact ⟨fun h=>hs.1 h,fun h=>hs.2 h⟩
  ·have hr:=run_let r c hl
   rw[hr] at hp ⊢
   simp only[firstT,h0]
   constructor
   ·intro h
    have:letterRowT (c :: r)≤8:=by simpa using h
    rw[if_neg (by omega),if_neg (by omega),if_neg (by omega),if_pos (by omega)]
    simp
   ·intro h
    have:8 < letterRowT (c :: r):=by simpa using h
    rw[if_neg (by omega),if_neg (by omega),if_pos (by omega)]
 ·have hr:=run_dig r c hd
  rw[hr] at hp ⊢
  simp only[firstT]
  constructor
  ·intro h
   have:digitRowT (c :: r)≤18:=by simpa using h
   rw[if_neg (by omega),if_pos (by omega)]
   simp
  ·intro h
   have:18 < digitRowT (c :: r):=by simpa using h
   rw[if_pos (by omega)]
def toP (t:RTok):PTok:=⟨kindP t.text,t.at',t.text⟩
def outP (p:Nat):Except Nat (List RTok)→Except Nat (List PTok)
 | .ok l=>.ok (l.map toP++[⟨0,p,[]⟩])
 | .error e=>.error e
theorem toks_same:∀ (n:Nat) (s:Txt) (p:Nat),s.length≤n→toksP s p=outP (p+s.length) (toksR s p)
 | n,[],p,_=>by rw[toksP_nil,toksR_nil];rfl
 | 0,c :: r,p,h=>by simp at h
 | n+1,c :: r,p,h=>by
  have hp:=runLen_pos c r
  have hle:=runLen_le (c :: r)
  have hf:=first_tok c r
  rw[toksP_cons,toksR_cons]
  by_cases hb:blankC c=true
  ·rw[if_pos hb,if_pos hb,toks_same n r (p+1) (by simpa using h)]
   simp only[List.length_cons]
   congr 1;omega
  ·rw[if_neg hb,if_neg hb]
   cases hm:mayT ((c :: r).take (runLen (c :: r)))
   ·rw[if_pos (hf.2 hm),if_neg (by simp)]
    rfl
   ·have hf1:=hf.1 hm
    rw[if_neg (by rw[hf1];simp only;omega),if_pos rfl,hf1]
    simp only
    rw[toks_same n ((c :: r).drop (runLen (c :: r))) (p+runLen (c :: r)) (by simp at h ⊢;omega)]
    rw[show p+runLen (c :: r)+((c :: r).drop (runLen (c :: r))).length=p+(c :: r).length by rw[List.length_drop];omega]
    cases toksR ((c :: r).drop (runLen (c :: r))) (p+runLen (c :: r)) <;> rfl
end Go.Proofs.YtldfkcpbjooemaaGreatDoor
namespace Go.Proofs.YtldfkcpbjooemaaGreatDoor
def bindK (k:Nat):Nat :=
 if k=8 then 1 else if k=7 then 2 else if k=23∨k=24∨k=25∨k=26 then 3 else if k=27∨k=28 then 4 else if k=29∨k=30∨k=31 then 5 else 0
def singleK (k:Nat):Bool:=decide (k=1)||decide (k=2)||(decide (10≤k)&&decide (k≤21))
theorem wordGo_cases (t:Txt):∀ (l:List Txt) (i:Nat),(l.contains t=false∧wordGo l i t=2)∨∃ k,∃ h:k < l.length,t=l[k]∧wordGo l i t=3+(i+k)
 | [],i=>Or.inl ⟨rfl,rfl⟩
 | x :: r,i=>by
  by_cases h:x=t
  ·subst h
   exact Or.inr ⟨0,by simp,rfl,by simp[wordGo]⟩
  ·have hb:(x==t)=false:=by simpa using h
   rcases wordGo_cases t r (i+1) with ⟨h1,h2⟩ | ⟨k,hk,h1,h2⟩
   ·refine Or.inl ⟨by rw[List.contains_cons,h1,Bool.or_false,beq_eq_false_iff_ne];exact fun hh=>h hh.symm,by simp[wordGo,hb,h2]⟩
   ·exact Or.inr ⟨k+1,by simp;omega,by simpa using h1,by simp only[wordGo,hb];simp;rw[h2];omega⟩
theorem signKind_cases (t:Txt):∀ (l:List Txt) (i:Nat),(l.contains t=false∧signKind l i t=0)∨∃ k,∃ h:k < l.length,t=l[k]∧signKind l i t=22+(i+k)
 | [],i=>Or.inl ⟨rfl,rfl⟩
 | x :: r,i=>by
  by_cases h:x=t
  ·subst h
   exact Or.inr ⟨0,by simp,rfl,by simp[signKind]⟩
  ·have hb:(x==t)=false:=by simpa using h
   rcases signKind_cases t r (i+1) with ⟨h1,h2⟩ | ⟨k,hk,h1,h2⟩
   ·refine Or.inl ⟨by rw[List.contains_cons,h1,Bool.or_false,beq_eq_false_iff_ne];exact fun hh=>h hh.symm,by simp[signKind,hb,h2]⟩
   ·exact Or.inr ⟨k+1,by simp;omega,by simpa using h1,by simp only[signKind,hb];simp;rw[h2];omega⟩
theorem kind_cases (t:Txt) (h:mayT t=true) :
  (isDig (headC t)=true∧kindP t=1)∨(isLet (headC t)=true∧tWords.contains t=false∧kindP t=2) ∨
  (∃ k,∃ hk:k < 19,t=tWords[k]'hk∧kindP t=3+k)∨(∃ k,∃ hk:k < 12,t=tSign[k]'hk∧kindP t=22+k):=by
 unfold kindP
 cases h1:isDig (headC t) with
 | true=>exact Or.inl ⟨rfl,by simp⟩
 | false =>
  cases h2:isLet (headC t) with
  | true =>
   rcases wordGo_cases t tWords 0 with ⟨h3,h4⟩ | ⟨k,hk,h3,h4⟩
   ·exact Or.inr (Or.inl ⟨rfl,h3,by simpa[wordKindT] using h4⟩)
   ·exact Or.inr (Or.inr (Or.inl ⟨k,hk,h3,by simpa[wordKindT] using h4⟩))
  | false =>
   rcases signKind_cases t tSign 0 with ⟨h3,h4⟩ | ⟨k,hk,h3,h4⟩
   ·unfold mayT at h
    simp only[h1,h2,signT,h3] at h
    cases h
   ·exact Or.inr (Or.inr (Or.inr ⟨k,hk,h3,by simpa using h4⟩))
structure KindOf (t:Txt):Prop where
 pos:kindP t≠0
 klet:kindP t=3 ↔ t=cLet
 kwhen:kindP t=4 ↔ t=cWhen
 kscore:kindP t=5 ↔ t=cScore
 krej:kindP t=6 ↔ t=cReject
 kand:kindP t=7 ↔ t=cAnd
 kor:kindP t=8 ↔ t=cOr
 knot:kindP t=9 ↔ t=cNot
 ksemi:kindP t=22 ↔ t=cSemi
 keq:kindP t=23 ↔ t=cEq
 kminus:kindP t=28 ↔ t=cMinus
 kopen:kindP t=32 ↔ t=cOpen
 kclose:kindP t=33 ↔ t=cClose
 kname:kindP t=2 ↔ nameT t=true
 single:singleK (kindP t)=singleT t
 binds:bindK (kindP t)=bindsT t
 joint:jointT t=decide (0 < bindK (kindP t))
 le:kindP t≤33
theorem words_sub (t:Txt) (h:tWords.contains t=false):leafT t=false∧ownT t=false:=by
 simp only[tWords,List.contains_cons,List.contains_nil,Bool.or_false,Bool.or_eq_false_iff] at h
 obtain ⟨h1,h2,h3,h4,h5,h6,h7,h8,h9,h10,h11,h12,h13,h14,h15,h16,h17,h18,h19⟩:=h
 constructor
 ·simp only[leafT,tLeaf,List.contains_cons,List.contains_nil,Bool.or_false,Bool.or_eq_false_iff]
  exact ⟨h8,h9,h10,h11,h12,h13,h14,h15,h16,h17,h18,h19⟩
 ·simp only[ownT,tOwn,List.contains_cons,List.contains_nil,Bool.or_false,Bool.or_eq_false_iff]
  exact ⟨h1,h2,h3,h4,h5,h6,h7⟩
theorem kindOf (t:Txt) (h:mayT t=true):KindOf t:=by
 rcases kind_cases t h with ⟨h1,h2⟩ | ⟨h1,h2,h3⟩ | ⟨k,hk,rfl,h2⟩ | ⟨k,hk,rfl,h2⟩
 ·have hn:∀ u:Txt,isDig (headC u)=false→t≠u:=fun u hu e=>by rw[e,hu] at h1;cases h1
  have hb:bindsT t=0:=by
   have:jointT t=false:=by
    unfold jointT
    simp only[tJoint,List.contains_cons,List.contains_nil,Bool.or_false,Bool.or_eq_false_iff,beq_eq_false_iff_ne]
    refine ⟨?_, ?_, ?_, ?_, ?_, ?_, ?_, ?_, ?_, ?_, ?_⟩ <;> exact hn _ (by decide)
   have:=joint_binds t
   cases hz:bindsT t with
   | zero=>rfl
   | succ m=>exact absurd (this.2 (by omega)) (by simp[*])
  have hj:jointT t=false:=by cases e:jointT t with | false=>rfl | true=>have:=(joint_binds t).1 e;omega
  have hl:isLet (headC t)=false:=by
   unfold isLet isDig at *
   simp only[Bool.and_eq_true,decide_eq_true_eq,Bool.and_eq_false_iff,decide_eq_false_iff_not] at *
   left
   intro h5
   exact absurd (UInt8.le_trans h5 h1.2) (by decide)
  have hnm:nameT t=false:=by simp[nameT,hl]
  have hsg:singleT t=true:=by simp[singleT,h1]
  refine ⟨?_, ?_, ?_, ?_, ?_, ?_, ?_, ?_, ?_, ?_, ?_, ?_, ?_, ?_, ?_, ?_, ?_, ?_⟩ <;> rw[h2]
  ·decide
  iterate 12 exact ⟨fun h=>absurd h (by decide),fun h=>absurd h (hn _ (by decide))⟩
  ·rw[hnm];simp
  ·rw[hsg];rfl
  ·rw[hb];rfl
  ·rw[hj];rfl
  ·decide
 ·have hw:=words_sub t h2
  have hd:isDig (headC t)=false:=by
   unfold isLet isDig at *
   simp only[Bool.and_eq_true,decide_eq_true_eq,Bool.and_eq_false_iff,decide_eq_false_iff_not] at *
   right
   intro h5
   exact absurd (UInt8.le_trans h1.1 h5) (by decide)
  have hn:∀ u:Txt,isLet (headC u)=false→t≠u:=fun u hu e=>by rw[e,hu] at h1;cases h1
  have hn2:∀ u:Txt,ownT u=true→t≠u:=fun u hu e=>by rw[e,hu] at hw;cases hw.2
  have hj:jointT t=false:=by
   unfold jointT
   simp only[tJoint,List.contains_cons,List.contains_nil,Bool.or_false,Bool.or_eq_false_iff,beq_eq_false_iff_ne]
   refine ⟨hn2 _ (by decide),hn2 _ (by decide), ?_, ?_, ?_, ?_, ?_, ?_, ?_, ?_, ?_⟩ <;> exact hn _ (by decide)
  have hb:bindsT t=0:=by
   have:=joint_binds t
   cases hz:bindsT t with
   | zero=>rfl
   | succ m=>exact absurd (this.2 (by omega)) (by simp[*])
  have hnm:nameT t=true:=by simp[nameT,h1,hw.1,hw.2]
  have hsg:singleT t=true:=by simp[singleT,hnm]
  refine ⟨?_, ?_, ?_, ?_, ?_, ?_, ?_, ?_, ?_, ?_, ?_, ?_, ?_, ?_, ?_, ?_, ?_, ?_⟩ <;> rw[h3]
  ·decide
  iterate 7 exact ⟨fun h=>absurd h (by decide),fun h=>absurd h (hn2 _ (by decide))⟩
  iterate 5 exact ⟨fun h=>absurd h (by decide),fun h=>absurd h (hn _ (by decide))⟩
  ·rw[hnm];simp
  ·rw[hsg];rfl
  ·rw[hb];rfl
  ·rw[hj];rfl
  ·decide
 ·have:∀ u∈tWords,KindOf u:=by
   intro u hu
   simp only[tWords,List.mem_cons,List.not_mem_nil,or_false] at hu
   rcases hu with rfl | rfl | rfl | rfl | rfl | rfl | rfl | rfl | rfl | rfl | rfl | rfl | rfl | rfl | rfl | rfl | rfl | rfl | rfl
   all_goals (clear h2 h;refine ⟨?_, ?_, ?_, ?_, ?_, ?_, ?_, ?_, ?_, ?_, ?_, ?_, ?_, ?_, ?_, ?_, ?_, ?_⟩ <;> decide)
  exact this _ (List.getElem_mem _)
 ·have:∀ u∈tSign,KindOf u:=by
   intro u hu
   simp only[tSign,List.mem_cons,List.not_mem_nil,or_false] at hu
   rcases hu with rfl | rfl | rfl | rfl | rfl | rfl | rfl | rfl | rfl | rfl | rfl | rfl
   all_goals (clear h2 h;refine ⟨?_, ?_, ?_, ?_, ?_, ?_, ?_, ?_, ?_, ?_, ?_, ?_, ?_, ?_, ?_, ?_, ?_, ?_⟩ <;> decide)
  exact this _ (List.getElem_mem _)
end Go.Proofs.YtldfkcpbjooemaaGreatDoor
namespace Go.Proofs.YtldfkcpbjooemaaGreatDoor
open Go.Deep
structure PNode where
 tok:RTok
 ops:Nat
 left:Nat
 right:Nat
def numB:BT (RTok × RTok)→Nat
 | .nil=>0
 | .node 0 _ a _ _=>1
 | .node 1 _ a e _=>numB e+1
 | .node 2 _ a l r=>numB l+numB r+1
 | .node _ _ a e _=>numB e
def flatB:Nat→BT (RTok × RTok)→List PNode
 | _,.nil=>[]
 | _,.node 0 _ a _ _=>[⟨a.1,0,0,0⟩]
 | b,.node 1 _ a e _=>flatB b e++[⟨a.1,1,b+numB e - 1,0⟩]
 | b,.node 2 _ a l r=>flatB b l++flatB (b+numB l) r++[⟨a.1,2,b+numB l - 1,b+numB l+numB r - 1⟩]
 | b,.node _ _ a e _=>flatB b e
def Tr.num (t:Tr):Nat:=numB t
def Tr.flat (b:Nat) (t:Tr):List PNode:=flatB b t
theorem Tr.num_leaf (t:RTok):(Tr.leaf t).num=1:=rfl
theorem Tr.num_un (op:RTok) (e:Tr):(Tr.un op e).num=e.num+1:=rfl
theorem Tr.num_bin (op:RTok) (l r:Tr):(Tr.bin op l r).num=l.num+r.num+1:=rfl
theorem Tr.num_par (o:RTok) (e:Tr) (c:RTok):(Tr.par o e c).num=e.num:=rfl
theorem Tr.flat_leaf (b:Nat) (t:RTok):(Tr.leaf t).flat b=[⟨t,0,0,0⟩]:=rfl
theorem Tr.flat_un (b:Nat) (op:RTok) (e:Tr):(Tr.un op e).flat b=e.flat b++[⟨op,1,b+e.num - 1,0⟩]:=rfl
theorem Tr.flat_bin (b:Nat) (op:RTok) (l r:Tr):(Tr.bin op l r).flat b=l.flat b++r.flat (b+l.num)++[⟨op,2,b+l.num - 1,b+l.num+r.num - 1⟩]:=rfl
theorem Tr.flat_par (b:Nat) (o:RTok) (e:Tr) (c:RTok):(Tr.par o e c).flat b=e.flat b:=rfl
theorem Tr.num_pos (t:Tr) (h:t.wf):1≤t.num:=by
 refine Tr.ind (P:=fun t=>1≤t.num) t h ?_ ?_ ?_ ?_
 ·intro t _;rw[Tr.num_leaf];omega
 ·intro op e _ _;rw[Tr.num_un];omega
 ·intro op l r _ _ _;rw[Tr.num_bin];omega
 ·intro o e c _ he;rw[Tr.num_par];exact he
theorem Tr.num_le (t:Tr) (h:t.wf):t.num≤t.toks.length:=by
 refine Tr.ind (P:=fun t=>t.num≤t.toks.length) t h ?_ ?_ ?_ ?_
 ·intro t _;rw[Tr.num_leaf,Tr.toks_leaf];simp
 ·intro op e _ he;rw[Tr.num_un,Tr.toks_un];simp;omega
 ·intro op l r _ h1 h2;rw[Tr.num_bin,Tr.toks_bin];simp;omega
 ·intro o e c _ he;rw[Tr.num_par,Tr.toks_par];simp;omega
theorem Tr.flat_len (t:Tr) (h:t.wf):∀ b,(t.flat b).length=t.num:=by
 refine Tr.ind (P:=fun t=>∀ b,(t.flat b).length=t.num) t h ?_ ?_ ?_ ?_
 ·intro t _ b;rfl
 ·intro op e _ he b;rw[Tr.flat_un,Tr.num_un,List.length_append,he];rfl
 ·intro op l r _ h1 h2 b;rw[Tr.flat_bin,Tr.num_bin,List.length_append,List.length_append,h1,h2];rfl
 ·intro o e c _ he b;rw[Tr.flat_par,Tr.num_par,he]
theorem goS_append:∀ (a b:List RTok) (p:Spot),goS p (a++b)=match goS p a with | .ok q=>goS q b | .error e=>.error e
 | [],b,p=>rfl
 | t :: r,b,p=>by
  simp only[List.cons_append,goS]
  split
  ·exact goS_append r b _
  ·rfl
theorem goS_ok {a b:List RTok} {p q:Spot} (h:goS p a=.ok q):goS p (a++b)=goS q b:=by rw[goS_append,h]
theorem goS_cons {t:RTok} {r:List RTok} {p q:Spot} (h:stepS p t.text=(q,true)):goS p (t :: r)=goS q r:=by simp only[goS,h,if_true]
structure BadS (p:Spot) (l:List RTok) (k:Nat):Prop where
 le:k≤l.length
 ex:∃ q,goS p (l.take k)=.ok q∧(l.length≤k→q.next≠6)∧∀ h:k < l.length,(stepS q l[k].text).2=false
theorem BadS.here2 {p:Spot} {l:List RTok} (hp:l=[]→p.next≠6) (h:∀ a r,l=a :: r→(stepS p a.text).2=false):BadS p l 0:=by
 refine ⟨Nat.zero_le _,p,rfl,fun hl=>hp (List.eq_nil_of_length_eq_zero (by omega)),fun hl=>?_⟩
 cases l with
 | nil=>cases hl
 | cons a r=>exact h a r rfl
theorem BadS.here {p:Spot} {l:List RTok} (hp:p.next≠6) (h:∀ a r,l=a :: r→(stepS p a.text).2=false):BadS p l 0:=BadS.here2 (fun _=>hp) h
theorem BadS.behind {p q:Spot} {a b:List RTok} {k:Nat} (h:goS p a=.ok q) (hb:BadS q b k):BadS p (a++b) (a.length+k):=by
 obtain ⟨h1,q',h2,h3,h4⟩:=hb
 refine ⟨by simp;omega,q', ?_,fun hh=>h3 (by simp at hh;omega),fun hl=>?_⟩
 ·rw[List.take_length_add_append,goS_ok h];exact h2
 ·rw[List.getElem_append_right (by omega)]
  have:=h4 (by simp at hl;omega)
  simpa using this
theorem BadS.one {p q:Spot} {t:RTok} {b:List RTok} {k:Nat} (h:stepS p t.text=(q,true)) (hb:BadS q b k):BadS p (t :: b) (k+1):=by
 have:=BadS.behind (a:=[t]) (p:=p) (q:=q) (by rw[goS_cons h];rfl) hb
 rw[show k+1=[t].length+k by simp;omega]
 exact this
structure GotO (d:Nat) (l:List RTok) (t:Tr) (rest:List RTok):Prop where
 eq:l=t.toks++rest
 wf:t.wf
 go:∀ x,goS ⟨3,x,d⟩ t.toks=.ok ⟨4,x,d⟩
def stops (least:Nat) (rest:List RTok):Prop:=∀ a r,rest=a :: r→bindsT a.text < least∨bindsT a.text=0
def BadV (d:Nat) (l:List RTok) (k:Nat):Prop:=∀ x,BadS ⟨3,x,d⟩ l k
theorem value_leaf {a:RTok} (hm:mayT a.text=true) (hs:singleT a.text=true) (x d:Nat):stepS ⟨3,x,d⟩ a.text=(⟨4,x,d⟩,true):=by
 have K:=kindOf _ hm
 have h1:singleK (kindP a.text)=true:=by rw[K.single];exact hs
 have n1:a.text≠cMinus:=fun e=>by rw[K.kminus.2 e] at h1;cases h1
 have n2:a.text≠cNot:=fun e=>by rw[K.knot.2 e] at h1;cases h1
 have n3:a.text≠cOpen:=fun e=>by rw[K.kopen.2 e] at h1;cases h1
 unfold singleT at hs
 simp[stepS,valueS,n1,n2,n3,hs]
theorem leaf_wf {a:RTok} (hm:mayT a.text=true) (hs:singleT a.text=true):(Tr.leaf a).wf:=by
 have K:=kindOf _ hm
 have h1:singleK (kindP a.text)=true:=by rw[K.single];exact hs
 have n1:a.text≠cMinus:=fun e=>by rw[K.kminus.2 e] at h1;cases h1
 have n2:a.text≠cNot:=fun e=>by rw[K.knot.2 e] at h1;cases h1
 have n3:a.text≠cOpen:=fun e=>by rw[K.kopen.2 e] at h1;cases h1
 have n4:a.text≠cClose:=fun e=>by rw[K.kclose.2 e] at h1;cases h1
 refine ⟨⟨rfl,rfl,rfl,rfl⟩,hs,n3,n4,by simp[unT,n1,n2], ?_⟩
 rw[← K.binds]
 unfold singleK at h1
 simp only[Bool.or_eq_true,Bool.and_eq_true,decide_eq_true_eq] at h1
 unfold bindK
 split;omega
 split;omega
 split;omega
 split;omega
 split;omega
 rfl
theorem GotO.leaf {a:RTok} {r:List RTok} (hm:mayT a.text=true) (hs:singleT a.text=true) (d:Nat):GotO d (a :: r) (Tr.leaf a) r :=
 ⟨rfl,leaf_wf hm hs,fun x=>by rw[Tr.toks_leaf,goS_cons (value_leaf hm hs x d)];rfl⟩
theorem value_un {a:RTok} (hu:unT a.text=true) (x d:Nat):stepS ⟨3,x,d⟩ a.text=(⟨3,x,d⟩,true):=by
 unfold unT at hu
 simp only[stepS,valueS,hu,if_true]
 rfl
theorem GotO.un {op:RTok} {r rest:List RTok} {d:Nat} {t:Tr} (hu:unT op.text=true) (h:GotO d r t rest) (hl:t.level=6):GotO d (op :: r) (Tr.un op t) rest :=
 ⟨by rw[h.eq];rfl,⟨⟨rfl,rfl,rfl⟩,hu,hl,h.wf⟩,fun x=>by rw[Tr.toks_un,goS_cons (value_un hu x d)];exact h.go x⟩
theorem BadV.un {op:RTok} {r:List RTok} {d k:Nat} (hu:unT op.text=true) (h:BadV d r k):BadV d (op :: r) (k+1):=fun x=>BadS.one (value_un hu x d) (h x)
theorem value_open {a:RTok} (ho:a.text=cOpen) (x d:Nat) (hd:d < 8):stepS ⟨3,x,d⟩ a.text=(⟨3,x,d+1⟩,true):=by
 have:d+1≤8:=hd
 simp[stepS,valueS,ho,cOpen,cMinus,cNot,this]
theorem after_close {a:RTok} (hc:a.text=cClose) (x d:Nat):stepS ⟨4,x,d+1⟩ a.text=(⟨4,x,d⟩,true):=by
 simp[stepS,afterS,hc,show jointT cClose=false by decide]
theorem GotO.par {o c:RTok} {r rest:List RTok} {d:Nat} {t:Tr} (ho:o.text=cOpen) (hc:c.text=cClose) (hd:d < 8) (h:GotO (d+1) r t (c :: rest)):GotO d (o :: r) (Tr.par o t c) rest :=
 ⟨by rw[h.eq,Tr.toks_par];simp,⟨⟨rfl,rfl⟩,ho,hc,h.wf⟩,fun x=>by rw[Tr.toks_par,goS_cons (value_open ho x d hd),goS_ok (h.go x),goS_cons (after_close hc x d)];rfl⟩
theorem BadV.par {o:RTok} {r:List RTok} {d k:Nat} (ho:o.text=cOpen) (hd:d < 8) (h:BadV (d+1) r k):BadV d (o :: r) (k+1):=fun x=>BadS.one (value_open ho x d hd) (h x)
theorem BadV.close {o:RTok} {r rest:List RTok} {d:Nat} {t:Tr} (ho:o.text=cOpen) (hd:d < 8) (h:GotO (d+1) r t rest) (hs:stops 1 rest) (hc:∀ a r',rest=a :: r'→a.text≠cClose):BadV d (o :: r) (t.toks.length+1):=by
 intro x
 refine BadS.one (value_open ho x d hd) ?_
 rw[h.eq]
 have:=BadS.behind (h.go x) (BadS.here (p:=⟨4,x,d+1⟩) (l:=rest) (by simp) fun a r' e=>?_)
 ·exact this
 ·have h1:=hs a r' e
  have h2:jointT a.text=false:=by
   cases hj:jointT a.text with
   | false=>rfl
   | true=>have:=(joint_binds _).1 hj;omega
  simp[stepS,afterS,h2]
  exact hc a r' e
theorem BadV.none {l:List RTok} {d:Nat} (h:∀ a r,l=a :: r→mayT a.text=true∧singleT a.text=false∧unT a.text=false∧(a.text=cOpen→8≤d)):BadV d l 0:=by
 intro x
 refine BadS.here (by simp) fun a r e=>?_
 obtain ⟨h0,h1,h2,h3⟩:=h a r e
 unfold singleT at h1
 unfold unT at h2
 by_cases ho:a.text=cOpen
 ·have:=h3 ho
  simp[stepS,valueS,ho,cOpen,cMinus,cNot]
  omega
 ·simp at h1 h2
  simp[stepS,valueS,h1,h2,ho]
theorem after_joint {a:RTok} (hj:0 < bindsT a.text) (x d:Nat):stepS ⟨4,x,d⟩ a.text=(⟨3,x,d⟩,true):=by
 simp[stepS,afterS,(joint_binds a.text).2 hj]
theorem BadV.right {l r:List RTok} {op:RTok} {d k:Nat} {t:Tr} (h:GotO d l t (op :: r)) (hj:0 < bindsT op.text) (hb:BadV d r k):BadV d l (t.toks.length+(k+1)):=by
 intro x
 rw[h.eq]
 exact BadS.behind (h.go x) (BadS.one (after_joint hj x d) (hb x))
theorem GotO.bin {l r rest:List RTok} {op:RTok} {d:Nat} {t u:Tr} (hm:mayT op.text=true) (h:GotO d l t (op :: r)) (hj:0 < bindsT op.text) (hl:bindsT op.text≤t.level) (g:GotO d r u rest) (hr:bindsT op.text < u.level):GotO d l (Tr.bin op t u) rest:=by
 have K:=kindOf _ hm
 have n3:op.text≠cOpen:=fun e=>by rw[e] at hj;revert hj;decide
 have n4:op.text≠cClose:=fun e=>by rw[e] at hj;revert hj;decide
 refine ⟨by rw[h.eq,g.eq,Tr.toks_bin];simp,⟨⟨rfl,rfl⟩,hj,n3,n4,hl,hr,h.wf,g.wf⟩,fun x=>?_⟩
 rw[Tr.toks_bin,goS_ok (h.go x),goS_cons (after_joint hj x d)]
 exact g.go x
end Go.Proofs.YtldfkcpbjooemaaGreatDoor
namespace Go.Proofs.YtldfkcpbjooemaaGreatDoor
open Go.Deep
theorem no_joint {a:RTok} {rest r:List RTok} (hs:stops 1 rest) (e:rest=a :: r):jointT a.text=false:=by
 have h1:=hs a r e
 cases hj:jointT a.text with
 | false=>rfl
 | true=>have:=(joint_binds _).1 hj;omega
def RuleAt (p:Spot):Prop:=(p.next=0∨p.next=6)∧p.opn=0
theorem rule_step {p:Spot} (hp:RuleAt p) {t:Txt} (h:p.next=0→t≠cLet):stepS p t=ruleS p t true:=by
 obtain ⟨h1 | h1,h2⟩:=hp
 ·have:=h h1
  simp[stepS,h1,this]
 ·simp[stepS,h1]
theorem let_one {t:Txt} (h:t=cLet):stepS ⟨0,0,0⟩ t=(⟨1,0,0⟩,true):=by subst h;rfl
theorem let_two {t:Txt} (h:nameT t=true):stepS ⟨1,0,0⟩ t=(⟨2,0,0⟩,true):=by simp[stepS,h]
theorem let_two_bad {t:Txt} (h:nameT t=false):(stepS ⟨1,0,0⟩ t).2=false:=by simp[stepS,h]
theorem let_three {t:Txt} (h:t=cEq):stepS ⟨2,0,0⟩ t=(⟨3,0,0⟩,true):=by subst h;rfl
theorem let_three_bad {t:Txt} (h:t≠cEq):(stepS ⟨2,0,0⟩ t).2=false:=by simp[stepS,h]
theorem let_end {t:Txt} (h:t=cSemi):stepS ⟨4,0,0⟩ t=(⟨0,0,0⟩,true):=by subst h;rfl
theorem let_end_bad {t:Txt} (hj:jointT t=false) (h:t≠cSemi):(stepS ⟨4,0,0⟩ t).2=false:=by simp[stepS,afterS,hj,h]
theorem score_end {t:Txt} (h:t=cSemi):stepS ⟨4,2,0⟩ t=(⟨6,2,0⟩,true):=by subst h;rfl
theorem score_end_bad {t:Txt} (hj:jointT t=false) (h:t≠cSemi):(stepS ⟨4,2,0⟩ t).2=false:=by simp[stepS,afterS,hj,h]
theorem rej_end {x:Nat} {t:Txt} (h:t=cSemi):stepS ⟨5,x,0⟩ t=(⟨6,x,0⟩,true):=by subst h;rfl
theorem rej_end_bad {x:Nat} {t:Txt} (h:t≠cSemi):(stepS ⟨5,x,0⟩ t).2=false:=by simp[stepS,h]
theorem when_rule {t:Txt} (hj:jointT t=false):stepS ⟨4,1,0⟩ t=ruleS ⟨4,1,0⟩ t false:=by simp[stepS,afterS,hj]
structure GotS (p:Spot) (l:List RTok) (s:RSt) (rest:List RTok) (q:Spot):Prop where
 eq:l=s.toks++rest
 wf:s.wf
 go:goS p s.toks=.ok q
theorem let_got {kw name eq semi:RTok} {r rest:List RTok} {e:Tr} (h1:kw.text=cLet) (h2:nameT name.text=true) (h3:eq.text=cEq) (g:GotO 0 r e (semi :: rest)) (h4:semi.text=cSemi) :
  GotS ⟨0,0,0⟩ (kw :: name :: eq :: r) (.letS kw name eq e semi) rest ⟨0,0,0⟩:=by
 refine ⟨?_,⟨h1,h2,h3,g.wf,h4⟩, ?_⟩
 ·rw[g.eq,RSt.toks,RSt.body_let];simp[RSt.letS,RSt.semi]
 ·simp only[RSt.toks,RSt.body_let,List.cons_append]
  rw[goS_cons (let_one h1),goS_cons (let_two h2),goS_cons (let_three h3),goS_ok (g.go 0)]
  exact goS_cons (let_end h4)
theorem let_bad_name {kw:RTok} {l:List RTok} (h1:kw.text=cLet) (h:∀ a r,l=a :: r→nameT a.text=false):BadS ⟨0,0,0⟩ (kw :: l) 1 :=
 BadS.one (let_one h1) (BadS.here (by simp) fun a r e=>let_two_bad (h a r e))
theorem let_bad_eq {kw name:RTok} {l:List RTok} (h1:kw.text=cLet) (h2:nameT name.text=true) (h:∀ a r,l=a :: r→a.text≠cEq):BadS ⟨0,0,0⟩ (kw :: name :: l) 2 :=
 BadS.one (let_one h1) (BadS.one (let_two h2) (BadS.here (by simp) fun a r e=>let_three_bad (h a r e)))
theorem let_bad_expr {kw name eq:RTok} {l:List RTok} {k:Nat} (h1:kw.text=cLet) (h2:nameT name.text=true) (h3:eq.text=cEq) (h:BadV 0 l k):BadS ⟨0,0,0⟩ (kw :: name :: eq :: l) (k+3) :=
 BadS.one (let_one h1) (BadS.one (let_two h2) (BadS.one (let_three h3) (h 0)))
theorem let_bad_end {kw name eq:RTok} {l rest:List RTok} {e:Tr} (h1:kw.text=cLet) (h2:nameT name.text=true) (h3:eq.text=cEq) (g:GotO 0 l e rest) (hs:stops 1 rest) (h:∀ a r,rest=a :: r→a.text≠cSemi):BadS ⟨0,0,0⟩ (kw :: name :: eq :: l) (e.toks.length+3):=by
 refine BadS.one (let_one h1) (BadS.one (let_two h2) (BadS.one (let_three h3) ?_))
 rw[g.eq]
 exact (BadS.here (p:=⟨4,0,0⟩) (by simp) fun a r e=>let_end_bad (no_joint hs e) (h a r e)).behind (g.go 0)
theorem ruleS_score {p:Spot} {t:Txt} {b:Bool} (h:t=cScore) (ho:p.opn=0):ruleS p t b=(⟨3,2,0⟩,true):=by
 subst h;simp[ruleS,ho,cScore,cWhen]
theorem ruleS_rej {p:Spot} {t:Txt} {b:Bool} (h:t=cReject) (ho:p.opn=0):ruleS p t b=(⟨5,p.expr,0⟩,true):=by
 subst h;simp[ruleS,ho,cScore,cWhen,cReject]
theorem ruleS_when {p:Spot} {t:Txt} (h:t=cWhen) (ho:p.opn=0):ruleS p t true=(⟨3,1,0⟩,true):=by
 subst h;simp[ruleS,ho]
theorem ruleS_bad {p:Spot} {t:Txt} {b:Bool} (h1:b=true→t≠cWhen) (h2:t≠cScore) (h3:t≠cReject):(ruleS p t b).2=false:=by
 cases b with
 | false=>simp[ruleS,h2,h3]
 | true=>simp[ruleS,h2,h3,h1 rfl]
structure Acts (p:Spot) (b:Bool) (l:List RTok):Prop where
 opn:p.opn=0
 nx:∀ a r,l=a :: r→stepS p a.text=ruleS p a.text b
theorem acts_bad_score {p:Spot} {b:Bool} {act:RTok} {r:List RTok} {k:Nat} (A:Acts p b (act :: r)) (h1:act.text=cScore) (g:BadV 0 r k):BadS p (act :: r) (k+1) :=
 BadS.one ((A.nx act r rfl).trans (ruleS_score h1 A.opn)) (g 2)
theorem acts_bad_here {p:Spot} {b:Bool} {l:List RTok} (A:Acts p b l) (hp:l=[]→p.next≠6) (h:∀ a r,l=a :: r→(b=true→a.text≠cWhen)∧a.text≠cScore∧a.text≠cReject):BadS p l 0 :=
 BadS.here2 hp fun a r e=>by rw[A.nx a r e];exact ruleS_bad (h a r e).1 (h a r e).2.1 (h a r e).2.2
theorem acts_first {p:Spot} {l:List RTok} (hp:RuleAt p) (h:p.next=0→∀ a r,l=a :: r→a.text≠cLet):Acts p true l :=
 ⟨hp.2,fun a r e=>rule_step hp fun h0=>h h0 a r e⟩
theorem acts_when {rest:List RTok} (hs:stops 1 rest):Acts ⟨4,1,0⟩ false rest:=⟨rfl,fun a r e=>when_rule (no_joint hs e)⟩
theorem when_go {p:Spot} {w:RTok} {r rest:List RTok} {e:Tr} (A:Acts p true (w :: r)) (h:w.text=cWhen) (g:GotO 0 r e rest):goS p (w :: e.toks)=.ok ⟨4,1,0⟩:=by
 rw[goS_cons ((A.nx w r rfl).trans (ruleS_when h A.opn))];exact g.go 1
theorem when_bad {p:Spot} {w:RTok} {r:List RTok} {k:Nat} (A:Acts p true (w :: r)) (h:w.text=cWhen) (g:BadV 0 r k):BadS p (w :: r) (k+1) :=
 BadS.one ((A.nx w r rfl).trans (ruleS_when h A.opn)) (g 1)
end Go.Proofs.YtldfkcpbjooemaaGreatDoor
