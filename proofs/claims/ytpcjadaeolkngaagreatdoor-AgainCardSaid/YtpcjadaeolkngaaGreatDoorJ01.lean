/-
  What is wrong with the kinds of a policy, as the document looks for it.
-/
import Derived.Test.YtpcjadaeolkngaaGreatDoorJ00
set_option linter.unusedVariables false
set_option linter.unusedSimpArgs false
namespace Go.Proofs.YtpcjadaeolkngaaGreatDoor
def letsK:List (Txt×Nat)→List RSt→Except Nat (List (Txt×Nat))
 | c,[]=>.ok c
 | c,s :: r=>Sum.elim (fun d:LetD=>match kindT c d.e with
   | .error p=>.error p
   | .ok k=>letsK (c++[(d.name.text,k)]) r) (fun _:RuleD=>letsK c r) s
def firstAt(t:Tr):Nat:=((t.toks[0]?).map RTok.at').getD 0
def exprK(c:List (Txt×Nat))(want:Nat):Option Tr→Option Nat
 | none=>none
 | some e=>match kindT c e with
  | .error p=>some p
  | .ok k=>if k=want then none else some (firstAt e)
def rulesK(c:List (Txt×Nat)):List RSt→Option Nat
 | []=>none
 | s :: r=>Sum.elim (fun _:LetD=>rulesK c r) (fun d:RuleD=>match exprK c 2 (d.wh.map Prod.snd) with
   | some p=>some p
   | none=>match exprK c 1 d.sc with
    | some p=>some p
    | none=>rulesK c r) s
theorem letsK_let(c:List (Txt×Nat))(kw name eq:RTok)(e:Tr)(semi:RTok)(r:List RSt):letsK c (.letS kw name eq e semi :: r)=match kindT c e with
  | .error p=>.error p
  | .ok k=>letsK (c++[(name.text,k)]) r:=rfl
theorem rulesK_rule(c:List (Txt×Nat))(wh:Option (RTok×Tr))(act:RTok)(sc:Option Tr)(semi:RTok)(r:List RSt):rulesK c (.rule wh act sc semi :: r)=match exprK c 2 (wh.map Prod.snd) with
  | some p=>some p
  | none=>match exprK c 1 sc with
   | some p=>some p
   | none=>rulesK c r:=rfl
def wrongT(lets rules:List RSt):Option Nat:=match letsK [] lets with
 | .error p=>some p
 | .ok c=>rulesK c rules
theorem letsK_err{c:List (Txt×Nat)}{kw name eq:RTok}{e:Tr}{semi:RTok}{r:List RSt}{p:Nat}(h:kindT c e=.error p):letsK c (.letS kw name eq e semi :: r)=.error p:=by simp only[letsK_let,h]
theorem letsK_ok{c:List (Txt×Nat)}{kw name eq:RTok}{e:Tr}{semi:RTok}{r:List RSt}{k:Nat}(h:kindT c e=.ok k):letsK c (.letS kw name eq e semi :: r)=letsK (c++[(name.text,k)]) r:=by simp only[letsK_let,h]
theorem wrongT_err{L R:List RSt}{p:Nat}(h:letsK [] L=.error p):wrongT L R=some p:=by simp only[wrongT,h]
theorem wrongT_ok{L R:List RSt}{c:List (Txt×Nat)}(h:letsK [] L=.ok c):wrongT L R=rulesK c R:=by simp only[wrongT,h]
theorem rulesK_w{c:List (Txt×Nat)}{wh:Option (RTok×Tr)}{act:RTok}{sc:Option Tr}{semi:RTok}{r:List RSt}{p:Nat}(h:exprK c 2 (wh.map Prod.snd)=some p):rulesK c (.rule wh act sc semi :: r)=some p:=by simp only[rulesK_rule,h]
theorem rulesK_s{c:List (Txt×Nat)}{wh:Option (RTok×Tr)}{act:RTok}{sc:Option Tr}{semi:RTok}{r:List RSt}{p:Nat}(h:exprK c 2 (wh.map Prod.snd)=none)(h2:exprK c 1 sc=some p):rulesK c (.rule wh act sc semi :: r)=some p:=by simp only[rulesK_rule,h,h2]
theorem rulesK_n{c:List (Txt×Nat)}{wh:Option (RTok×Tr)}{act:RTok}{sc:Option Tr}{semi:RTok}{r:List RSt}(h:exprK c 2 (wh.map Prod.snd)=none)(h2:exprK c 1 sc=none):rulesK c (.rule wh act sc semi :: r)=rulesK c r:=by simp only[rulesK_rule,h,h2]
def tWords:List Txt:=[[108,101,116],[119,104,101,110],[115,99,111,114,101],[114,101,106,101,99,116],[97,110,100],[111,114],[110,111,116],[116,114,117,101],[102,97,108,115,101],[100,114,121],[99,111,108,100],[115,97,102,101],[115,105,122,101],[115,112,101,101,100],[110,101,101,100],[122,111,110,101],[99,97,112],[117,115,101,100],[104,97,115]]
def digitRowT(t:Txt):Nat:=(t.takeWhile isDig).length
def letterRowT(t:Txt):Nat:=(t.takeWhile isLet).length
def wordGo:List Txt→Nat→Txt→Nat
 | [],_,_=>2
 | x :: r,i,t=>if x==t then 3+i else wordGo r (i+1) t
def wordKindT(t:Txt):Nat:=wordGo tWords 0 t
def signGo:List Txt→Nat→Nat→Nat→Txt→Nat×Nat
 | [],_,k,n,_=>(k,n)
 | x :: r,i,k,n,t=>if n<x.length∧x.length≤t.length∧(t.take x.length==x)=true then signGo r (i+1) (22+i) x.length t else signGo r (i+1) k n t
def firstSignT(t:Txt):Nat×Nat:=signGo tSign 0 0 0 t
def firstT(t:Txt):Nat×Nat :=
 if 18<digitRowT t then (0,0)
 else if 0<digitRowT t then (1,digitRowT t)
 else if 8<letterRowT t then (0,0)
 else if 0<letterRowT t then (wordKindT (t.take (letterRowT t)),letterRowT t)
 else firstSignT t
structure PTok where
 kind:Nat
 place:Nat
 text:Txt
theorem takeWhile_length_le(p:UInt8→Bool)(t:Txt):(t.takeWhile p).length≤t.length:=(List.takeWhile_sublist p).length_le
theorem signGo_le:∀ (l:List Txt) (i k n:Nat) (t:Txt),n≤t.length→(signGo l i k n t).2≤t.length
 | [],_,_,_,_,h=>h
 | x :: r,i,k,n,t,h=>by
  simp only[signGo]
  split
  ·rename_i hc;exact signGo_le r _ _ _ t hc.2.1
  ·exact signGo_le r _ _ _ t h
theorem firstT_le(t:Txt):(firstT t).2≤t.length:=by
 unfold firstT
 split
 ·exact Nat.zero_le _
 ·split
  ·exact takeWhile_length_le _ _
  ·split
   ·exact Nat.zero_le _
   ·split
    ·exact takeWhile_length_le _ _
    ·exact signGo_le _ _ _ _ t (Nat.zero_le _)
def toksPF:Nat→Txt→Nat→Except Nat (List PTok)
 | _,[],pos=>.ok [⟨0,pos,[]⟩]
 | 0,_ :: _,_=>.ok []
 | n+1,c :: r,pos =>
  if blankC c then toksPF n r (pos+1)
  else if (firstT (c :: r)).2=0 then .error pos
  else match toksPF n ((c :: r).drop (firstT (c :: r)).2) (pos+(firstT (c :: r)).2) with
   | .ok l=>.ok (⟨(firstT (c :: r)).1,pos,(c :: r).take (firstT (c :: r)).2⟩ :: l)
   | .error e=>.error e
def toksP(s:Txt)(pos:Nat):Except Nat (List PTok):=toksPF s.length s pos
theorem toksPF_more:∀ (n m:Nat) (s:Txt) (pos:Nat),s.length≤n→s.length≤m→toksPF n s pos=toksPF m s pos
 | 0,0,[],_,_,_=>rfl
 | 0,_+1,[],_,_,_=>rfl
 | _+1,0,[],_,_,_=>rfl
 | _+1,_+1,[],_,_,_=>rfl
 | 0,_,c :: r,_,h,_=>by simp at h
 | _+1,0,c :: r,_,_,h=>by simp at h
 | n+1,m+1,c :: r,pos,h1,h2=>by
  have h1':r.length≤n:=by simpa using h1
  have h2':r.length≤m:=by simpa using h2
  simp only[toksPF]
  by_cases h0:(firstT (c :: r)).2=0
  ·rw[if_pos h0,if_pos h0,toksPF_more n m r (pos+1) h1' h2']
  ·rw[if_neg h0,if_neg h0,toksPF_more n m r (pos+1) h1' h2',toksPF_more n m ((c :: r).drop (firstT (c :: r)).2) (pos+(firstT (c :: r)).2) (by rw[List.length_drop,List.length_cons];omega) (by rw[List.length_drop,List.length_cons];omega)]
theorem toksP_nil(pos:Nat):toksP [] pos=.ok [⟨0,pos,[]⟩]:=rfl
theorem toksP_cons(c:UInt8)(r:Txt)(pos:Nat):toksP (c :: r) pos=if blankC c then toksP r (pos+1)
  else if (firstT (c :: r)).2=0 then .error pos
  else match toksP ((c :: r).drop (firstT (c :: r)).2) (pos+(firstT (c :: r)).2) with
   | .ok l=>.ok (⟨(firstT (c :: r)).1,pos,(c :: r).take (firstT (c :: r)).2⟩ :: l)
   | .error e=>.error e:=by
 unfold toksP
 rw[List.length_cons,toksPF]
 by_cases h0:(firstT (c :: r)).2=0
 ·rw[if_pos h0,if_pos h0]
 ·rw[if_neg h0,if_neg h0,toksPF_more r.length ((c :: r).drop (firstT (c :: r)).2).length _ _ (by rw[List.length_drop,List.length_cons];omega) (Nat.le_refl _)]
theorem same_dig{a b:UInt8}(h:isDig a=true):sameC a b=isDig b:=by
 unfold sameC
 have h1:isLet a=false:=by
  unfold isDig at h;unfold isLet
  simp only[Bool.and_eq_true,decide_eq_true_eq,UInt8.le_iff_toNat_le]at h
  simp[UInt8.le_iff_toNat_le,UInt8.lt_iff_toNat_lt]
  have:=h.2
  intro h'
  simp at this h'
  omega
 have h2:(a==60)=false∧(a==33)=false:=by
  constructor
  ·cases h3:(a==60)
   ·rfl
   ·have:a=60:=by simpa using h3
    subst this;revert h;decide
  ·cases h3:(a==33)
   ·rfl
   ·have:a=33:=by simpa using h3
    subst this;revert h;decide
 simp[h,h1,h2.1,h2.2]
theorem same_let{a b:UInt8}(h:isLet a=true):sameC a b=isLet b:=by
 unfold sameC
 have h1:isDig a=false:=by
  unfold isLet at h;unfold isDig
  simp only[Bool.and_eq_true,decide_eq_true_eq,UInt8.le_iff_toNat_le]at h
  simp[UInt8.le_iff_toNat_le,UInt8.lt_iff_toNat_lt]
  have:=h.1
  intro h'
  simp at this h' ⊢
  omega
 have h2:(a==60)=false∧(a==33)=false:=by
  constructor
  ·cases h3:(a==60)
   ·rfl
   ·have:a=60:=by simpa using h3
    subst this;revert h;decide
  ·cases h3:(a==33)
   ·rfl
   ·have:a=33:=by simpa using h3
    subst this;revert h;decide
 simp[h,h1,h2.1,h2.2]
theorem run_dig:∀ (r:Txt) (c:UInt8),isDig c=true→runLen (c :: r)=digitRowT (c :: r)
 | [],c,h=>by simp[runLen,digitRowT,List.takeWhile,h]
 | d :: r,c,h=>by
  have hs:=same_dig (b:=d) h
  cases hd:isDig d
  ·simp[runLen,hs,hd,digitRowT,List.takeWhile,h]
  ·have:=run_dig r d hd
   simp only[runLen,hs,hd,if_true,this,digitRowT,List.takeWhile,h,List.length_cons]
theorem run_let:∀ (r:Txt) (c:UInt8),isLet c=true→runLen (c :: r)=letterRowT (c :: r)
 | [],c,h=>by simp[runLen,letterRowT,List.takeWhile,h]
 | d :: r,c,h=>by
  have hs:=same_let (b:=d) h
  cases hd:isLet d
  ·simp[runLen,hs,hd,letterRowT,List.takeWhile,h]
  ·have:=run_let r d hd
   simp only[runLen,hs,hd,if_true,this,letterRowT,List.takeWhile,h,List.length_cons]
theorem run_eq(r:Txt):runLen (61 :: r)=1:=by
 cases r with
 | nil=>rfl
 | cons d r=>simp[runLen,sameC,isDig,isLet]
def signKind:List Txt→Nat→Txt→Nat
 | [],_,_=>0
 | x :: r,i,t=>if x==t then 22+i else signKind r (i+1) t
def kindP(t:Txt):Nat:=if isDig (headC t) then 1 else if isLet (headC t) then wordKindT t else signKind tSign 0 t
theorem row_no(c:UInt8)(r:Txt)(h1:isDig c=false):digitRowT (c :: r)=0:=by simp[digitRowT,List.takeWhile,h1]
theorem row_no2(c:UInt8)(r:Txt)(h1:isLet c=false):letterRowT (c :: r)=0:=by simp[letterRowT,List.takeWhile,h1]
theorem sign_cases(c:UInt8):c=59∨c=61∨c=33∨c=60∨c=43∨c=45∨c=42∨c=47∨c=37∨c=40∨c=41∨(c≠59∧c≠61∧c≠33∧c≠60∧c≠43∧c≠45∧c≠42∧c≠47∧c≠37∧c≠40∧c≠41):=by
 by_cases h1:c=59
 ·simp[h1]
 by_cases h2:c=61
 ·simp[h2]
 by_cases h3:c=33
 ·simp[h3]
 by_cases h4:c=60
 ·simp[h4]
 by_cases h5:c=43
 ·simp[h5]
 by_cases h6:c=45
 ·simp[h6]
 by_cases h7:c=42
 ·simp[h7]
 by_cases h8:c=47
 ·simp[h8]
 by_cases h9:c=37
 ·simp[h9]
 by_cases h10:c=40
 ·simp[h10]
 by_cases h11:c=41
 ·simp[h11]
 simp[h1,h2,h3,h4,h5,h6,h7,h8,h9,h10,h11]
theorem sign_one(c:UInt8)(r:Txt)(h1:isDig c=false)(h2:isLet c=false) :
  (signT ((c :: r).take (runLen (c :: r)))=true→firstSignT (c :: r)=(signKind tSign 0 ((c :: r).take (runLen (c :: r))),runLen (c :: r))) ∧
  (signT ((c :: r).take (runLen (c :: r)))=false→(firstSignT (c :: r)).2=0):=by
 have hrun:runLen (c :: r)=if (c=60∨c=33)∧r.head?=some 61 then 2 else 1:=by
  cases r with
  | nil=>simp[runLen]
  | cons d r =>
   have hs:sameC c d=((c==60||c==33)&&d==61):=by simp[sameC,h1,h2]
   by_cases hd:d=61
   ·subst hd
    have:=run_eq r
    simp only[runLen,hs,this]
    by_cases hc:c=60∨c=33
    ·rcases hc with rfl | rfl <;> simp
    ·simp only[not_or]at hc
     simp[hc.1,hc.2]
   ·simp[runLen,hs,hd]
 rw[hrun]
 rcases sign_cases c with rfl | rfl | rfl | rfl | rfl | rfl | rfl | rfl | rfl | rfl | rfl | ⟨n1,n2,n3,n4,n5,n6,n7,n8,n9,n10,n11⟩
 all_goals
  cases r with
  | nil=>simp_all [firstSignT,signGo,tSign,signT,signKind]
  | cons d r =>
   by_cases hd:d=61
   ·subst hd
    simp_all [firstSignT,signGo,tSign,signT,signKind]
   ·simp_all [firstSignT,signGo,tSign,signT,signKind]
theorem head_take(c:UInt8)(r:Txt)(n:Nat)(h:1≤n):headC ((c :: r).take n)=c:=by
 cases n with
 | zero=>omega
 | succ n=>rfl
theorem first_tok(c:UInt8)(r:Txt):(mayT ((c :: r).take (runLen (c :: r)))=true→firstT (c :: r)=(kindP ((c :: r).take (runLen (c :: r))),runLen (c :: r))) ∧
  (mayT ((c :: r).take (runLen (c :: r)))=false→(firstT (c :: r)).2=0):=by
 have hp:=runLen_pos c r
 have hle:=runLen_le (c :: r)
 have hlen:((c :: r).take (runLen (c :: r))).length=runLen (c :: r):=by rw[List.length_take];omega
 unfold mayT kindP
 rw[head_take c r _ hp,hlen]
 cases hd:isDig c
 ·have h0:=row_no c r hd
  cases hl:isLet c
  ·have h1:=row_no2 c r hl
   have hs:=sign_one c r hd hl
   simp only[firstT,h0,h1]
   simp
   exact ⟨fun h=>hs.1 h,fun h=>hs.2 h⟩
  ·have hr:=run_let r c hl
   rw[hr]at hp ⊢
   simp only[firstT,h0]
   constructor
   ·intro h
    have:letterRowT (c :: r)≤8:=by simpa using h
    rw[if_neg (by omega),if_neg (by omega),if_neg (by omega),if_pos (by omega)]
    simp
   ·intro h
    have:8<letterRowT (c :: r):=by simpa using h
    rw[if_neg (by omega),if_neg (by omega),if_pos (by omega)]
 ·have hr:=run_dig r c hd
  rw[hr]at hp ⊢
  simp only[firstT]
  constructor
  ·intro h
   have:digitRowT (c :: r)≤18:=by simpa using h
   rw[if_neg (by omega),if_pos (by omega)]
   simp
  ·intro h
   have:18<digitRowT (c :: r):=by simpa using h
   rw[if_pos (by omega)]
def toP(t:RTok):PTok:=⟨kindP t.text,t.at',t.text⟩
def outP(p:Nat):Except Nat (List RTok)→Except Nat (List PTok)
 | .ok l=>.ok (l.map toP++[⟨0,p,[]⟩])
 | .error e=>.error e
theorem toks_same:∀ (n:Nat) (s:Txt) (p:Nat),s.length≤n→toksP s p=outP (p+s.length) (toksR s p)
 | n,[],p,_=>by rw[toksP_nil,toksR_nil];rfl
 | 0,c :: r,p,h=>by simp at h
 | n+1,c :: r,p,h=>by
  have hp:=runLen_pos c r
  have hle:=runLen_le (c :: r)
  have hf:=first_tok c r
  rw[toksP_cons,toksR_cons]
  by_cases hb:blankC c=true
  ·rw[if_pos hb,if_pos hb,toks_same n r (p+1) (by simpa using h)]
   simp only[List.length_cons]
   congr 1;omega
  ·rw[if_neg hb,if_neg hb]
   cases hm:mayT ((c :: r).take (runLen (c :: r)))
   ·rw[if_pos (hf.2 hm),if_neg (by simp)]
    rfl
   ·have hf1:=hf.1 hm
    rw[if_neg (by rw[hf1];simp only;omega),if_pos rfl,hf1]
    simp only
    rw[toks_same n ((c :: r).drop (runLen (c :: r))) (p+runLen (c :: r)) (by simp at h ⊢;omega)]
    rw[show p+runLen (c :: r)+((c :: r).drop (runLen (c :: r))).length=p+(c :: r).length by rw[List.length_drop];omega]
    cases toksR ((c :: r).drop (runLen (c :: r))) (p+runLen (c :: r)) <;> rfl
def bindK(k:Nat):Nat :=
 if k=8 then 1 else if k=7 then 2 else if k=23∨k=24∨k=25∨k=26 then 3 else if k=27∨k=28 then 4 else if k=29∨k=30∨k=31 then 5 else 0
def singleK(k:Nat):Bool:=decide (k=1)||decide (k=2)||(decide (10≤k)&&decide (k≤21))
theorem wordGo_cases(t:Txt):∀ (l:List Txt) (i:Nat),(l.contains t=false∧wordGo l i t=2)∨∃ k,∃ h:k<l.length,t=l[k]∧wordGo l i t=3+(i+k)
 | [],i=>Or.inl ⟨rfl,rfl⟩
 | x :: r,i=>by
  by_cases h:x=t
  ·subst h
   exact Or.inr ⟨0,by simp,rfl,by simp[wordGo]⟩
  ·have hb:(x==t)=false:=by simpa using h
   rcases wordGo_cases t r (i+1) with ⟨h1,h2⟩ | ⟨k,hk,h1,h2⟩
   ·refine Or.inl ⟨by rw[List.contains_cons,h1,Bool.or_false,beq_eq_false_iff_ne];exact fun hh=>h hh.symm,by simp[wordGo,hb,h2]⟩
   ·exact Or.inr ⟨k+1,by simp;omega,by simpa using h1,by simp only[wordGo,hb];simp;rw[h2];omega⟩
theorem signKind_cases(t:Txt):∀ (l:List Txt) (i:Nat),(l.contains t=false∧signKind l i t=0)∨∃ k,∃ h:k<l.length,t=l[k]∧signKind l i t=22+(i+k)
 | [],i=>Or.inl ⟨rfl,rfl⟩
 | x :: r,i=>by
  by_cases h:x=t
  ·subst h
   exact Or.inr ⟨0,by simp,rfl,by simp[signKind]⟩
  ·have hb:(x==t)=false:=by simpa using h
   rcases signKind_cases t r (i+1) with ⟨h1,h2⟩ | ⟨k,hk,h1,h2⟩
   ·refine Or.inl ⟨by rw[List.contains_cons,h1,Bool.or_false,beq_eq_false_iff_ne];exact fun hh=>h hh.symm,by simp[signKind,hb,h2]⟩
   ·exact Or.inr ⟨k+1,by simp;omega,by simpa using h1,by simp only[signKind,hb];simp;rw[h2];omega⟩
theorem kind_cases(t:Txt)(h:mayT t=true) :
  (isDig (headC t)=true∧kindP t=1)∨(isLet (headC t)=true∧tWords.contains t=false∧kindP t=2) ∨
  (∃ k,∃ hk:k<19,t=tWords[k]'hk∧kindP t=3+k)∨(∃ k,∃ hk:k<12,t=tSign[k]'hk∧kindP t=22+k):=by
 unfold kindP
 cases h1:isDig (headC t) with
 | true=>exact Or.inl ⟨rfl,by simp⟩
 | false =>
  cases h2:isLet (headC t) with
  | true =>
   rcases wordGo_cases t tWords 0 with ⟨h3,h4⟩ | ⟨k,hk,h3,h4⟩
   ·exact Or.inr (Or.inl ⟨rfl,h3,by simpa[wordKindT] using h4⟩)
   ·exact Or.inr (Or.inr (Or.inl ⟨k,hk,h3,by simpa[wordKindT] using h4⟩))
  | false =>
   rcases signKind_cases t tSign 0 with ⟨h3,h4⟩ | ⟨k,hk,h3,h4⟩
   ·unfold mayT at h
    simp only[h1,h2,signT,h3]at h
    cases h
   ·exact Or.inr (Or.inr (Or.inr ⟨k,hk,h3,by simpa using h4⟩))
structure KindOf(t:Txt):Prop where
 pos:kindP t≠0
 klet:kindP t=3↔t=cLet
 kwhen:kindP t=4↔t=cWhen
 kscore:kindP t=5↔t=cScore
 krej:kindP t=6↔t=cReject
 kand:kindP t=7↔t=cAnd
 kor:kindP t=8↔t=cOr
 knot:kindP t=9↔t=cNot
 ksemi:kindP t=22↔t=cSemi
 keq:kindP t=23↔t=cEq
 kminus:kindP t=28↔t=cMinus
 kopen:kindP t=32↔t=cOpen
 kclose:kindP t=33↔t=cClose
 kname:kindP t=2↔nameT t=true
 single:singleK (kindP t)=singleT t
 binds:bindK (kindP t)=bindsT t
 joint:jointT t=decide (0<bindK (kindP t))
 le:kindP t≤33
theorem words_sub(t:Txt)(h:tWords.contains t=false):leafT t=false∧ownT t=false:=by
 simp only[tWords,List.contains_cons,List.contains_nil,Bool.or_false,Bool.or_eq_false_iff]at h
 obtain ⟨h1,h2,h3,h4,h5,h6,h7,h8,h9,h10,h11,h12,h13,h14,h15,h16,h17,h18,h19⟩:=h
 constructor
 ·simp only[leafT,tLeaf,List.contains_cons,List.contains_nil,Bool.or_false,Bool.or_eq_false_iff]
  exact ⟨h8,h9,h10,h11,h12,h13,h14,h15,h16,h17,h18,h19⟩
 ·simp only[ownT,tOwn,List.contains_cons,List.contains_nil,Bool.or_false,Bool.or_eq_false_iff]
  exact ⟨h1,h2,h3,h4,h5,h6,h7⟩
theorem kindOf(t:Txt)(h:mayT t=true):KindOf t:=by
 rcases kind_cases t h with ⟨h1,h2⟩ | ⟨h1,h2,h3⟩ | ⟨k,hk,rfl,h2⟩ | ⟨k,hk,rfl,h2⟩
 ·have hn:∀ u:Txt,isDig (headC u)=false→t≠u:=fun u hu e=>by rw[e,hu]at h1;cases h1
  have hb:bindsT t=0:=by
   have:jointT t=false:=by
    unfold jointT
    simp only[tJoint,List.contains_cons,List.contains_nil,Bool.or_false,Bool.or_eq_false_iff,beq_eq_false_iff_ne]
    refine ⟨?_, ?_, ?_, ?_, ?_, ?_, ?_, ?_, ?_, ?_, ?_⟩ <;> exact hn _ (by decide)
   have:=joint_binds t
   cases hz:bindsT t with
   | zero=>rfl
   | succ m=>exact absurd (this.2 (by omega)) (by simp[*])
  have hj:jointT t=false:=by cases e:jointT t with | false=>rfl | true=>have:=(joint_binds t).1 e;omega
  have hl:isLet (headC t)=false:=by
   unfold isLet isDig at *
   simp only[Bool.and_eq_true,decide_eq_true_eq,Bool.and_eq_false_iff,decide_eq_false_iff_not]at *
   left
   intro h5
   exact absurd (UInt8.le_trans h5 h1.2) (by decide)
  have hnm:nameT t=false:=by simp[nameT,hl]
  have hsg:singleT t=true:=by simp[singleT,h1]
  refine ⟨?_, ?_, ?_, ?_, ?_, ?_, ?_, ?_, ?_, ?_, ?_, ?_, ?_, ?_, ?_, ?_, ?_, ?_⟩ <;> rw[h2]
  ·decide
  iterate 12 exact ⟨fun h=>absurd h (by decide),fun h=>absurd h (hn _ (by decide))⟩
  ·rw[hnm];simp
  ·rw[hsg];rfl
  ·rw[hb];rfl
  ·rw[hj];rfl
  ·decide
 ·have hw:=words_sub t h2
  have hd:isDig (headC t)=false:=by
   unfold isLet isDig at *
   simp only[Bool.and_eq_true,decide_eq_true_eq,Bool.and_eq_false_iff,decide_eq_false_iff_not]at *
   right
   intro h5
   exact absurd (UInt8.le_trans h1.1 h5) (by decide)
  have hn:∀ u:Txt,isLet (headC u)=false→t≠u:=fun u hu e=>by rw[e,hu]at h1;cases h1
  have hn2:∀ u:Txt,ownT u=true→t≠u:=fun u hu e=>by rw[e,hu]at hw;cases hw.2
  have hj:jointT t=false:=by
   unfold jointT
   simp only[tJoint,List.contains_cons,List.contains_nil,Bool.or_false,Bool.or_eq_false_iff,beq_eq_false_iff_ne]
   refine ⟨hn2 _ (by decide),hn2 _ (by decide), ?_, ?_, ?_, ?_, ?_, ?_, ?_, ?_, ?_⟩ <;> exact hn _ (by decide)
  have hb:bindsT t=0:=by
   have:=joint_binds t
   cases hz:bindsT t with
   | zero=>rfl
   | succ m=>exact absurd (this.2 (by omega)) (by simp[*])
  have hnm:nameT t=true:=by simp[nameT,h1,hw.1,hw.2]
  have hsg:singleT t=true:=by simp[singleT,hnm]
  refine ⟨?_, ?_, ?_, ?_, ?_, ?_, ?_, ?_, ?_, ?_, ?_, ?_, ?_, ?_, ?_, ?_, ?_, ?_⟩ <;> rw[h3]
  ·decide
  iterate 7 exact ⟨fun h=>absurd h (by decide),fun h=>absurd h (hn2 _ (by decide))⟩
  iterate 5 exact ⟨fun h=>absurd h (by decide),fun h=>absurd h (hn _ (by decide))⟩
  ·rw[hnm];simp
  ·rw[hsg];rfl
  ·rw[hb];rfl
  ·rw[hj];rfl
  ·decide
 ·have:∀ u∈tWords,KindOf u:=by
   intro u hu
   simp only[tWords,List.mem_cons,List.not_mem_nil,or_false]at hu
   rcases hu with rfl | rfl | rfl | rfl | rfl | rfl | rfl | rfl | rfl | rfl | rfl | rfl | rfl | rfl | rfl | rfl | rfl | rfl | rfl
   all_goals (clear h2 h;refine ⟨?_, ?_, ?_, ?_, ?_, ?_, ?_, ?_, ?_, ?_, ?_, ?_, ?_, ?_, ?_, ?_, ?_, ?_⟩ <;> decide)
  exact this _ (List.getElem_mem _)
 ·have:∀ u∈tSign,KindOf u:=by
   intro u hu
   simp only[tSign,List.mem_cons,List.not_mem_nil,or_false]at hu
   rcases hu with rfl | rfl | rfl | rfl | rfl | rfl | rfl | rfl | rfl | rfl | rfl | rfl
   all_goals (clear h2 h;refine ⟨?_, ?_, ?_, ?_, ?_, ?_, ?_, ?_, ?_, ?_, ?_, ?_, ?_, ?_, ?_, ?_, ?_, ?_⟩ <;> decide)
  exact this _ (List.getElem_mem _)
open Go.Deep
structure PNode where
 tok:RTok
 ops:Nat
 left:Nat
 right:Nat
def numB:BT (RTok×RTok)→Nat
 | .nil=>0
 | .node 0 _ a _ _=>1
 | .node 1 _ a e _=>numB e+1
 | .node 2 _ a l r=>numB l+numB r+1
 | .node _ _ a e _=>numB e
def flatB:Nat→BT (RTok×RTok)→List PNode
 | _,.nil=>[]
 | _,.node 0 _ a _ _=>[⟨a.1,0,0,0⟩]
 | b,.node 1 _ a e _=>flatB b e++[⟨a.1,1,b+numB e-1,0⟩]
 | b,.node 2 _ a l r=>flatB b l++flatB (b+numB l) r++[⟨a.1,2,b+numB l-1,b+numB l+numB r-1⟩]
 | b,.node _ _ a e _=>flatB b e
def Tr.num(t:Tr):Nat:=numB t
def Tr.flat(b:Nat)(t:Tr):List PNode:=flatB b t
theorem Tr.num_leaf(t:RTok):(Tr.leaf t).num=1:=rfl
theorem Tr.num_un(op:RTok)(e:Tr):(Tr.un op e).num=e.num+1:=rfl
theorem Tr.num_bin(op:RTok)(l r:Tr):(Tr.bin op l r).num=l.num+r.num+1:=rfl
theorem Tr.num_par(o:RTok)(e:Tr)(c:RTok):(Tr.par o e c).num=e.num:=rfl
theorem Tr.flat_leaf(b:Nat)(t:RTok):(Tr.leaf t).flat b=[⟨t,0,0,0⟩]:=rfl
theorem Tr.flat_un(b:Nat)(op:RTok)(e:Tr):(Tr.un op e).flat b=e.flat b++[⟨op,1,b+e.num-1,0⟩]:=rfl
theorem Tr.flat_bin(b:Nat)(op:RTok)(l r:Tr):(Tr.bin op l r).flat b=l.flat b++r.flat (b+l.num)++[⟨op,2,b+l.num-1,b+l.num+r.num-1⟩]:=rfl
theorem Tr.flat_par(b:Nat)(o:RTok)(e:Tr)(c:RTok):(Tr.par o e c).flat b=e.flat b:=rfl
theorem Tr.num_pos(t:Tr)(h:t.wf):1≤t.num:=by
 refine Tr.ind (P:=fun t=>1≤t.num) t h ?_ ?_ ?_ ?_
 ·intro t _;rw[Tr.num_leaf];omega
 ·intro op e _ _;rw[Tr.num_un];omega
 ·intro op l r _ _ _;rw[Tr.num_bin];omega
 ·intro o e c _ he;rw[Tr.num_par];exact he
theorem Tr.num_le(t:Tr)(h:t.wf):t.num≤t.toks.length:=by
 refine Tr.ind (P:=fun t=>t.num≤t.toks.length) t h ?_ ?_ ?_ ?_
 ·intro t _;rw[Tr.num_leaf,Tr.toks_leaf];simp
 ·intro op e _ he;rw[Tr.num_un,Tr.toks_un];simp;omega
 ·intro op l r _ h1 h2;rw[Tr.num_bin,Tr.toks_bin];simp;omega
 ·intro o e c _ he;rw[Tr.num_par,Tr.toks_par];simp;omega
theorem Tr.flat_len(t:Tr)(h:t.wf):∀ b,(t.flat b).length=t.num:=by
 refine Tr.ind (P:=fun t=>∀ b,(t.flat b).length=t.num) t h ?_ ?_ ?_ ?_
 ·intro t _ b;rfl
 ·intro op e _ he b;rw[Tr.flat_un,Tr.num_un,List.length_append,he];rfl
 ·intro op l r _ h1 h2 b;rw[Tr.flat_bin,Tr.num_bin,List.length_append,List.length_append,h1,h2];rfl
 ·intro o e c _ he b;rw[Tr.flat_par,Tr.num_par,he]
theorem goS_append:∀ (a b:List RTok) (p:Spot),goS p (a++b)=match goS p a with | .ok q=>goS q b | .error e=>.error e
 | [],b,p=>rfl
 | t :: r,b,p=>by
  simp only[List.cons_append,goS]
  split
  ·exact goS_append r b _
  ·rfl
theorem goS_ok{a b:List RTok}{p q:Spot}(h:goS p a=.ok q):goS p (a++b)=goS q b:=by rw[goS_append,h]
theorem goS_cons{t:RTok}{r:List RTok}{p q:Spot}(h:stepS p t.text=(q,true)):goS p (t :: r)=goS q r:=by simp only[goS,h,if_true]
structure BadS(p:Spot)(l:List RTok)(k:Nat):Prop where
 le:k≤l.length
 ex:∃ q,goS p (l.take k)=.ok q∧(l.length≤k→q.next≠6)∧∀ h:k<l.length,(stepS q l[k].text).2=false
theorem BadS.here2{p:Spot}{l:List RTok}(hp:l=[]→p.next≠6)(h:∀ a r,l=a :: r→(stepS p a.text).2=false):BadS p l 0:=by
 refine ⟨Nat.zero_le _,p,rfl,fun hl=>hp (List.eq_nil_of_length_eq_zero (by omega)),fun hl=>?_⟩
 cases l with
 | nil=>cases hl
 | cons a r=>exact h a r rfl
theorem BadS.here{p:Spot}{l:List RTok}(hp:p.next≠6)(h:∀ a r,l=a :: r→(stepS p a.text).2=false):BadS p l 0:=BadS.here2 (fun _=>hp) h
theorem BadS.behind{p q:Spot}{a b:List RTok}{k:Nat}(h:goS p a=.ok q)(hb:BadS q b k):BadS p (a++b) (a.length+k):=by
 obtain ⟨h1,q',h2,h3,h4⟩:=hb
 refine ⟨by simp;omega,q', ?_,fun hh=>h3 (by simp at hh;omega),fun hl=>?_⟩
 ·rw[List.take_length_add_append,goS_ok h];exact h2
 ·rw[List.getElem_append_right (by omega)]
  have:=h4 (by simp at hl;omega)
  simpa using this
theorem BadS.one{p q:Spot}{t:RTok}{b:List RTok}{k:Nat}(h:stepS p t.text=(q,true))(hb:BadS q b k):BadS p (t :: b) (k+1):=by
 have:=BadS.behind (a:=[t]) (p:=p) (q:=q) (by rw[goS_cons h];rfl) hb
 rw[show k+1=[t].length+k by simp;omega]
 exact this
structure GotO(d:Nat)(l:List RTok)(t:Tr)(rest:List RTok):Prop where
 eq:l=t.toks++rest
 wf:t.wf
 go:∀ x,goS ⟨3,x,d⟩ t.toks=.ok ⟨4,x,d⟩
def stops(least:Nat)(rest:List RTok):Prop:=∀ a r,rest=a :: r→bindsT a.text<least∨bindsT a.text=0
def BadV(d:Nat)(l:List RTok)(k:Nat):Prop:=∀ x,BadS ⟨3,x,d⟩ l k
theorem value_leaf{a:RTok}(hm:mayT a.text=true)(hs:singleT a.text=true)(x d:Nat):stepS ⟨3,x,d⟩ a.text=(⟨4,x,d⟩,true):=by
 have K:=kindOf _ hm
 have h1:singleK (kindP a.text)=true:=by rw[K.single];exact hs
 have n1:a.text≠cMinus:=fun e=>by rw[K.kminus.2 e]at h1;cases h1
 have n2:a.text≠cNot:=fun e=>by rw[K.knot.2 e]at h1;cases h1
 have n3:a.text≠cOpen:=fun e=>by rw[K.kopen.2 e]at h1;cases h1
 unfold singleT at hs
 simp[stepS,valueS,n1,n2,n3,hs]
theorem leaf_wf{a:RTok}(hm:mayT a.text=true)(hs:singleT a.text=true):(Tr.leaf a).wf:=by
 have K:=kindOf _ hm
 have h1:singleK (kindP a.text)=true:=by rw[K.single];exact hs
 have n1:a.text≠cMinus:=fun e=>by rw[K.kminus.2 e]at h1;cases h1
 have n2:a.text≠cNot:=fun e=>by rw[K.knot.2 e]at h1;cases h1
 have n3:a.text≠cOpen:=fun e=>by rw[K.kopen.2 e]at h1;cases h1
 have n4:a.text≠cClose:=fun e=>by rw[K.kclose.2 e]at h1;cases h1
 refine ⟨⟨rfl,rfl,rfl,rfl⟩,hs,n3,n4,by simp[unT,n1,n2], ?_⟩
 rw[← K.binds]
 unfold singleK at h1
 simp only[Bool.or_eq_true,Bool.and_eq_true,decide_eq_true_eq]at h1
 unfold bindK
 split;omega
 split;omega
 split;omega
 split;omega
 split;omega
 rfl
theorem GotO.leaf{a:RTok}{r:List RTok}(hm:mayT a.text=true)(hs:singleT a.text=true)(d:Nat):GotO d (a :: r) (Tr.leaf a) r :=
 ⟨rfl,leaf_wf hm hs,fun x=>by rw[Tr.toks_leaf,goS_cons (value_leaf hm hs x d)];rfl⟩
theorem value_un{a:RTok}(hu:unT a.text=true)(x d:Nat):stepS ⟨3,x,d⟩ a.text=(⟨3,x,d⟩,true):=by
 unfold unT at hu
 simp only[stepS,valueS,hu,if_true]
 rfl
theorem GotO.un{op:RTok}{r rest:List RTok}{d:Nat}{t:Tr}(hu:unT op.text=true)(h:GotO d r t rest)(hl:t.level=6):GotO d (op :: r) (Tr.un op t) rest :=
 ⟨by rw[h.eq];rfl,⟨⟨rfl,rfl,rfl⟩,hu,hl,h.wf⟩,fun x=>by rw[Tr.toks_un,goS_cons (value_un hu x d)];exact h.go x⟩
theorem BadV.un{op:RTok}{r:List RTok}{d k:Nat}(hu:unT op.text=true)(h:BadV d r k):BadV d (op :: r) (k+1):=fun x=>BadS.one (value_un hu x d) (h x)
theorem value_open{a:RTok}(ho:a.text=cOpen)(x d:Nat)(hd:d<8):stepS ⟨3,x,d⟩ a.text=(⟨3,x,d+1⟩,true):=by
 have:d+1≤8:=hd
 simp[stepS,valueS,ho,cOpen,cMinus,cNot,this]
theorem after_close{a:RTok}(hc:a.text=cClose)(x d:Nat):stepS ⟨4,x,d+1⟩ a.text=(⟨4,x,d⟩,true):=by
 simp[stepS,afterS,hc,show jointT cClose=false by decide]
theorem GotO.par{o c:RTok}{r rest:List RTok}{d:Nat}{t:Tr}(ho:o.text=cOpen)(hc:c.text=cClose)(hd:d<8)(h:GotO (d+1) r t (c :: rest)):GotO d (o :: r) (Tr.par o t c) rest :=
 ⟨by rw[h.eq,Tr.toks_par];simp,⟨⟨rfl,rfl⟩,ho,hc,h.wf⟩,fun x=>by rw[Tr.toks_par,goS_cons (value_open ho x d hd),goS_ok (h.go x),goS_cons (after_close hc x d)];rfl⟩
theorem BadV.par{o:RTok}{r:List RTok}{d k:Nat}(ho:o.text=cOpen)(hd:d<8)(h:BadV (d+1) r k):BadV d (o :: r) (k+1):=fun x=>BadS.one (value_open ho x d hd) (h x)
theorem BadV.close{o:RTok}{r rest:List RTok}{d:Nat}{t:Tr}(ho:o.text=cOpen)(hd:d<8)(h:GotO (d+1) r t rest)(hs:stops 1 rest)(hc:∀ a r',rest=a :: r'→a.text≠cClose):BadV d (o :: r) (t.toks.length+1):=by
 intro x
 refine BadS.one (value_open ho x d hd) ?_
 rw[h.eq]
 have:=BadS.behind (h.go x) (BadS.here (p:=⟨4,x,d+1⟩) (l:=rest) (by simp) fun a r' e=>?_)
 ·exact this
 ·have h1:=hs a r' e
  have h2:jointT a.text=false:=by
   cases hj:jointT a.text with
   | false=>rfl
   | true=>have:=(joint_binds _).1 hj;omega
  simp[stepS,afterS,h2]
  exact hc a r' e
theorem BadV.none{l:List RTok}{d:Nat}(h:∀ a r,l=a :: r→mayT a.text=true∧singleT a.text=false∧unT a.text=false∧(a.text=cOpen→8≤d)):BadV d l 0:=by
 intro x
 refine BadS.here (by simp) fun a r e=>?_
 obtain ⟨h0,h1,h2,h3⟩:=h a r e
 unfold singleT at h1
 unfold unT at h2
 by_cases ho:a.text=cOpen
 ·have:=h3 ho
  simp[stepS,valueS,ho,cOpen,cMinus,cNot]
  omega
 ·simp at h1 h2
  simp[stepS,valueS,h1,h2,ho]
theorem after_joint{a:RTok}(hj:0<bindsT a.text)(x d:Nat):stepS ⟨4,x,d⟩ a.text=(⟨3,x,d⟩,true):=by
 simp[stepS,afterS,(joint_binds a.text).2 hj]
theorem BadV.right{l r:List RTok}{op:RTok}{d k:Nat}{t:Tr}(h:GotO d l t (op :: r))(hj:0<bindsT op.text)(hb:BadV d r k):BadV d l (t.toks.length+(k+1)):=by
 intro x
 rw[h.eq]
 exact BadS.behind (h.go x) (BadS.one (after_joint hj x d) (hb x))
theorem GotO.bin{l r rest:List RTok}{op:RTok}{d:Nat}{t u:Tr}(hm:mayT op.text=true)(h:GotO d l t (op :: r))(hj:0<bindsT op.text)(hl:bindsT op.text≤t.level)(g:GotO d r u rest)(hr:bindsT op.text<u.level):GotO d l (Tr.bin op t u) rest:=by
 have K:=kindOf _ hm
 have n3:op.text≠cOpen:=fun e=>by rw[e]at hj;revert hj;decide
 have n4:op.text≠cClose:=fun e=>by rw[e]at hj;revert hj;decide
 refine ⟨by rw[h.eq,g.eq,Tr.toks_bin];simp,⟨⟨rfl,rfl⟩,hj,n3,n4,hl,hr,h.wf,g.wf⟩,fun x=>?_⟩
 rw[Tr.toks_bin,goS_ok (h.go x),goS_cons (after_joint hj x d)]
 exact g.go x
end Go.Proofs.YtpcjadaeolkngaaGreatDoor
