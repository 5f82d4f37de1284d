/-
  The program's tokens are the document's, with their kinds, and one of the kind End behind them.
-/
import Derived.Test.YtgfnkeiigjholaaGreatDoorQ08
set_option linter.unusedVariables false
set_option linter.unusedSimpArgs false
namespace Go.Proofs.YtgfnkeiigjholaaGreatDoor
theorem same_dig{a b:UInt8}(h:isDig a=true):sameC a b=isDig b:=by
 unfold sameC
 have h1:isLet a=false:=by
  unfold isDig at h;unfold isLet
  simp only[Bool.and_eq_true,decide_eq_true_eq,UInt8.le_iff_toNat_le]at h
  simp[UInt8.le_iff_toNat_le,UInt8.lt_iff_toNat_lt]
  have:=h.2
  intro h'
  simp at this h'
  omega
 have h2:(a==60)=false∧(a==33)=false:=by
  constructor
  ·cases h3:(a==60)
   ·rfl
   ·have:a=60:=by simpa using h3
    subst this;revert h;decide
  ·cases h3:(a==33)
   ·rfl
   ·have:a=33:=by simpa using h3
    subst this;revert h;decide
 simp[h,h1,h2.1,h2.2]
theorem same_let{a b:UInt8}(h:isLet a=true):sameC a b=isLet b:=by
 unfold sameC
 have h1:isDig a=false:=by
  unfold isLet at h;unfold isDig
  simp only[Bool.and_eq_true,decide_eq_true_eq,UInt8.le_iff_toNat_le]at h
  simp[UInt8.le_iff_toNat_le,UInt8.lt_iff_toNat_lt]
  have:=h.1
  intro h'
  simp at this h' ⊢
  omega
 have h2:(a==60)=false∧(a==33)=false:=by
  constructor
  ·cases h3:(a==60)
   ·rfl
   ·have:a=60:=by simpa using h3
    subst this;revert h;decide
  ·cases h3:(a==33)
   ·rfl
   ·have:a=33:=by simpa using h3
    subst this;revert h;decide
 simp[h,h1,h2.1,h2.2]
theorem run_dig:∀ (r:Txt) (c:UInt8),isDig c=true→runLen (c :: r)=digitRowT (c :: r)
 | [],c,h=>by simp[runLen,digitRowT,List.takeWhile,h]
 | d :: r,c,h=>by
  have hs:=same_dig (b:=d) h
  cases hd:isDig d
  ·simp[runLen,hs,hd,digitRowT,List.takeWhile,h]
  ·have:=run_dig r d hd
   simp only[runLen,hs,hd,if_true,this,digitRowT,List.takeWhile,h,List.length_cons]
theorem run_let:∀ (r:Txt) (c:UInt8),isLet c=true→runLen (c :: r)=letterRowT (c :: r)
 | [],c,h=>by simp[runLen,letterRowT,List.takeWhile,h]
 | d :: r,c,h=>by
  have hs:=same_let (b:=d) h
  cases hd:isLet d
  ·simp[runLen,hs,hd,letterRowT,List.takeWhile,h]
  ·have:=run_let r d hd
   simp only[runLen,hs,hd,if_true,this,letterRowT,List.takeWhile,h,List.length_cons]
theorem run_eq(r:Txt):runLen (61 :: r)=1:=by
 cases r with
 | nil=>rfl
 | cons d r=>simp[runLen,sameC,isDig,isLet]
def signKind:List Txt→Nat→Txt→Nat
 | [],_,_=>0
 | x :: r,i,t=>if x==t then 22+i else signKind r (i+1) t
def kindP(t:Txt):Nat:=if isDig (headC t) then 1 else if isLet (headC t) then wordKindT t else signKind tSign 0 t
theorem row_no(c:UInt8)(r:Txt)(h1:isDig c=false):digitRowT (c :: r)=0:=by simp[digitRowT,List.takeWhile,h1]
theorem row_no2(c:UInt8)(r:Txt)(h1:isLet c=false):letterRowT (c :: r)=0:=by simp[letterRowT,List.takeWhile,h1]
theorem sign_cases(c:UInt8):c=59∨c=61∨c=33∨c=60∨c=43∨c=45∨c=42∨c=47∨c=37∨c=40∨c=41∨(c≠59∧c≠61∧c≠33∧c≠60∧c≠43∧c≠45∧c≠42∧c≠47∧c≠37∧c≠40∧c≠41):=by
 by_cases h1:c=59
 ·simp[h1]
 by_cases h2:c=61
 ·simp[h2]
 by_cases h3:c=33
 ·simp[h3]
 by_cases h4:c=60
 ·simp[h4]
 by_cases h5:c=43
 ·simp[h5]
 by_cases h6:c=45
 ·simp[h6]
 by_cases h7:c=42
 ·simp[h7]
 by_cases h8:c=47
 ·simp[h8]
 by_cases h9:c=37
 ·simp[h9]
 by_cases h10:c=40
 ·simp[h10]
 by_cases h11:c=41
 ·simp[h11]
 simp[h1,h2,h3,h4,h5,h6,h7,h8,h9,h10,h11]
theorem sign_one(c:UInt8)(r:Txt)(h1:isDig c=false)(h2:isLet c=false) :
  (signT ((c :: r).take (runLen (c :: r)))=true→firstSignT (c :: r)=(signKind tSign 0 ((c :: r).take (runLen (c :: r))),runLen (c :: r))) ∧
  (signT ((c :: r).take (runLen (c :: r)))=false→(firstSignT (c :: r)).2=0):=by
 have hrun:runLen (c :: r)=if (c=60∨c=33)∧r.head?=some 61 then 2 else 1:=by
  cases r with
  | nil=>simp[runLen]
  | cons d r =>
   have hs:sameC c d=((c==60||c==33)&&d==61):=by simp[sameC,h1,h2]
   by_cases hd:d=61
   ·subst hd
    have:=run_eq r
    simp only[runLen,hs,this]
    by_cases hc:c=60∨c=33
    ·rcases hc with rfl | rfl <;> simp
    ·simp only[not_or]at hc
     simp[hc.1,hc.2]
   ·simp[runLen,hs,hd]
 rw[hrun]
 rcases sign_cases c with rfl | rfl | rfl | rfl | rfl | rfl | rfl | rfl | rfl | rfl | rfl | ⟨n1,n2,n3,n4,n5,n6,n7,n8,n9,n10,n11⟩
 all_goals
  cases r with
  | nil=>simp_all [firstSignT,signGo,tSign,signT,signKind]
  | cons d r =>
   by_cases hd:d=61
   ·subst hd
    simp_all [firstSignT,signGo,tSign,signT,signKind]
   ·simp_all [firstSignT,signGo,tSign,signT,signKind]
theorem head_take(c:UInt8)(r:Txt)(n:Nat)(h:1≤n):headC ((c :: r).take n)=c:=by
 cases n with
 | zero=>omega
 | succ n=>rfl
theorem first_tok(c:UInt8)(r:Txt):(mayT ((c :: r).take (runLen (c :: r)))=true→firstT (c :: r)=(kindP ((c :: r).take (runLen (c :: r))),runLen (c :: r))) ∧
  (mayT ((c :: r).take (runLen (c :: r)))=false→(firstT (c :: r)).2=0):=by
 have hp:=runLen_pos c r
 have hle:=runLen_le (c :: r)
 have hlen:((c :: r).take (runLen (c :: r))).length=runLen (c :: r):=by rw[List.length_take];omega
 unfold mayT kindP
 rw[head_take c r _ hp,hlen]
 cases hd:isDig c
 ·have h0:=row_no c r hd
  cases hl:isLet c
  ·have h1:=row_no2 c r hl
   have hs:=sign_one c r hd hl
   simp only[firstT,h0,h1]
   simp
   exact ⟨fun h=>hs.1 h,fun h=>hs.2 h⟩
  ·have hr:=run_let r c hl
   rw[hr]at hp ⊢
   simp only[firstT,h0]
   constructor
   ·intro h
    have:letterRowT (c :: r)≤8:=by simpa using h
    rw[if_neg (by omega),if_neg (by omega),if_neg (by omega),if_pos (by omega)]
    simp
   ·intro h
    have:8<letterRowT (c :: r):=by simpa using h
    rw[if_neg (by omega),if_neg (by omega),if_pos (by omega)]
 ·have hr:=run_dig r c hd
  rw[hr]at hp ⊢
  simp only[firstT]
  constructor
  ·intro h
   have:digitRowT (c :: r)≤18:=by simpa using h
   rw[if_neg (by omega),if_pos (by omega)]
   simp
  ·intro h
   have:18<digitRowT (c :: r):=by simpa using h
   rw[if_pos (by omega)]
def toP(t:RTok):PTok:=⟨kindP t.text,t.at',t.text⟩
def outP(p:Nat):Except Nat (List RTok)→Except Nat (List PTok)
 | .ok l=>.ok (l.map toP++[⟨0,p,[]⟩])
 | .error e=>.error e
theorem toks_same:∀ (n:Nat) (s:Txt) (p:Nat),s.length≤n→toksP s p=outP (p+s.length) (toksR s p)
 | n,[],p,_=>by rw[toksP_nil,toksR_nil];rfl
 | 0,c :: r,p,h=>by simp at h
 | n+1,c :: r,p,h=>by
  have hp:=runLen_pos c r
  have hle:=runLen_le (c :: r)
  have hf:=first_tok c r
  rw[toksP_cons,toksR_cons]
  by_cases hb:blankC c=true
  ·rw[if_pos hb,if_pos hb,toks_same n r (p+1) (by simpa using h)]
   simp only[List.length_cons]
   congr 1;omega
  ·rw[if_neg hb,if_neg hb]
   cases hm:mayT ((c :: r).take (runLen (c :: r)))
   ·rw[if_pos (hf.2 hm),if_neg (by simp)]
    rfl
   ·have hf1:=hf.1 hm
    rw[if_neg (by rw[hf1];simp only;omega),if_pos rfl,hf1]
    simp only
    rw[toks_same n ((c :: r).drop (runLen (c :: r))) (p+runLen (c :: r)) (by simp at h ⊢;omega)]
    rw[show p+runLen (c :: r)+((c :: r).drop (runLen (c :: r))).length=p+(c :: r).length by rw[List.length_drop];omega]
    cases toksR ((c :: r).drop (runLen (c :: r))) (p+runLen (c :: r)) <;> rfl
end Go.Proofs.YtgfnkeiigjholaaGreatDoor
