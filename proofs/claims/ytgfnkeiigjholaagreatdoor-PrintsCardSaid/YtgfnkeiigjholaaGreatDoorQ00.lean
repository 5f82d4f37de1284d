/-
  Plain lists of bytes: the words of the language, the document's tokens.
-/
import Derived.Laws.Strings
set_option linter.unusedVariables false
set_option linter.unusedSimpArgs false
namespace Go.Proofs.YtgfnkeiigjholaaGreatDoor
abbrev Txt:=List UInt8
def bsOf(t:Txt):ByteArray:=⟨t.toArray⟩
theorem bsOf_toList(t:Txt):(bsOf t).toList=t:=by rw[ByteArray.toList_eq];rfl
theorem bsOf_of(b:ByteArray):bsOf b.toList=b:=by rw[ByteArray.toList_eq];cases b;simp[bsOf]
theorem bsOf_size(t:Txt):(bsOf t).size=t.length:=by simp[bsOf,ByteArray.size]
theorem toList_length(b:ByteArray):b.toList.length=b.size:=by rw[ByteArray.toList_eq];rfl
theorem extract_bsOf(b:ByteArray)(i k:Nat):b.extract i k=bsOf ((b.toList.drop i).take (k-i)):=by
 apply ByteArray.ext
 simp[bsOf,ByteArray.toList_eq,ByteArray.data_extract]
 rw[← Array.toList_inj]
 simp[Array.toList_extract,List.extract]
theorem getElem_toList(b:ByteArray)(i:Nat)(h:i<b.size):b.toList[i]?=some b[i]:=by
 rw[ByteArray.toList_eq];simp only[Array.getElem?_toList]
 exact Array.getElem?_eq_getElem h
def tLeaf:List Txt:=[[116,114,117,101],[102,97,108,115,101],[100,114,121],[99,111,108,100],[115,97,102,101],[115,105,122,101],[115,112,101,101,100],[110,101,101,100],[122,111,110,101],[99,97,112],[117,115,101,100],[104,97,115]]
def tOwn:List Txt:=[[108,101,116],[119,104,101,110],[115,99,111,114,101],[114,101,106,101,99,116],[97,110,100],[111,114],[110,111,116]]
def tJoint:List Txt:=[[111,114],[97,110,100],[61],[33,61],[60],[60,61],[43],[45],[42],[47],[37]]
def tSign:List Txt:=[[59],[61],[33,61],[60],[60,61],[43],[45],[42],[47],[37],[40],[41]]
def isDig(c:UInt8):Bool:=48≤c&&c≤57
def isLet(c:UInt8):Bool:=97≤c&&c≤122
def leafT(t:Txt):Bool:=tLeaf.contains t
def ownT(t:Txt):Bool:=tOwn.contains t
def jointT(t:Txt):Bool:=tJoint.contains t
def signT(t:Txt):Bool:=tSign.contains t
def headC(t:Txt):UInt8:=t.headD 0
def nameT(t:Txt):Bool:=isLet (headC t)&&!leafT t&&!ownT t
def sameC(a b:UInt8):Bool:=(isDig a&&isDig b)||(isLet a&&isLet b)||((a==60||a==33)&&b==61)
def mayT(t:Txt):Bool:=if isDig (headC t) then decide (t.length≤18) else if isLet (headC t) then decide (t.length≤8) else signT t
def runLen:Txt→Nat
 | []=>0
 | [_]=>1
 | a :: b :: r=>if sameC a b then runLen (b :: r)+1 else 1
theorem runLen_pos(a:UInt8)(r:Txt):1≤runLen (a :: r):=by
 cases r with
 | nil=>simp[runLen]
 | cons b r=>simp only[runLen];split <;> omega
theorem runLen_le:∀ t:Txt,runLen t≤t.length
 | []=>by simp[runLen]
 | [_]=>by simp[runLen]
 | a :: b :: r=>by
  have:=runLen_le (b :: r)
  simp only[runLen,List.length_cons]at this ⊢
  split <;> omega
structure RTok where
 text:Txt
 at':Nat
def blankC(c:UInt8):Bool:=c==32||c==10
def toksRF:Nat→Txt→Nat→Except Nat (List RTok)
 | _,[],_=>.ok []
 | 0,_ :: _,_=>.ok []
 | n+1,c :: r,pos =>
  if blankC c then toksRF n r (pos+1)
  else if mayT ((c :: r).take (runLen (c :: r))) then
   match toksRF n ((c :: r).drop (runLen (c :: r))) (pos+runLen (c :: r)) with
   | .ok l=>.ok (⟨(c :: r).take (runLen (c :: r)),pos⟩ :: l)
   | .error e=>.error e
  else .error pos
def toksR(s:Txt)(pos:Nat):Except Nat (List RTok):=toksRF s.length s pos
theorem toksRF_more:∀ (n m:Nat) (s:Txt) (pos:Nat),s.length≤n→s.length≤m→toksRF n s pos=toksRF m s pos
 | 0,0,[],_,_,_=>rfl
 | 0,_+1,[],_,_,_=>rfl
 | _+1,0,[],_,_,_=>rfl
 | _+1,_+1,[],_,_,_=>rfl
 | 0,_,c :: r,_,h,_=>by simp at h
 | _+1,0,c :: r,_,_,h=>by simp at h
 | n+1,m+1,c :: r,pos,h1,h2=>by
  have hp:=runLen_pos c r
  have h1':r.length≤n:=by simpa using h1
  have h2':r.length≤m:=by simpa using h2
  simp only[toksRF]
  rw[toksRF_more n m r (pos+1) h1' h2',toksRF_more n m ((c :: r).drop (runLen (c :: r))) (pos+runLen (c :: r)) (by rw[List.length_drop,List.length_cons];omega) (by rw[List.length_drop,List.length_cons];omega)]
theorem toksR_nil(pos:Nat):toksR [] pos=.ok []:=rfl
theorem toksR_cons(c:UInt8)(r:Txt)(pos:Nat):toksR (c :: r) pos=if blankC c then toksR r (pos+1)
  else if mayT ((c :: r).take (runLen (c :: r))) then
   match toksR ((c :: r).drop (runLen (c :: r))) (pos+runLen (c :: r)) with
   | .ok l=>.ok (⟨(c :: r).take (runLen (c :: r)),pos⟩ :: l)
   | .error e=>.error e
  else .error pos:=by
 have hp:=runLen_pos c r
 unfold toksR
 rw[List.length_cons,toksRF,toksRF_more r.length ((c :: r).drop (runLen (c :: r))).length _ _ (by rw[List.length_drop,List.length_cons];omega) (Nat.le_refl _)]
theorem beq_decide_u8(c:UInt8)(n:Nat)(hn:n<256):((c.toNat:Int)==(n:Int))=(c==(UInt8.ofNat n)):=by
 rw[Bool.eq_iff_iff]
 simp only[beq_iff_eq]
 constructor
 ·intro h
  apply UInt8.toNat_inj.1
  simp only[UInt8.toNat_ofNat']
  omega
 ·intro h
  subst h
  simp only[UInt8.toNat_ofNat']
  omega
theorem run_more:∀ (l:Txt) (j:Nat),1≤j→j<runLen l→sameC (l.getD (j-1) 0) (l.getD j 0)=true
 | [],j,_,h=>by simp[runLen]at h
 | [_],j,h1,h=>by simp[runLen]at h;omega
 | a :: b :: r,j,h1,h=>by
  simp only[runLen]at h
  split at h
  ·rename_i hs
   rcases Nat.lt_or_ge 1 j with hj | hj
   ·have:=run_more (b :: r) (j-1) (by omega) (by omega)
    rw[show (a :: b :: r).getD (j-1) 0=(b :: r).getD (j-1-1) 0 by
     rw[show j-1=(j-1-1)+1 by omega];rfl]
    rw[show (a :: b :: r).getD j 0=(b :: r).getD (j-1) 0 by
     rw[show j=(j-1)+1 by omega];rfl]
    exact this
   ·have:j=1:=by omega
    subst this
    exact hs
  ·omega
theorem run_stop:∀ (l:Txt),l≠[]→runLen l<l.length→sameC (l.getD (runLen l-1) 0) (l.getD (runLen l) 0)=false
 | [],h,_=>absurd rfl h
 | [_],_,h=>by simp[runLen]at h
 | a :: b :: r,_,h=>by
  by_cases hs:sameC a b=true
  ·have e:runLen (a :: b :: r)=runLen (b :: r)+1:=by simp[runLen,hs]
   rw[e]at h ⊢
   have hp:=runLen_pos b r
   have:=run_stop (b :: r) (by simp) (by simp at h ⊢;omega)
   rw[show (a :: b :: r).getD (runLen (b :: r)+1-1) 0=(b :: r).getD (runLen (b :: r)-1) 0 by
    rw[show runLen (b :: r)+1-1=(runLen (b :: r)-1)+1 by omega];rfl]
   exact this
  ·have e:runLen (a :: b :: r)=1:=by simp[runLen,hs]
   rw[e]
   simpa using hs
def preR(acc:List RTok):Except Nat (List RTok)→Except Nat (List RTok)
 | .ok l=>.ok (acc++l)
 | .error e=>.error e
theorem preR_nil(x:Except Nat (List RTok)):preR [] x=x:=by cases x <;> rfl
theorem preR_app(a b:List RTok)(x:Except Nat (List RTok)):preR a (preR b x)=preR (a++b) x:=by cases x <;> simp[preR]
theorem drop_cons(s:ByteArray)(p:Nat)(hp:p<s.size):s.toList.drop p=s[p] :: s.toList.drop (p+1):=by
 have:=getElem_toList s p hp
 rw[List.getElem?_eq_some_iff]at this
 obtain ⟨h,e⟩:=this
 rw[List.drop_eq_getElem_cons h,e]
theorem drop_getD(s:ByteArray)(p j:Nat)(h:p+j<s.size):(s.toList.drop p).getD j 0=s[p+j]:=by
 have:=getElem_toList s (p+j) h
 rw[List.getD_eq_getElem?_getD,List.getElem?_drop,this];rfl
def tokLen(s:ByteArray)(p:Nat):Nat:=runLen (s.toList.drop p)
theorem tokLen_bd(s:ByteArray)(p:Nat)(hp:p<s.size):1≤tokLen s p∧p+tokLen s p≤s.size:=by
 unfold tokLen
 have h1:=runLen_le (s.toList.drop p)
 rw[List.length_drop,toList_length]at h1
 rw[drop_cons s p hp]at h1 ⊢
 have:=runLen_pos s[p] (s.toList.drop (p+1))
 exact ⟨this,by omega⟩
theorem tokLen_more(s:ByteArray)(p k:Nat)(hp:p<k)(hk:k<p+tokLen s p)(hs:k<s.size):sameC (s[k-1]'(by omega)) s[k]=true:=by
 have:=run_more (s.toList.drop p) (k-p) (by omega) (by unfold tokLen at hk;omega)
 rw[drop_getD s p (k-p-1) (by omega),drop_getD s p (k-p) (by omega)]at this
 have e1:p+(k-p-1)=k-1:=by omega
 have e2:p+(k-p)=k:=by omega
 simpa[e1,e2] using this
theorem tokLen_stop(s:ByteArray)(p k:Nat)(hp:p<s.size)(hk:k=p+tokLen s p)(hs:k<s.size):sameC (s[k-1]'(by omega)) s[k]=false:=by
 have hb:=tokLen_bd s p hp
 have:=run_stop (s.toList.drop p) (by rw[drop_cons s p hp];simp) (by rw[List.length_drop,toList_length];unfold tokLen at hk;omega)
 unfold tokLen at hk hb
 rw[drop_getD s p (runLen (s.toList.drop p)-1) (by omega),drop_getD s p (runLen (s.toList.drop p)) (by omega)]at this
 have e1:p+(runLen (s.toList.drop p)-1)=k-1:=by omega
 have e2:p+runLen (s.toList.drop p)=k:=by omega
 simpa[e1,e2] using this
theorem toks_end(s:ByteArray)(p:Nat)(hp:s.size≤p):toksR (s.toList.drop p) p=.ok []:=by
 rw[List.drop_eq_nil_of_le (by rw[toList_length];omega),toksR_nil]
theorem toks_blank(s:ByteArray)(p:Nat)(hp:p<s.size)(hb:blankC s[p]=true):toksR (s.toList.drop p) p=toksR (s.toList.drop (p+1)) (p+1):=by
 rw[drop_cons s p hp,toksR_cons,if_pos hb]
theorem toks_tok(s:ByteArray)(p:Nat)(hp:p<s.size)(hb:blankC s[p]=false)(hm:mayT (s.extract p (p+tokLen s p)).toList=true) :
  toksR (s.toList.drop p) p=preR [⟨(s.extract p (p+tokLen s p)).toList,p⟩] (toksR (s.toList.drop (p+tokLen s p)) (p+tokLen s p)):=by
 rw[extract_bsOf,bsOf_toList,Nat.add_sub_cancel_left]at hm ⊢
 rw[show s.toList.drop (p+tokLen s p)=(s.toList.drop p).drop (tokLen s p) by rw[List.drop_drop]]
 unfold tokLen at hm ⊢
 rw[drop_cons s p hp]at hm ⊢
 conv=>lhs;rw[toksR_cons]
 rw[if_neg (by simp[hb]),if_pos hm]
 cases toksR ((s[p] :: s.toList.drop (p+1)).drop (runLen (s[p] :: s.toList.drop (p+1)))) (p+runLen (s[p] :: s.toList.drop (p+1))) <;> rfl
theorem toks_bad(s:ByteArray)(p:Nat)(hp:p<s.size)(hb:blankC s[p]=false)(hm:mayT (s.extract p (p+tokLen s p)).toList=false) :
  toksR (s.toList.drop p) p=.error p:=by
 rw[extract_bsOf,bsOf_toList,Nat.add_sub_cancel_left]at hm
 unfold tokLen at hm
 rw[drop_cons s p hp]at hm ⊢
 rw[toksR_cons,if_neg (by simp[hb]),if_neg (by simp[hm])]
theorem blankC_int(c:UInt8):blankC c=((c.toNat:Int)==32||(c.toNat:Int)==10):=by
 unfold blankC
 rw[show ((c.toNat:Int)==32)=(c==32) from beq_decide_u8 c 32 (by omega),show ((c.toNat:Int)==10)=(c==10) from beq_decide_u8 c 10 (by omega)]
theorem isDig_int(c:UInt8):isDig c=(decide ((48:Int)≤c.toNat)&&decide ((c.toNat:Int)≤57)):=by
 unfold isDig;rw[Bool.eq_iff_iff];simp[UInt8.le_iff_toNat_le];omega
theorem isLet_int(c:UInt8):isLet c=(decide ((97:Int)≤c.toNat)&&decide ((c.toNat:Int)≤122)):=by
 unfold isLet;rw[Bool.eq_iff_iff];simp[UInt8.le_iff_toNat_le];omega
end Go.Proofs.YtgfnkeiigjholaaGreatDoor
