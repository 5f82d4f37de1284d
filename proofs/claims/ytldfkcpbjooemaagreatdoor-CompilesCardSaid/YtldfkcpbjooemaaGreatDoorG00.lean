/-
  Plain lists of bytes: the words of the language, the document's tokens.
-/
import Derived.Laws.Strings
import Derived.WalkKit
import Derived.WalkSpells
import Derived.WalkLawsBesides
import Derived.Deep.QuietTactic
import Derived.BigQuiet
import Derived.Test.YtldfkcpbjooemaaGreatDoorProg
set_option linter.unusedVariables false
set_option linter.unusedSimpArgs false
namespace Go.Proofs.YtldfkcpbjooemaaGreatDoor
abbrev Txt:=List UInt8
def bsOf (t:Txt):ByteArray:=⟨t.toArray⟩
theorem bsOf_toList (t:Txt):(bsOf t).toList=t:=by rw[ByteArray.toList_eq];rfl
theorem bsOf_of (b:ByteArray):bsOf b.toList=b:=by rw[ByteArray.toList_eq];cases b;simp[bsOf]
theorem bsOf_size (t:Txt):(bsOf t).size=t.length:=by simp[bsOf,ByteArray.size]
theorem toList_length (b:ByteArray):b.toList.length=b.size:=by rw[ByteArray.toList_eq];rfl
theorem extract_bsOf (b:ByteArray) (i k:Nat):b.extract i k=bsOf ((b.toList.drop i).take (k - i)):=by
 apply ByteArray.ext
 simp[bsOf,ByteArray.toList_eq,ByteArray.data_extract]
 rw[← Array.toList_inj]
 simp[Array.toList_extract,List.extract]
theorem getElem_toList (b:ByteArray) (i:Nat) (h:i < b.size):b.toList[i]?=some b[i]:=by
 rw[ByteArray.toList_eq];simp only[Array.getElem?_toList]
 exact Array.getElem?_eq_getElem h
def tLeaf:List Txt:=[[116,114,117,101],[102,97,108,115,101],[100,114,121],[99,111,108,100],[115,97,102,101],[115,105,122,101],[115,112,101,101,100],[110,101,101,100],[122,111,110,101],[99,97,112],[117,115,101,100],[104,97,115]]
def tOwn:List Txt:=[[108,101,116],[119,104,101,110],[115,99,111,114,101],[114,101,106,101,99,116],[97,110,100],[111,114],[110,111,116]]
def tJoint:List Txt:=[[111,114],[97,110,100],[61],[33,61],[60],[60,61],[43],[45],[42],[47],[37]]
def tSign:List Txt:=[[59],[61],[33,61],[60],[60,61],[43],[45],[42],[47],[37],[40],[41]]
def isDig (c:UInt8):Bool:=48≤c&&c≤57
def isLet (c:UInt8):Bool:=97≤c&&c≤122
def leafT (t:Txt):Bool:=tLeaf.contains t
def ownT (t:Txt):Bool:=tOwn.contains t
def jointT (t:Txt):Bool:=tJoint.contains t
def signT (t:Txt):Bool:=tSign.contains t
def headC (t:Txt):UInt8:=t.headD 0
def nameT (t:Txt):Bool:=isLet (headC t)&&!leafT t&&!ownT t
def sameC (a b:UInt8):Bool:=(isDig a&&isDig b)||(isLet a&&isLet b)||((a==60||a==33)&&b==61)
def mayT (t:Txt):Bool:=if isDig (headC t) then decide (t.length≤18) else if isLet (headC t) then decide (t.length≤8) else signT t
def runLen:Txt→Nat
 | []=>0
 | [_]=>1
 | a :: b :: r=>if sameC a b then runLen (b :: r)+1 else 1
theorem runLen_pos (a:UInt8) (r:Txt):1≤runLen (a :: r):=by
 cases r with
 | nil=>simp[runLen]
 | cons b r=>simp only[runLen];split <;> omega
theorem runLen_le:∀ t:Txt,runLen t≤t.length
 | []=>by simp[runLen]
 | [_]=>by simp[runLen]
 | a :: b :: r=>by
  have:=runLen_le (b :: r)
  simp only[runLen,List.length_cons] at this ⊢
  split <;> omega
structure RTok where
 text:Txt
 at':Nat
def blankC (c:UInt8):Bool:=c==32||c==10
def toksRF:Nat→Txt→Nat→Except Nat (List RTok)
 | _,[],_=>.ok []
 | 0,_ :: _,_=>.ok []
 | n+1,c :: r,pos =>
  if blankC c then toksRF n r (pos+1)
  else if mayT ((c :: r).take (runLen (c :: r))) then
   match toksRF n ((c :: r).drop (runLen (c :: r))) (pos+runLen (c :: r)) with
   | .ok l=>.ok (⟨(c :: r).take (runLen (c :: r)),pos⟩ :: l)
   | .error e=>.error e
  else .error pos
def toksR (s:Txt) (pos:Nat):Except Nat (List RTok):=toksRF s.length s pos
theorem toksRF_more:∀ (n m:Nat) (s:Txt) (pos:Nat),s.length≤n→s.length≤m→toksRF n s pos=toksRF m s pos
 | 0,0,[],_,_,_=>rfl
 | 0,_+1,[],_,_,_=>rfl
 | _+1,0,[],_,_,_=>rfl
 | _+1,_+1,[],_,_,_=>rfl
 | 0,_,c :: r,_,h,_=>by simp at h
 | _+1,0,c :: r,_,_,h=>by simp at h
 | n+1,m+1,c :: r,pos,h1,h2=>by
  have hp:=runLen_pos c r
  have h1':r.length≤n:=by simpa using h1
  have h2':r.length≤m:=by simpa using h2
  simp only[toksRF]
  rw[toksRF_more n m r (pos+1) h1' h2',toksRF_more n m ((c :: r).drop (runLen (c :: r))) (pos+runLen (c :: r)) (by rw[List.length_drop,List.length_cons];omega) (by rw[List.length_drop,List.length_cons];omega)]
theorem toksR_nil (pos:Nat):toksR [] pos=.ok []:=rfl
theorem toksR_cons (c:UInt8) (r:Txt) (pos:Nat):toksR (c :: r) pos=if blankC c then toksR r (pos+1)
  else if mayT ((c :: r).take (runLen (c :: r))) then
   match toksR ((c :: r).drop (runLen (c :: r))) (pos+runLen (c :: r)) with
   | .ok l=>.ok (⟨(c :: r).take (runLen (c :: r)),pos⟩ :: l)
   | .error e=>.error e
  else .error pos:=by
 have hp:=runLen_pos c r
 unfold toksR
 rw[List.length_cons,toksRF,toksRF_more r.length ((c :: r).drop (runLen (c :: r))).length _ _ (by rw[List.length_drop,List.length_cons];omega) (Nat.le_refl _)]
theorem beq_decide_u8 (c:UInt8) (n:Nat) (hn:n < 256):((c.toNat:Int)==(n:Int))=(c==(UInt8.ofNat n)):=by
 rw[Bool.eq_iff_iff]
 simp only[beq_iff_eq]
 constructor
 ·intro h
  apply UInt8.toNat_inj.1
  simp only[UInt8.toNat_ofNat']
  omega
 ·intro h
  subst h
  simp only[UInt8.toNat_ofNat']
  omega
theorem run_more:∀ (l:Txt) (j:Nat),1≤j→j < runLen l→sameC (l.getD (j - 1) 0) (l.getD j 0)=true
 | [],j,_,h=>by simp[runLen] at h
 | [_],j,h1,h=>by simp[runLen] at h;omega
 | a :: b :: r,j,h1,h=>by
  simp only[runLen] at h
  split at h
  ·rename_i hs
   rcases Nat.lt_or_ge 1 j with hj | hj
   ·have:=run_more (b :: r) (j - 1) (by omega) (by omega)
    rw[show (a :: b :: r).getD (j - 1) 0=(b :: r).getD (j - 1 - 1) 0 by
     rw[show j - 1=(j - 1 - 1)+1 by omega];rfl]
    rw[show (a :: b :: r).getD j 0=(b :: r).getD (j - 1) 0 by
     rw[show j=(j - 1)+1 by omega];rfl]
    exact this
   ·have:j=1:=by omega
    subst this
    exact hs
  ·omega
theorem run_stop:∀ (l:Txt),l≠[]→runLen l < l.length→sameC (l.getD (runLen l - 1) 0) (l.getD (runLen l) 0)=false
 | [],h,_=>absurd rfl h
 | [_],_,h=>by simp[runLen] at h
 | a :: b :: r,_,h=>by
  by_cases hs:sameC a b=true
  ·have e:runLen (a :: b :: r)=runLen (b :: r)+1:=by simp[runLen,hs]
   rw[e] at h ⊢
   have hp:=runLen_pos b r
   have:=run_stop (b :: r) (by simp) (by simp at h ⊢;omega)
   rw[show (a :: b :: r).getD (runLen (b :: r)+1 - 1) 0=(b :: r).getD (runLen (b :: r) - 1) 0 by
    rw[show runLen (b :: r)+1 - 1=(runLen (b :: r) - 1)+1 by omega];rfl]
   exact this
  ·have e:runLen (a :: b :: r)=1:=by simp[runLen,hs]
   rw[e]
   simpa using hs
def preR (acc:List RTok):Except Nat (List RTok)→Except Nat (List RTok)
 | .ok l=>.ok (acc++l)
 | .error e=>.error e
theorem preR_nil (x:Except Nat (List RTok)):preR [] x=x:=by cases x <;> rfl
theorem preR_app (a b:List RTok) (x:Except Nat (List RTok)):preR a (preR b x)=preR (a++b) x:=by cases x <;> simp[preR]
theorem drop_cons (s:ByteArray) (p:Nat) (hp:p < s.size):s.toList.drop p=s[p] :: s.toList.drop (p+1):=by
 have:=getElem_toList s p hp
 rw[List.getElem?_eq_some_iff] at this
 obtain ⟨h,e⟩:=this
 rw[List.drop_eq_getElem_cons h,e]
theorem drop_getD (s:ByteArray) (p j:Nat) (h:p+j < s.size):(s.toList.drop p).getD j 0=s[p+j]:=by
 have:=getElem_toList s (p+j) h
 rw[List.getD_eq_getElem?_getD,List.getElem?_drop,this];rfl
def tokLen (s:ByteArray) (p:Nat):Nat:=runLen (s.toList.drop p)
theorem tokLen_bd (s:ByteArray) (p:Nat) (hp:p < s.size):1≤tokLen s p∧p+tokLen s p≤s.size:=by
 unfold tokLen
 have h1:=runLen_le (s.toList.drop p)
 rw[List.length_drop,toList_length] at h1
 rw[drop_cons s p hp] at h1 ⊢
 have:=runLen_pos s[p] (s.toList.drop (p+1))
 exact ⟨this,by omega⟩
theorem tokLen_more (s:ByteArray) (p k:Nat) (hp:p < k) (hk:k < p+tokLen s p) (hs:k < s.size):sameC (s[k - 1]'(by omega)) s[k]=true:=by
 have:=run_more (s.toList.drop p) (k - p) (by omega) (by unfold tokLen at hk;omega)
 rw[drop_getD s p (k - p - 1) (by omega),drop_getD s p (k - p) (by omega)] at this
 have e1:p+(k - p - 1)=k - 1:=by omega
 have e2:p+(k - p)=k:=by omega
 simpa[e1,e2] using this
theorem tokLen_stop (s:ByteArray) (p k:Nat) (hp:p < s.size) (hk:k=p+tokLen s p) (hs:k < s.size):sameC (s[k - 1]'(by omega)) s[k]=false:=by
 have hb:=tokLen_bd s p hp
 have:=run_stop (s.toList.drop p) (by rw[drop_cons s p hp];simp) (by rw[List.length_drop,toList_length];unfold tokLen at hk;omega)
 unfold tokLen at hk hb
 rw[drop_getD s p (runLen (s.toList.drop p) - 1) (by omega),drop_getD s p (runLen (s.toList.drop p)) (by omega)] at this
 have e1:p+(runLen (s.toList.drop p) - 1)=k - 1:=by omega
 have e2:p+runLen (s.toList.drop p)=k:=by omega
 simpa[e1,e2] using this
theorem toks_end (s:ByteArray) (p:Nat) (hp:s.size≤p):toksR (s.toList.drop p) p=.ok []:=by
 rw[List.drop_eq_nil_of_le (by rw[toList_length];omega),toksR_nil]
theorem toks_blank (s:ByteArray) (p:Nat) (hp:p < s.size) (hb:blankC s[p]=true):toksR (s.toList.drop p) p=toksR (s.toList.drop (p+1)) (p+1):=by
 rw[drop_cons s p hp,toksR_cons,if_pos hb]
theorem toks_tok (s:ByteArray) (p:Nat) (hp:p < s.size) (hb:blankC s[p]=false) (hm:mayT (s.extract p (p+tokLen s p)).toList=true) :
  toksR (s.toList.drop p) p=preR [⟨(s.extract p (p+tokLen s p)).toList,p⟩] (toksR (s.toList.drop (p+tokLen s p)) (p+tokLen s p)):=by
 rw[extract_bsOf,bsOf_toList,Nat.add_sub_cancel_left] at hm ⊢
 rw[show s.toList.drop (p+tokLen s p)=(s.toList.drop p).drop (tokLen s p) by rw[List.drop_drop]]
 unfold tokLen at hm ⊢
 rw[drop_cons s p hp] at hm ⊢
 conv=>lhs;rw[toksR_cons]
 rw[if_neg (by simp[hb]),if_pos hm]
 cases toksR ((s[p] :: s.toList.drop (p+1)).drop (runLen (s[p] :: s.toList.drop (p+1)))) (p+runLen (s[p] :: s.toList.drop (p+1))) <;> rfl
theorem toks_bad (s:ByteArray) (p:Nat) (hp:p < s.size) (hb:blankC s[p]=false) (hm:mayT (s.extract p (p+tokLen s p)).toList=false) :
  toksR (s.toList.drop p) p=.error p:=by
 rw[extract_bsOf,bsOf_toList,Nat.add_sub_cancel_left] at hm
 unfold tokLen at hm
 rw[drop_cons s p hp] at hm ⊢
 rw[toksR_cons,if_neg (by simp[hb]),if_neg (by simp[hm])]
theorem blankC_int (c:UInt8):blankC c=((c.toNat:Int)==32||(c.toNat:Int)==10):=by
 unfold blankC
 rw[show ((c.toNat:Int)==32)=(c==32) from beq_decide_u8 c 32 (by omega),show ((c.toNat:Int)==10)=(c==10) from beq_decide_u8 c 10 (by omega)]
theorem isDig_int (c:UInt8):isDig c=(decide ((48:Int)≤c.toNat)&&decide ((c.toNat:Int)≤57)):=by
 unfold isDig;rw[Bool.eq_iff_iff];simp[UInt8.le_iff_toNat_le];omega
theorem isLet_int (c:UInt8):isLet c=(decide ((97:Int)≤c.toNat)&&decide ((c.toNat:Int)≤122)):=by
 unfold isLet;rw[Bool.eq_iff_iff];simp[UInt8.le_iff_toNat_le];omega
end Go.Proofs.YtldfkcpbjooemaaGreatDoor
namespace Go.Proofs.YtldfkcpbjooemaaGreatDoor
open Go.RowKit
def Blk (w:World) (b:Nat) (cs:Array Value) (t:TypeId):Prop:=w.heap[b]?=some (.cells cs t (0,0))
theorem Blk.cell {w:World} {b:Nat} {cs:Array Value} {t:TypeId} (h:Blk w b cs t) (i:Nat):w.cell? ⟨b,i,none⟩=cs[i]?:=by
 unfold Blk at h;simp[World.cell?,h]
theorem Blk.free {w:World} {b:Nat} {cs:Array Value} {t:TypeId} (h:Blk w b cs t) (i:Nat):w.frozen? ⟨b,i,none⟩=false:=by
 unfold Blk at h;simp[World.frozen?,h]
theorem Blk.lt {w:World} {b:Nat} {cs:Array Value} {t:TypeId} (h:Blk w b cs t):b < w.heap.size:=lt_of_block h
theorem Blk.set {w:World} {b:Nat} {cs:Array Value} {t:TypeId} (h:Blk w b cs t) (i:Nat) (v:Value):Blk (w.setCell ⟨b,i,none⟩ v) b (cs.setIfInBounds i v) t:=by
 have hlt:=h.lt
 have h':w.heap[b]=.cells cs t (0,0):=by unfold Blk at h;simpa[Array.getElem?_eq_getElem hlt] using h
 show (w.heap.modify b _)[b]?=_
 rw[Array.getElem?_eq_getElem (by simpa using hlt),Array.getElem_modify_self,h']
 rfl
theorem Blk.other {w:World} {b:Nat} {cs:Array Value} {t:TypeId} (h:Blk w b cs t) (a:Addr) (v:Value) (hne:b≠a.block):Blk (w.setCell a v) b cs t:=by
 unfold Blk;rw[Below.heap_setCell _ _ _ _ hne];exact h
theorem Blk.below {w w':World} {b B:Nat} {cs:Array Value} {t:TypeId} (h:Blk w b cs t) (hb:Below B w w') (hB:b < B):Blk w' b cs t:=by
 unfold Blk;rw[hb.block b hB];exact h
theorem Blk.alloc {w:World} {b:Nat} {cs:Array Value} {t:TypeId} (h:Blk w b cs t) (o:Obj):Blk (w.alloc o) b cs t :=
 h.below ((Below.refl w.heap.size w).alloc (Nat.le_refl _) o) h.lt
theorem Blk.new (w:World) (cs:Array Value) (t:TypeId):Blk (w.alloc (.cells cs t)) w.heap.size cs t:=heap_alloc_new w _
theorem Blk.drew {w:World} {b:Nat} {cs:Array Value} {t:TypeId} (h:Blk w b cs t):Blk w.drew b cs t:=h
theorem below_setCell {w:World} (b i:Nat) (v:Value):Below b w (w.setCell ⟨b,i,none⟩ v):=(Below.refl b w).setCell (p:=⟨b,i,none⟩) (Nat.le_refl _) v
theorem ret_bool {a b:Bool} (h:a=b):Ending.returned (.bool a)=.returned (.bool b):=by rw[h]
theorem ret_int {k:IntKind} {a b:Int} (h:a=b):Ending.returned (.int k a)=.returned (.int k b):=by rw[h]
def Reads (w:World) (v:Value) (n:Nat) (xs:List Value):Prop :=
 (v=.slice none 0 0∧n=0∧xs=[])∨∃ b o cap,v=.slice (some ⟨b,o,none⟩) n cap∧n≤cap∧b < w.heap.size∧∀ j u,xs[j]?=some u→w.cell? ⟨b,o+j,none⟩=some u
theorem Reads.below {w w':World} {v:Value} {n:Nat} {xs:List Value} (h:Reads w v n xs) (hb:Below w.heap.size w w'):Reads w' v n xs:=by
 rcases h with h | ⟨b,o,cap,rfl,hn,hlt,hc⟩
 ·exact .inl h
 ·exact .inr ⟨b,o,cap,rfl,hn,Nat.lt_of_lt_of_le hlt hb.size,fun j u hj=>(hb.cell (p:=⟨b,o+j,none⟩) hlt).trans (hc j u hj)⟩
theorem Reads.pos {w:World} {v:Value} {n:Nat} {xs:List Value} (h:Reads w v n xs) (hn:0 < n) :
  ∃ g o cap,v=.slice (some ⟨g,o,none⟩) n cap∧n≤cap∧g < w.heap.size∧∀ j u,xs[j]?=some u→w.cell? ⟨g,o+j,none⟩=some u:=by
 rcases h with ⟨_,h,_⟩ | h
 ·omega
 ·exact h
theorem Reads.alloc {w:World} {v:Value} {n:Nat} {xs:List Value} (h:Reads w v n xs) (o:Obj):Reads (w.alloc o) v n xs:=h.below ((Below.refl _ _).alloc (Nat.le_refl _) o)
theorem Reads.drew {w:World} {v:Value} {n:Nat} {xs:List Value} (h:Reads w v n xs):Reads w.drew v n xs:=h
theorem Reads.shape {w:World} {v:Value} {n:Nat} {xs:List Value} (h:Reads w v n xs):∃ a c,v=.slice a n c:=by
 rcases h with ⟨rfl,h,_⟩ | ⟨g,o,cap,rfl,_⟩
 ·exact ⟨none,0,by rw[h]⟩
 ·exact ⟨_,_,rfl⟩
theorem run_index_nat {P:Program} (w:World) (t:TypeId) (s:ByteArray) (k:IntKind) (i:Int) (n:Nat) (h:P.underlying t=some .string) (hi:i=(n:Int)) (hn:n < s.size) :
  (Instr.index t (.string s) (.int k i)).run P w=.ok (.int .u8 s[n].toNat) w:=by
 subst hi
 rw[run_index_string w t s k _ h,dif_pos ⟨by omega,by omega⟩]
 simp
theorem below_drewN {B:Nat} {a w:World} (h:Below B a w) (n:Nat):Below B a (w.drewN n):=h.trans ⟨rfl,rfl,rfl,Nat.le_refl _,fun _ _=>rfl⟩
theorem own_below {w w':World} {base:Nat} {e:TypeId} {size:Nat} {v:Value} {n:Nat} {xs:List Value} (h:w.ownsRow base e size v n xs) (hb:Below w.heap.size w w'):w'.ownsRow base e size v n xs:=by
 refine ⟨h.1, ?_⟩
 rcases h.2 with hn | ⟨g,cap,cur,rfl,hbg,hg,r⟩
 ·exact .inl hn
 ·exact .inr ⟨g,cap,cur,rfl,hbg,by rw[hb.block g (Array.getElem?_eq_some_iff.1 hg).1];exact hg,r⟩
theorem own_belowB {w w':World} {B base:Nat} {e:TypeId} {size:Nat} {v:Value} {n:Nat} {xs:List Value} (h:w.ownsRow base e size v n xs) (hb:Below B w w') (hv:∀ k,v.ownBlock=some k→k < B):w'.ownsRow base e size v n xs:=by
 refine ⟨h.1, ?_⟩
 rcases h.2 with hn | ⟨g,cap,cur,rfl,hbg,hg,r⟩
 ·exact .inl hn
 ·exact .inr ⟨g,cap,cur,rfl,hbg,by rw[hb.block g (hv g rfl)];exact hg,r⟩
theorem one_one {s:ByteArray}:∀ u∈[Value.string s],u.oneCell'=true:=by
 intro u hu
 simp at hu
 subst hu
 rfl
theorem reads_of_own {w:World} {base:Nat} {e:TypeId} {size:Nat} {v:Value} {n:Nat} {xs:List Value} (h:w.ownsRow base e size v n xs):Reads w v n xs:=by
 rcases h.2 with ⟨rfl,rfl⟩ | ⟨g,cap,cur,rfl,hb,hg,hnc,hcm,hcs,htk⟩
 ·refine .inl ⟨rfl,rfl, ?_⟩
  have:=h.1
  simpa using this
 ·refine .inr ⟨g,0,cap,rfl,hnc,lt_of_block hg,fun j u hj=>?_⟩
  have hlt:j < n * size:=by
   have:=h.1
   rw[List.getElem?_eq_some_iff] at hj
   obtain ⟨h1,_⟩:=hj
   omega
  rw[Nat.zero_add,h.cellAt j hlt]
  exact hj
theorem own_grown {w w':World} {base:Nat} {e:TypeId} {size:Nat} {v:Value} {n:Nat} {xs:List Value} {o:Obj} {row:Option Nat} (h:w.ownsRow base e size v n xs) (hg:(w.alloc o).grownBy w' row) (hne:v.ownBlock=none∨v.ownBlock≠row):w'.ownsRow base e size v n xs :=
 (h.alloc o).kept hg hne
theorem own_ne {w:World} {b1 b2:Nat} {e1 e2:TypeId} {s1 s2:Nat} {v1 v2:Value} {n1 n2:Nat} {x1 x2:List Value} (h1:w.ownsRow b1 e1 s1 v1 n1 x1) (h2:w.ownsRow b2 e2 s2 v2 n2 x2) (he:e1≠e2):v1.ownBlock=none∨v1.ownBlock≠v2.ownBlock:=by
 rcases h1.2 with ⟨rfl,_⟩ | ⟨g1,c1,cur1,rfl,_,hg1,_⟩
 ·exact .inl rfl
 ·right
  rcases h2.2 with ⟨rfl,_⟩ | ⟨g2,c2,cur2,rfl,_,hg2,_⟩
  ·simp[Value.ownBlock]
  ·intro e
   simp only[Value.ownBlock,Option.some.injEq] at e
   rw[e,hg2] at hg1
   simp only[Option.some.injEq,Obj.cells.injEq] at hg1
   exact he hg1.2.1.symm
theorem one_int1 {k:IntKind} {n:Int}:∀ u∈[Value.int k n],u.oneCell'=true:=by
 intro u hu
 simp at hu
 subst hu
 rfl
theorem one_int4 {k:IntKind} {a b c d:Int}:∀ u∈[Value.int k a,.int k b,.int k c,.int k d],u.oneCell'=true:=by
 intro u hu
 simp at hu
 rcases hu with rfl | rfl | rfl | rfl <;> rfl
theorem cell_four (w:World) (x y z t:Value) (e:TypeId):∀ j u,[x,y,z,t][j]?=some u→(w.alloc (.cells #[x,y,z,t] e)).cell? ((⟨w.heap.size,0,none⟩:Addr).add j)=some u:=by
 intro j u hj
 match j,hj with
 | 0,hj=>simp at hj;subst hj;simp[Addr.add]
 | 1,hj=>simp at hj;subst hj;simp[Addr.add]
 | 2,hj=>simp at hj;subst hj;simp[Addr.add]
 | 3,hj=>simp at hj;subst hj;simp[Addr.add]
theorem cell_one_at (w:World) (x:Value) (e:TypeId) (b:Nat) (hb:b=w.heap.size):∀ j u,[x][j]?=some u→(w.alloc (.cells #[x] e)).cell? ((⟨b,0,none⟩:Addr).add j)=some u:=by
 subst hb
 exact cell_one_new w x e
theorem after_drew {w w1:World} {n:Nat} (h:Below (w.drewN n).heap.size (w.drewN n) w1):Below w.heap.size w w1:=by
 have h1:Below w.heap.size w (w.drewN n):=below_drewN (Below.refl _ _) n
 have h2:(w.drewN n).heap.size=w.heap.size:=rfl
 rw[h2] at h
 exact h1.trans h
end Go.Proofs.YtldfkcpbjooemaaGreatDoor
namespace Go.Proofs.YtldfkcpbjooemaaGreatDoor
open Go.RowKit
set_option maxHeartbeats 400000 in
theorem isDigit_any (c:UInt8) (w:World) :
  Calls Tryz.prog 66 #[.int .u8 c.toNat] w fun e w'=>e=.returned (.bool (isDig c))∧w'=w:=by
 rw[isDig_int]
 go_enter Tryz.func66,Tryz.ntmps66
 go_wp2
 all_goals go_ret
 all_goals exact ⟨ret_bool (by simp;omega),rfl⟩
set_option maxHeartbeats 400000 in
theorem isLetter_any (c:UInt8) (w:World) :
  Calls Tryz.prog 103 #[.int .u8 c.toNat] w fun e w'=>e=.returned (.bool (isLet c))∧w'=w:=by
 rw[isLet_int]
 go_enter Tryz.func103,Tryz.ntmps103
 go_wp2
 all_goals go_ret
 all_goals exact ⟨ret_bool (by simp;omega),rfl⟩
theorem sameC_int (a b:UInt8):sameC a b=((isDig a&&isDig b)||(isLet a&&isLet b)||(((a.toNat:Int)==60||(a.toNat:Int)==33)&&(b.toNat:Int)==61)):=by
 unfold sameC
 rw[show ((a.toNat:Int)==60)=(a==60) from beq_decide_u8 a 60 (by omega),show ((a.toNat:Int)==33)=(a==33) from beq_decide_u8 a 33 (by omega),show ((b.toNat:Int)==61)=(b==61) from beq_decide_u8 b 61 (by omega)]
set_option maxHeartbeats 1000000 in
theorem same_any (a b:UInt8) (w:World) :
  Calls Tryz.prog 95 #[.int .u8 a.toNat,.int .u8 b.toNat] w fun e w'=>e=.returned (.bool (sameC a b))∧w'=w:=by
 rw[sameC_int]
 cases h1:isDig a <;> cases h2:isLet a
 all_goals
  go_enter Tryz.func95,Tryz.ntmps95
  go_wp2_with (first | (go_at_call 66;refine (isDigit_any _ _).mono ?_;rintro e w' ⟨rfl,rfl⟩) | (go_at_call 103;refine (isLetter_any _ _).mono ?_;rintro e w' ⟨rfl,rfl⟩))
  all_goals go_ret
 all_goals exact ⟨ret_bool (by simp_all),rfl⟩
def inL (t:ByteArray) (l:List ByteArray):Bool:=l.any fun x=>x.toList==t.toList
theorem inL_hit {t:ByteArray} {l:List ByteArray} {k:Nat} (h:k < l.length) (he:(l[k].toList==t.toList)=true):inL t l=true:=by
 simp only[inL,List.any_eq_true]
 exact ⟨l[k],List.getElem_mem h,he⟩
theorem inL_miss {t:ByteArray} {l:List ByteArray} {k:Nat} (h:k < l.length) (hi:inL t (l.take k)=false) (he:(l[k].toList==t.toList)=false):inL t (l.take (k+1))=false:=by
 rw[List.take_succ_eq_append_getElem h]
 simp only[inL,List.any_append,List.any_cons,List.any_nil,Bool.or_false,he] at hi ⊢
 simp[hi]
set_option maxHeartbeats 1000000 in
theorem in_any (t:ByteArray) (l:List ByteArray) (v:Value) (w:World) (hv:Reads w v l.length (l.map .string)) (hl:l.length≤1000000) :
  Calls Tryz.prog 68 #[.string t,v] w fun e w'=>e=.returned (.bool (inL t l))∧w'=w:=by
 rcases hv with ⟨rfl,hn,hx⟩ | ⟨b,o,cap,rfl,_,hlt,hc⟩
 ·have:l=[]:=by simpa using hx
  subst this
  go_enter Tryz.func68,Tryz.ntmps68
  go_wp2
  refine wp_loop_rounds 1 ?_;rw[rounds_succ]
  go_wp2
  go_ret
  exact ⟨rfl,rfl⟩
 ·go_enter Tryz.func68,Tryz.ntmps68
  go_wp2
  go_loop [5] (fun i=>∃ k:Nat,k≤l.length∧i=.int .i64 k∧inL t (l.take k)=false) (fun i=>l.length - (intOf i).toNat)
  case atStart=>exact ⟨0,Nat.zero_le _,rfl,rfl⟩
  case round =>
   obtain ⟨k,hk,rfl,hin⟩:=hrel
   by_cases hlt:k < l.length
   ·have hck:w.cell? ⟨b,o+k,none⟩=some (.string l[k]):=hc k _ (by simp[hlt])
    have HI:Hid (inL t (l.take k)=false):=hin
    clear hin hc
    go_wp2
    ·go_ret
     exact ⟨ret_bool (inL_hit hlt (by assumption)).symm,rfl⟩
    ·go_round
     case rel=>exact ⟨k+1,by omega,by go_num,inL_miss hlt HI.out (by assumption)⟩
     case measure=>simp[intOf];omega
   ·go_wp2
    go_ret
    exact ⟨ret_bool (by rw[List.take_of_length_le (by omega)] at hin;exact hin.symm),rfl⟩
theorem reads_lit (w:World) (l:List ByteArray) (cs:Array Value) (e:TypeId) (cap:Nat) (hcs:cs.toList=l.map .string) (hcap:l.length≤cap):Reads (w.alloc (.cells cs e)) (.slice (some ⟨w.heap.size,0,none⟩) l.length cap) l.length (l.map .string):=by
 refine .inr ⟨_,_,_,rfl,hcap,by simp,fun j u hj=>?_⟩
 rw[← hcs] at hj
 simp at hj
 simp[hj]
def wLeaf:List ByteArray:=[⟨#[116,114,117,101]⟩,⟨#[102,97,108,115,101]⟩,⟨#[100,114,121]⟩,⟨#[99,111,108,100]⟩,⟨#[115,97,102,101]⟩,⟨#[115,105,122,101]⟩,⟨#[115,112,101,101,100]⟩,⟨#[110,101,101,100]⟩,⟨#[122,111,110,101]⟩,⟨#[99,97,112]⟩,⟨#[117,115,101,100]⟩,⟨#[104,97,115]⟩]
def wOwn:List ByteArray:=[⟨#[108,101,116]⟩,⟨#[119,104,101,110]⟩,⟨#[115,99,111,114,101]⟩,⟨#[114,101,106,101,99,116]⟩,⟨#[97,110,100]⟩,⟨#[111,114]⟩,⟨#[110,111,116]⟩]
def wJoint:List ByteArray:=[⟨#[111,114]⟩,⟨#[97,110,100]⟩,⟨#[61]⟩,⟨#[33,61]⟩,⟨#[60]⟩,⟨#[60,61]⟩,⟨#[43]⟩,⟨#[45]⟩,⟨#[42]⟩,⟨#[47]⟩,⟨#[37]⟩]
def wSign:List ByteArray:=[⟨#[59]⟩,⟨#[61]⟩,⟨#[33,61]⟩,⟨#[60]⟩,⟨#[60,61]⟩,⟨#[43]⟩,⟨#[45]⟩,⟨#[42]⟩,⟨#[47]⟩,⟨#[37]⟩,⟨#[40]⟩,⟨#[41]⟩]
theorem inL_eq (t:ByteArray) (l:List ByteArray) (m:List Txt) (h:l=m.map bsOf):inL t l=m.contains t.toList:=by
 subst h
 rw[Bool.eq_iff_iff]
 simp[inL,List.any_eq_true,bsOf_toList]
set_option maxHeartbeats 1000000 in
theorem isLeaf_any (t:ByteArray) (w:World) :
  Calls Tryz.prog 64 #[.string t] w fun e w'=>e=.returned (.bool (leafT t.toList))∧Below w.heap.size w w':=by
 go_enter Tryz.func64,Tryz.ntmps64
 go_wp2_with (go_at_call 68;refine (in_any t wLeaf _ _ (reads_lit _ wLeaf _ _ _ rfl (by decide)) (by decide)).mono ?_;rintro e w' ⟨rfl,rfl⟩)
 go_ret
 exact ⟨ret_bool (inL_eq t wLeaf tLeaf rfl),(Below.refl _ _).alloc (Nat.le_refl _) _⟩
set_option maxHeartbeats 1000000 in
theorem isJoint_any (t:ByteArray) (w:World) :
  Calls Tryz.prog 140 #[.string t] w fun e w'=>e=.returned (.bool (jointT t.toList))∧Below w.heap.size w w':=by
 go_enter Tryz.func140,Tryz.ntmps140
 go_wp2_with (go_at_call 68;refine (in_any t wJoint _ _ (reads_lit _ wJoint _ _ _ rfl (by decide)) (by decide)).mono ?_;rintro e w' ⟨rfl,rfl⟩)
 go_ret
 exact ⟨ret_bool (inL_eq t wJoint tJoint rfl),(Below.refl _ _).alloc (Nat.le_refl _) _⟩
theorem head_getElem (t:ByteArray) (h:0 < t.size):headC t.toList=t[0]:=by
 have:=getElem_toList t 0 h
 unfold headC
 cases hl:t.toList with
 | nil=>rw[hl] at this;simp at this
 | cons a r=>rw[hl] at this;simpa using this
set_option maxHeartbeats 1000000 in
theorem isName_any (t:ByteArray) (h0:0 < t.size) (w:World) :
  Calls Tryz.prog 65 #[.string t] w fun e w'=>e=.returned (.bool (nameT t.toList))∧Below w.heap.size w w':=by
 have hh:=head_getElem t h0
 have hn:nameT t.toList=(isLet t[0]&&!leafT t.toList&&!ownT t.toList):=by rw[← hh];rfl
 rw[hn];clear hn hh
 cases hl:isLet t[0] <;> cases hf:leafT t.toList
 all_goals
  go_enter Tryz.func65,Tryz.ntmps65
  go_wp2_with (first | (go_at_call 103;refine (isLetter_any _ _).mono ?_;rintro e w' ⟨rfl,rfl⟩) | (go_at_call 64;refine (isLeaf_any _ _).mono ?_;rintro e w1 ⟨rfl,hb1⟩) | (go_at_call 68;refine (in_any t wOwn _ _ (reads_lit _ wOwn _ _ _ rfl (by decide)) (by decide)).mono ?_;rintro e w' ⟨rfl,rfl⟩))
  all_goals go_ret
 ·exact ⟨rfl,Below.refl _ _⟩
 ·exact ⟨rfl,Below.refl _ _⟩
 ·exact ⟨ret_bool (by rw[inL_eq t wOwn tOwn rfl];simp[ownT]),hb1.alloc hb1.size _⟩
 ·exact ⟨ret_bool (by simp),hb1.alloc hb1.size _⟩
end Go.Proofs.YtldfkcpbjooemaaGreatDoor
namespace Go.Proofs.YtldfkcpbjooemaaGreatDoor
open Go.RowKit
theorem cell_lit (w:World) (l:List ByteArray) (cs:Array Value) (e:TypeId) (hcs:cs.toList=l.map .string) (k:Nat) (hk:k < l.length):(w.alloc (.cells cs e)).cell? ⟨w.heap.size,k,none⟩=some (.string l[k]):=by
 have:cs.toList[k]?=some (.string l[k]):=by rw[hcs];simp[hk]
 simp at this
 simp[this]
set_option maxHeartbeats 1000000 in
theorem may_any (t:ByteArray) (h0:0 < t.size) (w:World) :
  Calls Tryz.prog 96 #[.string t] w fun e w'=>e=.returned (.bool (mayT t.toList))∧Below w.heap.size w w':=by
 have hh:=head_getElem t h0
 have hn:mayT t.toList=if isDig t[0] then decide (t.size≤18) else if isLet t[0] then decide (t.size≤8) else signT t.toList:=by
  rw[← hh,← toList_length];rfl
 rw[hn];clear hn hh
 cases hd:isDig t[0]
 ·cases hl:isLet t[0]
  ·go_enter Tryz.func96,Tryz.ntmps96
   go_wp2_with (first | (go_at_call 66;refine (isDigit_any _ _).mono ?_;rintro e w' ⟨rfl,rfl⟩) | (go_at_call 103;refine (isLetter_any _ _).mono ?_;rintro e w' ⟨rfl,rfl⟩))
   go_loop [4] (fun i=>∃ k:Nat,k≤12∧i=.int .i64 k∧inL t (wSign.take k)=false) (fun i=>12 - (intOf i).toNat)
   case atStart=>exact ⟨0,Nat.zero_le _,rfl,rfl⟩
   case round =>
    obtain ⟨k,hk,rfl,hin⟩:=hrel
    by_cases hlt:k < 12
    ·have hls:k < wSign.length:=hlt
     have hck:=cell_lit w' wSign #[.string ⟨#[59]⟩,.string ⟨#[61]⟩,.string ⟨#[33,61]⟩,.string ⟨#[60]⟩,.string ⟨#[60,61]⟩,.string ⟨#[43]⟩,.string ⟨#[45]⟩,.string ⟨#[42]⟩,.string ⟨#[47]⟩,.string ⟨#[37]⟩,.string ⟨#[40]⟩,.string ⟨#[41]⟩] 9 rfl k hls
     have HI:Hid (inL t (wSign.take k)=false):=hin
     clear hin
     obtain ⟨x,hx⟩:∃ x,x=wSign[k]:=⟨_,rfl⟩
     rw[← hx] at hck
     have HX:Hid (x=wSign[k]):=hx
     clear hx
     go_wp2
     ·go_ret
      exact ⟨ret_bool (by rw[signT,← inL_eq t wSign tSign rfl];exact (inL_hit hls (HX.out ▸ (by assumption))).symm),(Below.refl _ _).alloc (Nat.le_refl _) _⟩
     ·go_round
      case rel=>exact ⟨k+1,by omega,by go_num,inL_miss hls HI.out (HX.out ▸ (by assumption))⟩
      case measure=>simp[intOf];omega
    ·go_wp2
     go_ret
     exact ⟨ret_bool (by rw[signT,← inL_eq t wSign tSign rfl];rw[List.take_of_length_le (by simp[wSign];omega)] at hin;exact hin.symm),(Below.refl _ _).alloc (Nat.le_refl _) _⟩
  ·go_enter Tryz.func96,Tryz.ntmps96
   go_wp2_with (first | (go_at_call 66;refine (isDigit_any _ _).mono ?_;rintro e w' ⟨rfl,rfl⟩) | (go_at_call 103;refine (isLetter_any _ _).mono ?_;rintro e w' ⟨rfl,rfl⟩))
   go_ret
   exact ⟨ret_bool (by simp;omega),Below.refl _ _⟩
 ·go_enter Tryz.func96,Tryz.ntmps96
  go_wp2_with (first | (go_at_call 66;refine (isDigit_any _ _).mono ?_;rintro e w' ⟨rfl,rfl⟩) | (go_at_call 103;refine (isLetter_any _ _).mono ?_;rintro e w' ⟨rfl,rfl⟩))
  go_ret
  exact ⟨ret_bool (by simp;omega),Below.refl _ _⟩
def cellR (t:RTok):List Value:=[.string (bsOf t.text),.int .i64 t.at']
def cellsR (l:List RTok):List Value:=l.flatMap cellR
theorem cellsR_length (l:List RTok):(cellsR l).length=l.length * 2:=by
 induction l with
 | nil=>rfl
 | cons a r ih=>simp only[cellsR,List.flatMap_cons,List.length_append,List.length_cons] at ih ⊢;rw[ih];simp[cellR];omega
theorem cellsR_snoc (l:List RTok) (t:RTok):cellsR (l++[t])=cellsR l++cellR t:=by simp[cellsR]
theorem Tryz.infoRTok:(Tryz.prog.info? 77).map (fun i=>(i.zero,i.size,i.bytes))=some (some (.agg #[.string ⟨#[]⟩,.int .i64 0]),2,24):=by kernel_rfl
end Go.Proofs.YtldfkcpbjooemaaGreatDoor
