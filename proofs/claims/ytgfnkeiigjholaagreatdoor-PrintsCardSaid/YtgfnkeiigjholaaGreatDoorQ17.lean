/-
  What the program's small functions on bytes and words do: isBlank, digitRow, letterRow, wordKind, firstSign, first.
-/
import Derived.Test.YtgfnkeiigjholaaGreatDoorProg
import Derived.Test.YtgfnkeiigjholaaGreatDoorQ01
import Derived.Test.YtgfnkeiigjholaaGreatDoorQ09
set_option linter.unusedVariables false
set_option linter.unusedSimpArgs false
namespace Go.Proofs.YtgfnkeiigjholaaGreatDoor
open Go.RowKit
structure GlobT(w:World):Prop where
 words:∀ i (h:i<19),w.cell? ⟨3,i,none⟩=some (.string (bsOf (tWords[i]'h)))
 signs:∀ i (h:i<12),w.cell? ⟨4,i,none⟩=some (.string (bsOf (tSign[i]'h)))
 two:3<w.heap.size∧4<w.heap.size
theorem GlobT.below{w w':World}(h:GlobT w)(hb:Below w.heap.size w w'):GlobT w' :=
 ⟨fun i hi=>(hb.cell (p:=⟨3,i,none⟩) h.two.1).trans (h.words i hi),fun i hi=>(hb.cell (p:=⟨4,i,none⟩) h.two.2).trans (h.signs i hi),Nat.lt_of_lt_of_le h.two.1 hb.size,Nat.lt_of_lt_of_le h.two.2 hb.size⟩
set_option maxHeartbeats 400000 in
theorem isBlank_any(c:UInt8)(w:World) :
  Calls Tryz.prog 89 #[.int .u8 c.toNat] w fun e w'=>e=.returned (.bool (blankC c))∧w'=w:=by
 rw[blankC_int]
 go_enter Tryz.func89,Tryz.ntmps89
 go_wp2
 all_goals go_ret
 all_goals exact ⟨ret_bool (by simp_all),rfl⟩
theorem tw_snoc(p:UInt8→Bool):∀ (l:Txt) (k:Nat) (h:k<l.length),(∀ j (hj:j<k),p (l[j]'(by omega))=true)→(p l[k]=false→(l.takeWhile p).length=k)
 | a :: r,0,h,_,hk=>by have hk':p a=false:=hk;simp[List.takeWhile,hk']
 | a :: r,k+1,h,hall,hk=>by
  have ha:p a=true:=hall 0 (by omega)
  have:=tw_snoc p r k (by simpa using h) (fun j hj=>by have:=hall (j+1) (by omega);simpa using this) (by simpa using hk)
  simp[List.takeWhile,ha,this]
theorem tw_all(p:UInt8→Bool):∀ (l:Txt),(∀ j (hj:j<l.length),p l[j]=true)→(l.takeWhile p).length=l.length
 | [],_=>rfl
 | a :: r,hall=>by
  have ha:p a=true:=hall 0 (by simp)
  have:=tw_all p r (fun j hj=>by have:=hall (j+1) (by simpa using hj);simpa using this)
  simp[List.takeWhile,ha,this]
theorem get_toList(s:ByteArray)(k:Nat)(h:k<s.size)(h':k<s.toList.length):s.toList[k]=s[k]:=by
 have:=getElem_toList s k h
 rw[List.getElem?_eq_getElem h']at this
 exact Option.some.inj this
theorem upto_succ{s:ByteArray}{k:Nat}{p:UInt8→Bool}{hlt:k<s.size}(h:∀ j (hj:j<k) (h2:j<s.size),p s[j]=true)(hk:p s[k]=true):∀ j (hj:j<k+1) (h2:j<s.size),p s[j]=true:=by
 intro j hj h2
 rcases Nat.lt_or_ge j k with h' | h'
 ·exact h j h' h2
 ·obtain rfl:j=k:=by omega
  exact hk
set_option maxHeartbeats 1000000 in
theorem digitRow_any(s:ByteArray)(hs:s.size≤400)(w:World) :
  Calls Tryz.prog 132 #[.string s] w fun e w'=>e=.returned (.int .i64 (digitRowT s.toList))∧w'=w:=by
 go_enter Tryz.func132,Tryz.ntmps132
 go_wp2
 go_loop [3] (fun i=>∃ k:Nat,k≤s.size∧i=.int .i64 k∧∀ j (hj:j<k) (h2:j<s.size),isDig s[j]=true) (fun i=>s.size-(intOf i).toNat)
 case atStart=>exact ⟨0,Nat.zero_le _,rfl,fun j hj=>by omega⟩
 case round =>
  obtain ⟨k,hk,rfl,hall⟩:=hrel
  have HA:Hid (∀ j (hj:j<k) (h2:j<s.size),isDig s[j]=true):=hall
  clear hall
  by_cases hlt:k<s.size
  ·cases hd:isDig s[k]
   ·have HD:Hid (isDig s[k]=false):=hd
    rw[isDig_int]at hd
    have hd2:((s[k].toNat:Int)<48)∨((48:Int)≤s[k].toNat∧(57:Int)<s[k].toNat):=by simp at hd;omega
    clear hd
    have fin:Ending.returned (.int .i64 (k:Int))=.returned (.int .i64 (digitRowT s.toList)):=ret_int (by
     have:=tw_snoc isDig s.toList k (by rw[toList_length];exact hlt) (fun j hj=>by rw[get_toList s j (by omega)];exact HA.out j hj (by omega)) (by rw[get_toList s k hlt];exact HD.out)
     unfold digitRowT;rw[this])
    rcases hd2 with hd2 | ⟨hd2,hd3⟩
    ·go_wp2
     go_ret
     exact ⟨fin,rfl⟩
    ·go_wp2
     go_ret
     exact ⟨fin,rfl⟩
   ·have HD:Hid (isDig s[k]=true):=hd
    rw[isDig_int]at hd
    have hd2:(48:Int)≤s[k].toNat∧(s[k].toNat:Int)≤57:=by simpa using hd
    obtain ⟨hd2,hd3⟩:=hd2
    clear hd
    go_wp2
    go_round
    case rel=>exact ⟨k+1,by omega,by go_num,fun j hj h2=>upto_succ HA.out HD.out j hj h2⟩
    case measure=>simp[intOf];omega
  ·go_wp2
   go_ret
   exact ⟨ret_int (by unfold digitRowT;rw[tw_all isDig s.toList (fun j hj=>by rw[toList_length]at hj;rw[get_toList s j hj];exact HA.out j (by omega) hj),toList_length];omega),rfl⟩
set_option maxHeartbeats 1000000 in
theorem letterRow_any(s:ByteArray)(hs:s.size≤400)(w:World) :
  Calls Tryz.prog 133 #[.string s] w fun e w'=>e=.returned (.int .i64 (letterRowT s.toList))∧w'=w:=by
 go_enter Tryz.func133,Tryz.ntmps133
 go_wp2
 go_loop [3] (fun i=>∃ k:Nat,k≤s.size∧i=.int .i64 k∧∀ j (hj:j<k) (h2:j<s.size),isLet s[j]=true) (fun i=>s.size-(intOf i).toNat)
 case atStart=>exact ⟨0,Nat.zero_le _,rfl,fun j hj=>by omega⟩
 case round =>
  obtain ⟨k,hk,rfl,hall⟩:=hrel
  have HA:Hid (∀ j (hj:j<k) (h2:j<s.size),isLet s[j]=true):=hall
  clear hall
  by_cases hlt:k<s.size
  ·cases hd:isLet s[k]
   ·have HD:Hid (isLet s[k]=false):=hd
    rw[isLet_int]at hd
    have hd2:((s[k].toNat:Int)<97)∨((97:Int)≤s[k].toNat∧(122:Int)<s[k].toNat):=by simp at hd;omega
    clear hd
    have fin:Ending.returned (.int .i64 (k:Int))=.returned (.int .i64 (letterRowT s.toList)):=ret_int (by
     have:=tw_snoc isLet s.toList k (by rw[toList_length];exact hlt) (fun j hj=>by rw[get_toList s j (by omega)];exact HA.out j hj (by omega)) (by rw[get_toList s k hlt];exact HD.out)
     unfold letterRowT;rw[this])
    rcases hd2 with hd2 | ⟨hd2,hd3⟩
    ·go_wp2
     go_ret
     exact ⟨fin,rfl⟩
    ·go_wp2
     go_ret
     exact ⟨fin,rfl⟩
   ·have HD:Hid (isLet s[k]=true):=hd
    rw[isLet_int]at hd
    have hd2:(97:Int)≤s[k].toNat∧(s[k].toNat:Int)≤122:=by simpa using hd
    obtain ⟨hd2,hd3⟩:=hd2
    clear hd
    go_wp2
    go_round
    case rel=>exact ⟨k+1,by omega,by go_num,fun j hj h2=>upto_succ HA.out HD.out j hj h2⟩
    case measure=>simp[intOf];omega
  ·go_wp2
   go_ret
   exact ⟨ret_int (by unfold letterRowT;rw[tw_all isLet s.toList (fun j hj=>by rw[toList_length]at hj;rw[get_toList s j hj];exact HA.out j (by omega) hj),toList_length];omega),rfl⟩
theorem wordGo_drop(t:Txt)(k:Nat)(h:k<tWords.length):wordGo (tWords.drop k) k t=if tWords[k]==t then 3+k else wordGo (tWords.drop (k+1)) (k+1) t:=by
 rw[List.drop_eq_getElem_cons h];rfl
set_option maxHeartbeats 1000000 in
theorem wordKind_any(s:ByteArray)(w:World)(hg:GlobT w) :
  Calls Tryz.prog 134 #[.string s] w fun e w'=>e=.returned (.int .i64 (wordKindT s.toList))∧w'=w:=by
 have HG:Hid (GlobT w):=hg
 clear hg
 go_enter Tryz.func134,Tryz.ntmps134
 go_wp2
 go_loop [3] (fun i=>∃ k:Nat,k≤19∧i=.int .i64 k∧wordKindT s.toList=wordGo (tWords.drop k) k s.toList) (fun i=>19-(intOf i).toNat)
 case atStart=>exact ⟨0,Nat.zero_le _,rfl,rfl⟩
 case round =>
  obtain ⟨k,hk,rfl,hgo⟩:=hrel
  have HGO:Hid (wordKindT s.toList=wordGo (tWords.drop k) k s.toList):=hgo
  clear hgo
  by_cases hlt:k<19
  ·have hc:=HG.out.words k hlt
   have HD:Hid (wordKindT s.toList=if tWords[k]'hlt==s.toList then 3+k else wordGo (tWords.drop (k+1)) (k+1) s.toList):=(by rw[HGO.out,wordGo_drop _ k hlt]:_=_)
   obtain ⟨d,hd⟩:∃ d,d=bsOf (tWords[k]'hlt):=⟨_,rfl⟩
   rw[← hd]at hc
   have HDT:Hid (tWords[k]'hlt=d.toList):=(by rw[hd,bsOf_toList]:tWords[k]'hlt=d.toList)
   clear hd
   cases heq:(d.toList==s.toList)
   ·go_wp2
    go_round
    case rel=>exact ⟨k+1,by omega,by go_num,by rw[HD.out,HDT.out,heq];simp⟩
    case measure=>simp[intOf];omega
   ·go_wp2
    go_ret
    exact ⟨ret_int (by rw[HD.out,HDT.out,heq];simp),rfl⟩
  ·go_wp2
   go_ret
   exact ⟨ret_int (by rw[HGO.out,List.drop_eq_nil_of_le (by show 19≤k;omega)];rfl),rfl⟩
theorem signGo_drop(t:Txt)(i k n:Nat)(h:i<tSign.length):signGo (tSign.drop i) i k n t=if n<(tSign[i]).length∧(tSign[i]).length≤t.length∧(t.take (tSign[i]).length==tSign[i])=true then signGo (tSign.drop (i+1)) (i+1) (22+i) (tSign[i]).length t else signGo (tSign.drop (i+1)) (i+1) k n t:=by
 rw[List.drop_eq_getElem_cons h];rfl
theorem tSign_len:∀ i (h:i<12),(tSign[i]'h).length≤2∧1≤(tSign[i]'h).length:=by decide
set_option maxHeartbeats 1000000 in
theorem firstSign_any(s:ByteArray)(hs:s.size≤400)(w:World)(hg:GlobT w) :
  Calls Tryz.prog 135 #[.string s] w fun e w'=>e=.returned (.tuple #[.int .i64 (firstSignT s.toList).1,.int .i64 (firstSignT s.toList).2])∧Below w.heap.size w w':=by
 have HG:Hid (GlobT w):=hg
 clear hg
 go_enter Tryz.func135,Tryz.ntmps135
 go_wp2
 go_loopw [4,5,6] (fun vk vn vi wr=>∃ i k n:Nat,i≤12∧vi=.int .i64 i∧vk=.int .i64 k∧vn=.int .i64 n∧n≤2∧Below w.heap.size w wr∧firstSignT s.toList=signGo (tSign.drop i) i k n s.toList) (fun _ _ i _=>12-(intOf i).toNat)
 case atStart=>exact ⟨0,0,0,Nat.zero_le _,rfl,rfl,rfl,by omega,Below.refl _ _,rfl⟩
 case round =>
  obtain ⟨i,k,n,hi,rfl,rfl,rfl,hn,hbel,hgo⟩:=hrel
  have HGO:Hid (firstSignT s.toList=signGo (tSign.drop i) i k n s.toList):=hgo
  clear hgo
  by_cases hlt:i<12
  ·have hc:=(HG.out.below hbel).signs i hlt
   have hl:=tSign_len i hlt
   have HD:Hid (firstSignT s.toList=if n<(tSign[i]'hlt).length∧(tSign[i]'hlt).length≤s.toList.length∧(s.toList.take (tSign[i]'hlt).length==tSign[i]'hlt)=true then signGo (tSign.drop (i+1)) (i+1) (22+i) (tSign[i]'hlt).length s.toList else signGo (tSign.drop (i+1)) (i+1) k n s.toList):=(by rw[HGO.out,signGo_drop _ i k n hlt]:_=_)
   obtain ⟨d,hd⟩:∃ d,d=bsOf (tSign[i]'hlt):=⟨_,rfl⟩
   have hdl:(tSign[i]'hlt).length=d.size:=by rw[hd,bsOf_size]
   rw[← hd]at hc
   rw[hdl]at hl
   have HDT:Hid (tSign[i]'hlt=d.toList):=(by rw[hd,bsOf_toList]:tSign[i]'hlt=d.toList)
   have HDL:Hid ((tSign[i]'hlt).length=d.size):=hdl
   obtain ⟨hl1,hl2⟩:=hl
   clear hd hdl
   by_cases h1:n<d.size
   ·by_cases h2:d.size≤s.size
    ·have h1':decide ((n:Int)<(d.size:Int))=true:=by simp;omega
     have h2':decide ((d.size:Int)≤(s.size:Int))=true:=by simp;omega
     have hex:=extract_bsOf s 0 d.size
     have HX:Hid ((s.extract 0 d.size).toList=s.toList.take d.size):=(by rw[hex,bsOf_toList];simp:(s.extract 0 d.size).toList=s.toList.take d.size)
     clear hex
     cases heq:((s.extract 0 d.size).toList==d.toList)
     ·have h_HNO:firstSignT s.toList=signGo (tSign.drop (i+1)) (i+1) k n s.toList:=by rw[HD.out,if_neg];rintro ⟨_,_,h3⟩;rw[HDL.out,HDT.out,← HX.out,heq]at h3;cases h3
      have HNO:Hid (firstSignT s.toList=signGo (tSign.drop (i+1)) (i+1) k n s.toList):=h_HNO
      clear h_HNO
      go_wp2
      go_quiet (fail)
      go_wp2
      go_roundw
      case rel=>exact ⟨i+1,k,n,by omega,by go_num,rfl,rfl,hn,below_drewN hbel _,HNO.out⟩
      case measure=>simp[intOf];omega
     ·have h_HYES:firstSignT s.toList=signGo (tSign.drop (i+1)) (i+1) (22+i) d.size s.toList:=by rw[HD.out,if_pos ⟨by rw[HDL.out];exact h1,by rw[HDL.out,toList_length];exact h2,by rw[HDL.out,HDT.out,← HX.out];exact heq⟩,HDL.out]
      have HYES:Hid (firstSignT s.toList=signGo (tSign.drop (i+1)) (i+1) (22+i) d.size s.toList):=h_HYES
      clear h_HYES
      go_wp2
      go_quiet (fail)
      go_wp2
      go_roundw
      case rel=>exact ⟨i+1,22+i,d.size,by omega,by go_num,by go_num,rfl,by omega,below_drewN hbel _,HYES.out⟩
      case measure=>simp[intOf];omega
    ·have h_HNO:firstSignT s.toList=signGo (tSign.drop (i+1)) (i+1) k n s.toList:=by rw[HD.out,if_neg];rintro ⟨_,h3,_⟩;rw[HDL.out,toList_length]at h3;exact h2 h3
     have HNO:Hid (firstSignT s.toList=signGo (tSign.drop (i+1)) (i+1) k n s.toList):=h_HNO
     clear h_HNO
     have h1':decide ((n:Int)<(d.size:Int))=true:=by simp;omega
     have h2':decide ((d.size:Int)≤(s.size:Int))=false:=by simp;omega
     go_wp2
     go_quiet (fail)
     go_wp2
     go_roundw
     case rel=>exact ⟨i+1,k,n,by omega,by go_num,rfl,rfl,hn,below_drewN hbel _,HNO.out⟩
     case measure=>simp[intOf];omega
   ·have h_HNO:firstSignT s.toList=signGo (tSign.drop (i+1)) (i+1) k n s.toList:=by rw[HD.out,if_neg];rintro ⟨h3,_,_⟩;rw[HDL.out]at h3;exact h1 h3
    have HNO:Hid (firstSignT s.toList=signGo (tSign.drop (i+1)) (i+1) k n s.toList):=h_HNO
    clear h_HNO
    have h1':decide ((n:Int)<(d.size:Int))=false:=by simp;omega
    go_wp2
    go_quiet (fail)
    go_wp2
    go_roundw
    case rel=>exact ⟨i+1,k,n,by omega,by go_num,rfl,rfl,hn,below_drewN hbel _,HNO.out⟩
    case measure=>simp[intOf];omega
  ·have HE:Hid (firstSignT s.toList=(k,n)):=(by rw[HGO.out,List.drop_eq_nil_of_le (by show 12≤i;omega)];rfl:_=_)
   go_wp2
   go_ret2
   exact ⟨by rw[HE.out];rfl,hbel⟩
end Go.Proofs.YtgfnkeiigjholaaGreatDoor
