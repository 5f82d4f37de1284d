/-
  The program's plain form of a node: withoutNoughts, singleText, Binding.
-/
import Derived.Test.YtgfnkeiigjholaaGreatDoorQ35
import Derived.Test.YtgfnkeiigjholaaGreatDoorQ18
set_option linter.unusedVariables false
set_option linter.unusedSimpArgs false
namespace Go.Proofs.YtgfnkeiigjholaaGreatDoor
open Go.RowKit Go.Deep
theorem strip0_at:∀ (t:Txt) (i:Nat),i<t.length→(∀ j,j<i→t[j]?=some 48)→(i+1=t.length∨t[i]?≠some 48)→strip0 t=t.drop i
 | [],i,h,_,_=>by simp at h
 | [a],0,_,_,_=>rfl
 | [a],i+1,h,_,_=>by simp at h
 | a :: b :: r,0,_,_,h2=>by
  rw[strip0,if_neg]
  ·rfl
  ·rcases h2 with h2 | h2
   ·simp at h2
   ·simpa using h2
 | a :: b :: r,i+1,h,h1,h2=>by
  have h0:=h1 0 (by omega)
  have ha:a=48:=by simpa using h0
  subst ha
  rw[strip0,if_pos (by decide)]
  have:=strip0_at (b :: r) i (by simpa using h) (fun j hj=>by have:=h1 (j+1) (by omega);simpa using this) (by
   rcases h2 with h2 | h2
   ·left;simp at h2 ⊢;omega
   ·right;simpa using h2)
  rw[this]
  rfl
set_option maxHeartbeats 2000000 in
set_option maxRecDepth 100000 in
theorem noughts_any(s:ByteArray)(hz:s.size≤1000)(h1:1≤s.size)(w:World) :
  Calls Tryz.prog 200 #[.string s] w fun e w'=>e=.returned (.string (bsOf (strip0 s.toList)))∧Below w.heap.size w w':=by
 go_enter Tryz.func200,Tryz.ntmps200
 go_wp2
 go_loopw [3] (fun vi wr=>∃ i:Nat,i<s.size∧vi=.int .i64 i∧Below w.heap.size w wr∧∀ j,j<i→s.toList[j]?=some 48) (fun i _=>s.size-(intOf i).toNat)
 case atStart=>exact ⟨0,by omega,rfl,Below.refl _ _,fun j hj=>by omega⟩
 case round =>
  obtain ⟨i,hi,rfl,hbel,hno⟩:=hrel
  have HNO:=mH hno
  have HBL:=mH hbel
  clear hno hbel
  have HEND:Hid ((i+1=s.toList.length∨s.toList[i]?≠some 48)→bsOf (strip0 s.toList)=s.extract i s.size):=fun h=>by
   rw[strip0_at s.toList i (by rw[toList_length];exact hi) HNO.out h,extract_bsOf,List.take_of_length_le (by rw[List.length_drop,toList_length];omega)]
  by_cases hlt:i+1<s.size
  ·have e1:decide ((i:Int)<(s.size:Int)-1)=true:=decide_eq_true (by omega)
   have hix:=fun wx=>run_index_nat (P:=Tryz.prog) wx 9 s .i64 (i:Int) i Tryz.underlying9 rfl hi
   have hget:=getElem_toList s i hi
   by_cases hc:s[i]=48
   ·have hcn:s[i].toNat=48:=by rw[hc];rfl
    rw[hcn]at hix
    have HG:Hid (s.toList[i]?=some 48):=by rw[Hid,hget,hc]
    clear hget hc hcn
    go_wp2
    go_roundw
    case rel =>
     refine ⟨i+1,by omega,by go_num,HBL.out,fun j hj=>?_⟩
     by_cases hji:j=i
     ·subst hji;exact HG.out
     ·exact HNO.out j (by omega)
    case measure=>simp[intOf];omega
   ·have hcn:((s[i].toNat:Int)==48)=false:=by
     have:s[i].toNat≠48:=fun h=>hc (UInt8.toNat_inj.1 (by rw[h];rfl))
     simp;omega
    have HG:Hid (s.toList[i]?≠some 48):=by
     rw[hget]
     intro h
     exact hc (Option.some.inj h)
    obtain ⟨c,hc2⟩:∃ c,s[i].toNat=c:=⟨_,rfl⟩
    rw[hc2]at hix hcn
    clear hget hc hc2
    go_wp2
    go_ret
    exact ⟨by rw[HEND.out (.inr HG.out)];rfl,HBL.out⟩
  ·have e1:decide ((i:Int)<(s.size:Int)-1)=false:=decide_eq_false (by omega)
   go_wp2
   go_ret
   exact ⟨by rw[HEND.out (.inl (by rw[toList_length];omega))];rfl,HBL.out⟩
set_option maxHeartbeats 1000000 in
theorem single_any(t:RTok)(hm:mayT t.text=true)(h1:1≤t.text.length)(w:World) :
  Calls Tryz.prog 183 #[tokA t] w fun e w'=>e=.returned (.string (bsOf (shortN t.text)))∧Below w.heap.size w w':=by
 have hk:=kindOf t.text hm
 have h18:=may_18 hm
 have HB:=mH (Blk.new w #[.int .i64 (kindP t.text),.int .i64 t.at',.string (bsOf t.text)] 107)
 have HBL:=mH (box3 w (.cells #[.int .i64 (kindP t.text),.int .i64 t.at',.string (bsOf t.text)] 107))
 have hsz:(bsOf t.text).size≤1000:=by rw[bsOf_size];omega
 have hs1:1≤(bsOf t.text).size:=by rw[bsOf_size];omega
 unfold tokA
 by_cases hd:isDig (headC t.text)=true
 ·have hk1:kindP t.text=1:=by unfold kindP;rw[if_pos hd]
  have HS:Hid (bsOf (shortN t.text)=bsOf (strip0 (bsOf t.text).toList)):=by rw[Hid,shortN,if_pos hd,bsOf_toList]
  rw[hk1]at HB HBL ⊢
  clear hk hd hk1
  go_enter Tryz.func183,Tryz.ntmps183
  go_upto_region 1 with fail
  generalize w.alloc (.cells #[.int .i64 (1:Nat),.int .i64 t.at',.string (bsOf t.text)] 107)=W at HB HBL ⊢
  have c:=HB.out.cell
  go_wp2_with (go_at_call 200;refine (noughts_any _ hsz hs1 _).mono ?_;rintro e w2 ⟨rfl,hb2⟩;replace HBL:=mH (HBL.out.trans (hb2.mono HBL.out.size));clear hb2)
  go_ret
  exact ⟨by rw[HS.out];rfl,HBL.out⟩
 ·have hk1:kindP t.text≠1:=by
   intro h
   unfold kindP at h
   rw[if_neg hd]at h
   split at h
   ·rename_i hl
    have:=hk.single
    rcases kind_cases t.text hm with ⟨h2,_⟩ | ⟨_,_,h3⟩ | ⟨k,hkk,_,h3⟩ | ⟨k,hkk,_,h3⟩
    ·exact hd h2
    ·unfold kindP at h3;rw[if_neg hd,if_pos hl]at h3;omega
    ·unfold kindP at h3;rw[if_neg hd,if_pos hl]at h3;omega
    ·unfold kindP at h3;rw[if_neg hd,if_pos hl]at h3;omega
   ·rename_i hl
    rcases kind_cases t.text hm with ⟨h2,_⟩ | ⟨_,_,h3⟩ | ⟨k,hkk,_,h3⟩ | ⟨k,hkk,_,h3⟩
    ·exact hd h2
    ·unfold kindP at h3;rw[if_neg hd,if_neg hl]at h3;omega
    ·unfold kindP at h3;rw[if_neg hd,if_neg hl]at h3;omega
    ·unfold kindP at h3;rw[if_neg hd,if_neg hl]at h3;omega
  have HS:Hid (bsOf (shortN t.text)=bsOf t.text):=by rw[Hid,shortN,if_neg hd]
  have q1:((kindP t.text:Int)==1)=false:=by simp;omega
  obtain ⟨kk,hkk⟩:∃ kk,kindP t.text=kk:=⟨_,rfl⟩
  rw[hkk]at HB HBL q1 ⊢
  clear hk hd hk1 hkk
  go_enter Tryz.func183,Tryz.ntmps183
  go_upto_region 1 with fail
  generalize w.alloc (.cells #[.int .i64 kk,.int .i64 t.at',.string (bsOf t.text)] 107)=W at HB HBL ⊢
  have c:=HB.out.cell
  go_wp2
  go_ret
  exact ⟨by rw[HS.out];rfl,HBL.out⟩
def bindN(n:PNode):Nat:=if n.ops=2 then bindsT n.tok.text else 6
set_option maxHeartbeats 1000000 in
theorem Binding_any(n:PNode)(hm:mayT n.tok.text=true)(h2:n.ops≤2)(w:World) :
  Calls Tryz.prog 162 #[nodA n] w fun e w'=>e=.returned (.int .i64 (bindN n))∧Below w.heap.size w w':=by
 have hk:=kindOf n.tok.text hm
 have HBL:=mH (box3 w (.cells #[.int .i64 (kindP n.tok.text),.int .i64 n.tok.at',.string (bsOf n.tok.text),.int .i64 n.ops,.int .i64 n.left,.int .i64 n.right] 175))
 have HB:=mH (Blk.new w #[.int .i64 (kindP n.tok.text),.int .i64 n.tok.at',.string (bsOf n.tok.text),.int .i64 n.ops,.int .i64 n.left,.int .i64 n.right] 175)
 unfold nodA
 obtain ⟨bn,hbn⟩:∃ bn,bindN n=bn:=⟨_,rfl⟩
 rw[hbn]
 have HBN:=mH hbn
 have HKB:=mH hk.binds
 clear hbn hk
 obtain ⟨kk,hkk⟩:∃ kk,kindP n.tok.text=kk:=⟨_,rfl⟩
 rw[hkk]at HB HBL HKB ⊢
 clear hkk
 by_cases ho:n.ops=2
 ·have HE:Hid (bn=bindK kk):=by rw[Hid,← HBN.out,bindN,if_pos ho,HKB.out]
  rw[ho]at HB HBL ⊢
  clear HBN HKB ho
  go_enter Tryz.func162,Tryz.ntmps162
  go_upto_region 1 with fail
  generalize w.alloc (.cells #[.int .i64 kk,.int .i64 n.tok.at',.string (bsOf n.tok.text),.int .i64 (2:Nat),.int .i64 n.left,.int .i64 n.right] 175)=W at HB HBL ⊢
  have c:=HB.out.cell
  go_wp2_with (go_at_call 184;refine (binding_any _ _).mono ?_;rintro e w2 ⟨rfl,rfl⟩)
  go_ret
  exact ⟨by rw[HE.out];rfl,HBL.out⟩
 ·have HE:Hid (bn=6):=by rw[Hid,← HBN.out,bindN,if_neg ho]
  have q1:((n.ops:Int)==2)=false:=by simp;omega
  obtain ⟨oo,hoo⟩:∃ oo,n.ops=oo:=⟨_,rfl⟩
  rw[hoo]at HB HBL q1 ⊢
  clear HBN HKB ho hoo
  go_enter Tryz.func162,Tryz.ntmps162
  go_upto_region 1 with fail
  generalize w.alloc (.cells #[.int .i64 kk,.int .i64 n.tok.at',.string (bsOf n.tok.text),.int .i64 oo,.int .i64 n.left,.int .i64 n.right] 175)=W at HB HBL ⊢
  have c:=HB.out.cell
  go_wp2
  go_ret
  exact ⟨by rw[HE.out];rfl,HBL.out⟩
end Go.Proofs.YtgfnkeiigjholaaGreatDoor
