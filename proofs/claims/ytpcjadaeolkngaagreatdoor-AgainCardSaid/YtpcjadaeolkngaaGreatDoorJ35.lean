/-
  The program's plain form of a node: withoutNoughts, singleText, Binding.
-/
import Derived.Test.YtpcjadaeolkngaaGreatDoorJ33
import Derived.Test.YtpcjadaeolkngaaGreatDoorJ08
import Derived.Deep.RegionHeld3
set_option linter.unusedVariables false
set_option linter.unusedSimpArgs false
namespace Go.Proofs.YtpcjadaeolkngaaGreatDoor
open Go.RowKit Go.Deep
theorem strip0_at:∀ (t:Txt) (i:Nat),i<t.length→(∀ j,j<i→t[j]?=some 48)→(i+1=t.length∨t[i]?≠some 48)→strip0 t=t.drop i
 | [],i,h,_,_=>by simp at h
 | [a],0,_,_,_=>rfl
 | [a],i+1,h,_,_=>by simp at h
 | a :: b :: r,0,_,_,h2=>by
  rw[strip0,if_neg]
  ·rfl
  ·rcases h2 with h2 | h2
   ·simp at h2
   ·simpa using h2
 | a :: b :: r,i+1,h,h1,h2=>by
  have h0:=h1 0 (by omega)
  have ha:a=48:=by simpa using h0
  subst ha
  rw[strip0,if_pos (by decide)]
  have:=strip0_at (b :: r) i (by simpa using h) (fun j hj=>by have:=h1 (j+1) (by omega);simpa using this) (by
   rcases h2 with h2 | h2
   ·left;simp at h2 ⊢;omega
   ·right;simpa using h2)
  rw[this]
  rfl
set_option maxHeartbeats 2000000 in
set_option maxRecDepth 100000 in
theorem noughts_any(s:ByteArray)(hz:s.size≤1000)(h1:1≤s.size)(w:World) :
  Calls Tryz.prog 155 #[.string s] w fun e w'=>e=.returned (.string (bsOf (strip0 s.toList)))∧Below w.heap.size w w':=by
 go_enter Tryz.func155,Tryz.ntmps155
 go_wp2
 go_loopw [3] (fun vi wr=>∃ i:Nat,i<s.size∧vi=.int .i64 i∧Below w.heap.size w wr∧∀ j,j<i→s.toList[j]?=some 48) (fun i _=>s.size-(intOf i).toNat)
 case atStart=>exact ⟨0,by omega,rfl,Below.refl _ _,fun j hj=>by omega⟩
 case round =>
  obtain ⟨i,hi,rfl,hbel,hno⟩:=hrel
  have HNO:=mH hno
  have HBL:=mH hbel
  clear hno hbel
  have HEND:Hid ((i+1=s.toList.length∨s.toList[i]?≠some 48)→bsOf (strip0 s.toList)=s.extract i s.size):=fun h=>by
   rw[strip0_at s.toList i (by rw[toList_length];exact hi) HNO.out h,extract_bsOf,List.take_of_length_le (by rw[List.length_drop,toList_length];omega)]
  by_cases hlt:i+1<s.size
  ·have e1:decide ((i:Int)<(s.size:Int)-1)=true:=decide_eq_true (by omega)
   have hix:=fun wx=>run_index_nat (P:=Tryz.prog) wx 9 s .i64 (i:Int) i Tryz.underlying9 rfl hi
   have hget:=getElem_toList s i hi
   by_cases hc:s[i]=48
   ·have hcn:s[i].toNat=48:=by rw[hc];rfl
    rw[hcn]at hix
    have HG:Hid (s.toList[i]?=some 48):=by rw[Hid,hget,hc]
    clear hget hc hcn
    go_wp2
    go_roundw
    case rel =>
     refine ⟨i+1,by omega,by go_num,HBL.out,fun j hj=>?_⟩
     by_cases hji:j=i
     ·subst hji;exact HG.out
     ·exact HNO.out j (by omega)
    case measure=>simp[intOf];omega
   ·have hcn:((s[i].toNat:Int)==48)=false:=by
     have:s[i].toNat≠48:=fun h=>hc (UInt8.toNat_inj.1 (by rw[h];rfl))
     simp;omega
    have HG:Hid (s.toList[i]?≠some 48):=by
     rw[hget]
     intro h
     exact hc (Option.some.inj h)
    obtain ⟨c,hc2⟩:∃ c,s[i].toNat=c:=⟨_,rfl⟩
    rw[hc2]at hix hcn
    clear hget hc hc2
    go_wp2
    go_ret
    exact ⟨by rw[HEND.out (.inr HG.out)];rfl,HBL.out⟩
  ·have e1:decide ((i:Int)<(s.size:Int)-1)=false:=decide_eq_false (by omega)
   go_wp2
   go_ret
   exact ⟨by rw[HEND.out (.inl (by rw[toList_length];omega))];rfl,HBL.out⟩
set_option maxHeartbeats 1000000 in
theorem single_any(t:RTok)(hm:mayT t.text=true)(h1:1≤t.text.length)(w:World) :
  Calls Tryz.prog 143 #[tokA t] w fun e w'=>e=.returned (.string (bsOf (shortN t.text)))∧Below w.heap.size w w':=by
 have hk:=kindOf t.text hm
 have h18:=may_18 hm
 have HB:=mH (Blk.new w #[.int .i64 (kindP t.text),.int .i64 t.at',.string (bsOf t.text)] 101)
 have HBL:=mH (box3 w (.cells #[.int .i64 (kindP t.text),.int .i64 t.at',.string (bsOf t.text)] 101))
 have hsz:(bsOf t.text).size≤1000:=by rw[bsOf_size];omega
 have hs1:1≤(bsOf t.text).size:=by rw[bsOf_size];omega
 unfold tokA
 by_cases hd:isDig (headC t.text)=true
 ·have hk1:kindP t.text=1:=by unfold kindP;rw[if_pos hd]
  have HS:Hid (bsOf (shortN t.text)=bsOf (strip0 (bsOf t.text).toList)):=by rw[Hid,shortN,if_pos hd,bsOf_toList]
  rw[hk1]at HB HBL ⊢
  clear hk hd hk1
  go_enter Tryz.func143,Tryz.ntmps143
  go_upto_region 1 with fail
  generalize w.alloc (.cells #[.int .i64 (1:Nat),.int .i64 t.at',.string (bsOf t.text)] 101)=W at HB HBL ⊢
  have c:=HB.out.cell
  go_wp2_with (go_at_call 155;refine (noughts_any _ hsz hs1 _).mono ?_;rintro e w2 ⟨rfl,hb2⟩;replace HBL:=mH (HBL.out.trans (hb2.mono HBL.out.size));clear hb2)
  go_ret
  exact ⟨by rw[HS.out];rfl,HBL.out⟩
 ·have hk1:kindP t.text≠1:=by
   intro h
   unfold kindP at h
   rw[if_neg hd]at h
   split at h
   ·rename_i hl
    have:=hk.single
    rcases kind_cases t.text hm with ⟨h2,_⟩ | ⟨_,_,h3⟩ | ⟨k,hkk,_,h3⟩ | ⟨k,hkk,_,h3⟩
    ·exact hd h2
    ·unfold kindP at h3;rw[if_neg hd,if_pos hl]at h3;omega
    ·unfold kindP at h3;rw[if_neg hd,if_pos hl]at h3;omega
    ·unfold kindP at h3;rw[if_neg hd,if_pos hl]at h3;omega
   ·rename_i hl
    rcases kind_cases t.text hm with ⟨h2,_⟩ | ⟨_,_,h3⟩ | ⟨k,hkk,_,h3⟩ | ⟨k,hkk,_,h3⟩
    ·exact hd h2
    ·unfold kindP at h3;rw[if_neg hd,if_neg hl]at h3;omega
    ·unfold kindP at h3;rw[if_neg hd,if_neg hl]at h3;omega
    ·unfold kindP at h3;rw[if_neg hd,if_neg hl]at h3;omega
  have HS:Hid (bsOf (shortN t.text)=bsOf t.text):=by rw[Hid,shortN,if_neg hd]
  have q1:((kindP t.text:Int)==1)=false:=by simp;omega
  obtain ⟨kk,hkk⟩:∃ kk,kindP t.text=kk:=⟨_,rfl⟩
  rw[hkk]at HB HBL q1 ⊢
  clear hk hd hk1 hkk
  go_enter Tryz.func143,Tryz.ntmps143
  go_upto_region 1 with fail
  generalize w.alloc (.cells #[.int .i64 kk,.int .i64 t.at',.string (bsOf t.text)] 101)=W at HB HBL ⊢
  have c:=HB.out.cell
  go_wp2
  go_ret
  exact ⟨by rw[HS.out];rfl,HBL.out⟩
def bindN(n:PNode):Nat:=if n.ops=2 then bindsT n.tok.text else 6
set_option maxHeartbeats 1000000 in
theorem Binding_any(n:PNode)(hm:mayT n.tok.text=true)(h2:n.ops≤2)(w:World) :
  Calls Tryz.prog 124 #[nodA n] w fun e w'=>e=.returned (.int .i64 (bindN n))∧Below w.heap.size w w':=by
 have hk:=kindOf n.tok.text hm
 have HBL:=mH (box3 w (.cells #[.int .i64 (kindP n.tok.text),.int .i64 n.tok.at',.string (bsOf n.tok.text),.int .i64 n.ops,.int .i64 n.left,.int .i64 n.right] 154))
 have HB:=mH (Blk.new w #[.int .i64 (kindP n.tok.text),.int .i64 n.tok.at',.string (bsOf n.tok.text),.int .i64 n.ops,.int .i64 n.left,.int .i64 n.right] 154)
 unfold nodA
 obtain ⟨bn,hbn⟩:∃ bn,bindN n=bn:=⟨_,rfl⟩
 rw[hbn]
 have HBN:=mH hbn
 have HKB:=mH hk.binds
 clear hbn hk
 obtain ⟨kk,hkk⟩:∃ kk,kindP n.tok.text=kk:=⟨_,rfl⟩
 rw[hkk]at HB HBL HKB ⊢
 clear hkk
 by_cases ho:n.ops=2
 ·have HE:Hid (bn=bindK kk):=by rw[Hid,← HBN.out,bindN,if_pos ho,HKB.out]
  rw[ho]at HB HBL ⊢
  clear HBN HKB ho
  go_enter Tryz.func124,Tryz.ntmps124
  go_upto_region 1 with fail
  generalize w.alloc (.cells #[.int .i64 kk,.int .i64 n.tok.at',.string (bsOf n.tok.text),.int .i64 (2:Nat),.int .i64 n.left,.int .i64 n.right] 154)=W at HB HBL ⊢
  have c:=HB.out.cell
  go_wp2_with (go_at_call 144;refine (binding_any _ _).mono ?_;rintro e w2 ⟨rfl,rfl⟩)
  go_ret
  exact ⟨by rw[HE.out];rfl,HBL.out⟩
 ·have HE:Hid (bn=6):=by rw[Hid,← HBN.out,bindN,if_neg ho]
  have q1:((n.ops:Int)==2)=false:=by simp;omega
  obtain ⟨oo,hoo⟩:∃ oo,n.ops=oo:=⟨_,rfl⟩
  rw[hoo]at HB HBL q1 ⊢
  clear HBN HKB ho hoo
  go_enter Tryz.func124,Tryz.ntmps124
  go_upto_region 1 with fail
  generalize w.alloc (.cells #[.int .i64 kk,.int .i64 n.tok.at',.string (bsOf n.tok.text),.int .i64 oo,.int .i64 n.left,.int .i64 n.right] 154)=W at HB HBL ⊢
  have c:=HB.out.cell
  go_wp2
  go_ret
  exact ⟨by rw[HE.out];rfl,HBL.out⟩
theorem ag_step{w wx w':World}(h:Below w.heap.size w wx)(hb:Below wx.heap.size wx w'):Below w.heap.size w w':=h.trans (hb.mono h.size)
theorem ag_dr{w wx:World}(h:Below w.heap.size w wx):Below w.heap.size w wx.drew:=below_drewN h 1
theorem bsOf_app(a b:Txt):bsOf (a++b)=bsOf a++bsOf b:=by
 apply ByteArray.ext
 simp[bsOf,ByteArray.data_append]
structure NdsAt(w:World)(g o cap:Nat)(N:List PNode):Prop where
 rd:Reads w (.slice (some ⟨g,o,none⟩) N.length cap) N.length (cellsN N)
theorem NdsAt.below{w w':World}{g o cap:Nat}{N:List PNode}(h:NdsAt w g o cap N)(hb:Below w.heap.size w w'):NdsAt w' g o cap N:=⟨h.rd.below hb⟩
theorem NdsAt.at{w:World}{g o cap:Nat}{N:List PNode}(h:NdsAt w g o cap N){j:Nat}{n:PNode}(hj:N[j]?=some n):j<N.length∧g<w.heap.size∧N.length≤cap∧w.cell? ⟨g,o+j*6,none⟩=some (.int .i64 (kindP n.tok.text))∧w.cell? ⟨g,o+j*6+1,none⟩=some (.int .i64 n.tok.at')∧w.cell? ⟨g,o+j*6+2,none⟩=some (.string (bsOf n.tok.text))∧w.cell? ⟨g,o+j*6+3,none⟩=some (.int .i64 n.ops)∧w.cell? ⟨g,o+j*6+4,none⟩=some (.int .i64 n.left)∧w.cell? ⟨g,o+j*6+5,none⟩=some (.int .i64 n.right):=by
 obtain ⟨hlt,rfl⟩:=List.getElem?_eq_some_iff.1 hj
 obtain ⟨g',o',cap',hcut,hcap,hg,hcl⟩:=h.rd.pos (by omega)
 cases hcut
 have fc:=fun i (hi:i<6) u (hu:(cellN N[j])[i]?=some u)=>hcl (j*6+i) u ((flat_get cellN 6 (fun _=>rfl) N j hlt i hi).trans hu)
 refine ⟨hlt,hg,hcap,fc 0 (by omega) _ rfl, ?_, ?_, ?_, ?_, ?_⟩
 ·rw[Nat.add_assoc];exact fc 1 (by omega) _ rfl
 ·rw[Nat.add_assoc];exact fc 2 (by omega) _ rfl
 ·rw[Nat.add_assoc];exact fc 3 (by omega) _ rfl
 ·rw[Nat.add_assoc];exact fc 4 (by omega) _ rfl
 ·rw[Nat.add_assoc];exact fc 5 (by omega) _ rfl
def NodeIs(g o cap m:Nat)(N:List PNode)(r lv:Nat)(X:Txt):Prop:=∀ w,NdsAt w g o cap N→Calls Tryz.prog 104 #[.slice (some ⟨g,o,none⟩) m cap,.int .i64 r,.int .i64 lv] w fun e w'=>e=.returned (.string (bsOf X))∧Below w.heap.size w w'
def BareIs(g o cap m:Nat)(N:List PNode)(n:PNode)(X:Txt):Prop:=∀ w,NdsAt w g o cap N→Calls Tryz.prog 123 #[.slice (some ⟨g,o,none⟩) m cap,nodA n] w fun e w'=>e=.returned (.string (bsOf X))∧Below w.heap.size w w'
set_option maxHeartbeats 1000000 in
theorem bare_leaf(g o cap m:Nat)(N:List PNode)(n:PNode)(hm:mayT n.tok.text=true)(h1:1≤n.tok.text.length)(h0:n.ops=0):BareIs g o cap m N n (shortN n.tok.text):=by
 intro w h
 have HN:=mH (h.below (box3 w (.cells #[.int .i64 (kindP n.tok.text),.int .i64 n.tok.at',.string (bsOf n.tok.text),.int .i64 n.ops,.int .i64 n.left,.int .i64 n.right] 154)))
 have HB:=mH (Blk.new w #[.int .i64 (kindP n.tok.text),.int .i64 n.tok.at',.string (bsOf n.tok.text),.int .i64 n.ops,.int .i64 n.left,.int .i64 n.right] 154)
 have HBL:=mH (box3 w (.cells #[.int .i64 (kindP n.tok.text),.int .i64 n.tok.at',.string (bsOf n.tok.text),.int .i64 n.ops,.int .i64 n.left,.int .i64 n.right] 154))
 clear h
 unfold nodA
 rw[h0]at HN HB HBL ⊢
 have HT:Hid (∀ wx,Calls Tryz.prog 143 #[.agg #[.int .i64 (kindP n.tok.text),.int .i64 n.tok.at',.string (bsOf n.tok.text)]] wx fun e w'=>e=.returned (.string (bsOf (shortN n.tok.text)))∧Below wx.heap.size wx w'):=mH (fun wx=>single_any n.tok hm h1 wx)
 clear h0 hm h1
 generalize kindP n.tok.text=kk at *
 generalize bsOf n.tok.text=tx at *
 generalize bsOf (shortN n.tok.text)=sx at *
 go_enter Tryz.func123,Tryz.ntmps123
 go_upto_region 1 with fail
 generalize w.alloc (.cells #[.int .i64 kk,.int .i64 n.tok.at',.string tx,.int .i64 (0:Nat),.int .i64 n.left,.int .i64 n.right] 154)=W at HN HB HBL ⊢
 have c:=HB.out.cell
 go_wp2_with (go_at_call 143;refine (HT.out _).mono ?_;rintro e w2 ⟨rfl,hb2⟩;replace HBL:=mH (HBL.out.trans (hb2.mono HBL.out.size));clear hb2)
 go_ret
 exact ⟨rfl,HBL.out⟩
set_option maxHeartbeats 2000000 in
theorem bare_un(g o cap m:Nat)(N:List PNode)(n:PNode)(E:Txt)(hm:mayT n.tok.text=true)(h0:n.ops=1)(hE:E.length≤20000)(ih:NodeIs g o cap m N n.left 6 E):BareIs g o cap m N n ((if n.tok.text==cMinus then cMinus else n.tok.text++[32])++E):=by
 intro w h
 have HN:=mH (h.below (box3 w (.cells #[.int .i64 (kindP n.tok.text),.int .i64 n.tok.at',.string (bsOf n.tok.text),.int .i64 n.ops,.int .i64 n.left,.int .i64 n.right] 154)))
 have HB:=mH (Blk.new w #[.int .i64 (kindP n.tok.text),.int .i64 n.tok.at',.string (bsOf n.tok.text),.int .i64 n.ops,.int .i64 n.left,.int .i64 n.right] 154)
 have HBL:=mH (box3 w (.cells #[.int .i64 (kindP n.tok.text),.int .i64 n.tok.at',.string (bsOf n.tok.text),.int .i64 n.ops,.int .i64 n.left,.int .i64 n.right] 154))
 clear h
 unfold nodA
 rw[h0]at HN HB HBL ⊢
 have hk:=(kindOf n.tok.text hm).kminus
 have h18:=may_18 hm
 have HIH:Hid (∀ wx,NdsAt wx g o cap N→Calls Tryz.prog 104 #[.slice (some ⟨g,o,none⟩) m cap,.int .i64 n.left,.int .i64 6] wx fun e w'=>e=.returned (.string (bsOf E))∧Below wx.heap.size wx w'):=ih
 have he1:(bsOf E).size≤20000:=by rw[bsOf_size];exact hE
 have he2:(bsOf n.tok.text).size≤18:=by rw[bsOf_size];exact h18
 clear h0 ih h18 hE
 by_cases hmi:n.tok.text=cMinus
 ·have HX:Hid (bsOf ((if n.tok.text==cMinus then cMinus else n.tok.text++[32])++E)=⟨#[45]⟩++bsOf E):=by rw[Hid,if_pos (by simpa using hmi),bsOf_app];rfl
  rw[hk.2 hmi]at HN HB HBL ⊢
  generalize bsOf ((if n.tok.text==cMinus then cMinus else n.tok.text++[32])++E)=XX at *
  clear hk hmi
  generalize bsOf n.tok.text=tx at *
  generalize bsOf E=ex at *
  have z1:(9223372036854775807<(⟨#[45]⟩:ByteArray).size+ex.size)=False:=by
   have:(⟨#[45]⟩:ByteArray).size=1:=rfl
   simp;omega
  have z2:(9223372036854775807<1+ex.size)=False:=by simp;omega
  go_enter Tryz.func123,Tryz.ntmps123
  go_upto_region 1 with fail
  generalize w.alloc (.cells #[.int .i64 (28:Nat),.int .i64 n.tok.at',.string tx,.int .i64 (1:Nat),.int .i64 n.left,.int .i64 n.right] 154)=W at HN HB HBL ⊢
  have c:=HB.out.cell
  go_wp2_with (go_at_call 104;refine (HIH.out _ HN.out).mono ?_;rintro e w2 ⟨rfl,hb⟩;replace HN:=mH (HN.out.below hb);replace HB:=mH (HB.out.below hb HB.out.lt);replace HBL:=mH (HBL.out.trans (hb.mono HBL.out.size));clear hb c;have c:=HB.out.cell)
  go_ret
  exact ⟨by rw[HX.out];rfl,HBL.out⟩
 ·have HX:Hid (bsOf ((if n.tok.text==cMinus then cMinus else n.tok.text++[32])++E)=bsOf n.tok.text++⟨#[32]⟩++bsOf E):=by rw[Hid,if_neg (by simpa using hmi),bsOf_app,bsOf_app];rfl
  have hk28:kindP n.tok.text≠28:=fun h=>hmi (hk.1 h)
  have q1:((kindP n.tok.text:Int)==28)=false:=by simp;omega
  generalize bsOf ((if n.tok.text==cMinus then cMinus else n.tok.text++[32])++E)=XX at *
  clear hk hmi hk28
  generalize kindP n.tok.text=kk at *
  generalize bsOf n.tok.text=tx at *
  generalize bsOf E=ex at *
  have z0:(⟨#[32]⟩:ByteArray).size=1:=rfl
  have z1:(9223372036854775807<tx.size+1)=False:=by simp;omega
  have z2:(9223372036854775807<tx.size+1+ex.size)=False:=by simp;omega
  go_enter Tryz.func123,Tryz.ntmps123
  go_upto_region 1 with fail
  generalize w.alloc (.cells #[.int .i64 kk,.int .i64 n.tok.at',.string tx,.int .i64 (1:Nat),.int .i64 n.left,.int .i64 n.right] 154)=W at HN HB HBL ⊢
  have c:=HB.out.cell
  go_wp2_with (go_at_call 104;refine (HIH.out _ HN.out).mono ?_;rintro e w2 ⟨rfl,hb⟩;replace HN:=mH (HN.out.below hb);replace HB:=mH (HB.out.below hb HB.out.lt);replace HBL:=mH (HBL.out.trans (hb.mono HBL.out.size));clear hb c;have c:=HB.out.cell)
  go_ret
  exact ⟨by rw[HX.out];rfl,HBL.out⟩
set_option maxHeartbeats 2000000 in
theorem bare_bin(g o cap m:Nat)(N:List PNode)(n:PNode)(bn:Nat)(E F:Txt)(hm:mayT n.tok.text=true)(h0:n.ops=2)(hb:bindsT n.tok.text=bn)(hE:E.length≤20000)(hF:F.length≤20000)(ih:NodeIs g o cap m N n.left bn E)(ih2:NodeIs g o cap m N n.right (bn+1) F):BareIs g o cap m N n (E++32 :: (n.tok.text++32 :: F)):=by
 intro w h
 have HN:=mH (h.below (box3 w (.cells #[.int .i64 (kindP n.tok.text),.int .i64 n.tok.at',.string (bsOf n.tok.text),.int .i64 n.ops,.int .i64 n.left,.int .i64 n.right] 154)))
 have HB:=mH (Blk.new w #[.int .i64 (kindP n.tok.text),.int .i64 n.tok.at',.string (bsOf n.tok.text),.int .i64 n.ops,.int .i64 n.left,.int .i64 n.right] 154)
 have HBL:=mH (box3 w (.cells #[.int .i64 (kindP n.tok.text),.int .i64 n.tok.at',.string (bsOf n.tok.text),.int .i64 n.ops,.int .i64 n.left,.int .i64 n.right] 154))
 clear h
 unfold nodA
 have hbn:bindN n=bn:=by unfold bindN;rw[if_pos h0,hb]
 have HBI:Hid (∀ wx,Calls Tryz.prog 124 #[.agg #[.int .i64 (kindP n.tok.text),.int .i64 n.tok.at',.string (bsOf n.tok.text),.int .i64 n.ops,.int .i64 n.left,.int .i64 n.right]] wx fun e w'=>e=.returned (.int .i64 bn)∧Below wx.heap.size wx w'):=mH (fun wx=>by rw[← hbn];exact Binding_any n hm (by omega) wx)
 have h18:=may_18 hm
 have hb5:bn≤5:=by rw[← hb];exact bindsT_le _
 rw[h0]at HN HB HBL HBI ⊢
 have HI1:Hid (∀ wx,NdsAt wx g o cap N→Calls Tryz.prog 104 #[.slice (some ⟨g,o,none⟩) m cap,.int .i64 n.left,.int .i64 bn] wx fun e w'=>e=.returned (.string (bsOf E))∧Below wx.heap.size wx w'):=ih
 have HI2:Hid (∀ wx,NdsAt wx g o cap N→Calls Tryz.prog 104 #[.slice (some ⟨g,o,none⟩) m cap,.int .i64 n.right,.int .i64 ((bn:Int)+1)] wx fun e w'=>e=.returned (.string (bsOf F))∧Below wx.heap.size wx w'):=ih2
 have he1:(bsOf E).size≤20000:=by rw[bsOf_size];exact hE
 have he3:(bsOf F).size≤20000:=by rw[bsOf_size];exact hF
 have he2:(bsOf n.tok.text).size≤18:=by rw[bsOf_size];exact h18
 have HX:Hid (bsOf (E++32 :: (n.tok.text++32 :: F))=bsOf E++⟨#[32]⟩++bsOf n.tok.text++⟨#[32]⟩++bsOf F):=by
  have e1:(⟨#[32]⟩:ByteArray)=bsOf [32]:=rfl
  rw[Hid,e1,← bsOf_app,← bsOf_app,← bsOf_app,← bsOf_app]
  congr 1
  simp
 clear h0 ih ih2 h18 hE hF hb hbn hm
 generalize bsOf (E++32 :: (n.tok.text++32 :: F))=XX at *
 generalize kindP n.tok.text=kk at *
 generalize bsOf n.tok.text=tx at *
 generalize bsOf E=ex at *
 generalize bsOf F=fx at *
 have z0:(⟨#[32]⟩:ByteArray).size=1:=rfl
 have z1:(9223372036854775807<ex.size+1)=False:=by simp;omega
 have z2:(9223372036854775807<ex.size+1+tx.size)=False:=by simp;omega
 have z3:(9223372036854775807<ex.size+1+tx.size+1)=False:=by simp;omega
 have z4:(9223372036854775807<ex.size+1+tx.size+1+fx.size)=False:=by simp;omega
 have t1:Hid True:=trivial
 have t2:Hid True:=trivial
 go_enter Tryz.func123,Tryz.ntmps123
 go_upto_region 1 with fail
 generalize w.alloc (.cells #[.int .i64 kk,.int .i64 n.tok.at',.string tx,.int .i64 (2:Nat),.int .i64 n.left,.int .i64 n.right] 154)=W at HN HB HBL ⊢
 have c:=HB.out.cell
 go_wp2_with (first
  | (go_at_call 124;refine (HBI.out _).mono ?_;rintro e w1 ⟨rfl,hb⟩;replace HN:=mH (HN.out.below hb);replace HB:=mH (HB.out.below hb HB.out.lt);replace HBL:=mH (HBL.out.trans (hb.mono HBL.out.size));clear hb c;have c:=HB.out.cell)
  | (go_at_call 104;have u1:=t1;clear t1;refine (HI1.out _ HN.out).mono ?_;rintro e w2 ⟨rfl,hb⟩;replace HN:=mH (HN.out.below hb);replace HB:=mH (HB.out.below hb HB.out.lt);replace HBL:=mH (HBL.out.trans (hb.mono HBL.out.size));clear hb c;have c:=HB.out.cell)
  | (go_at_call 104;have u2:=t2;clear t2;refine (HI2.out _ HN.out).mono ?_;rintro e w3 ⟨rfl,hb⟩;replace HN:=mH (HN.out.below hb);replace HB:=mH (HB.out.below hb HB.out.lt);replace HBL:=mH (HBL.out.trans (hb.mono HBL.out.size));clear hb c;have c:=HB.out.cell))
 go_ret
 exact ⟨by rw[HX.out];rfl,HBL.out⟩
set_option maxHeartbeats 2000000 in
set_option maxRecDepth 100000 in
theorem node_of(g o cap m:Nat)(N:List PNode)(n:PNode)(r lv:Nat)(X:Txt)(hr:N[r]?=some n)(hrm:r<m)(hmN:m≤N.length)(hNl:N.length≤401)(hlv:lv≤6)(hm:mayT n.tok.text=true)(h2:n.ops≤2)(hX:X.length≤15000)(ih:BareIs g o cap r N n X):NodeIs g o cap m N r lv (brk (decide (bindN n<lv)) X):=by
 intro w h
 obtain ⟨hlt,hg,hcap,c0,c1,c2,c3,c4,c5⟩:=h.at hr
 have HBI:Hid (∀ wx,Calls Tryz.prog 124 #[.agg #[.int .i64 (kindP n.tok.text),.int .i64 n.tok.at',.string (bsOf n.tok.text),.int .i64 n.ops,.int .i64 n.left,.int .i64 n.right]] wx fun e w'=>e=.returned (.int .i64 (bindN n))∧Below wx.heap.size wx w'):=mH (fun wx=>Binding_any n hm h2 wx)
 have HIH:Hid (∀ wx,NdsAt wx g o cap N→Calls Tryz.prog 123 #[.slice (some ⟨g,o,none⟩) r cap,.agg #[.int .i64 (kindP n.tok.text),.int .i64 n.tok.at',.string (bsOf n.tok.text),.int .i64 n.ops,.int .i64 n.left,.int .i64 n.right]] wx fun e w'=>e=.returned (.string (bsOf X))∧Below wx.heap.size wx w'):=ih
 have hsl:=fun wx=>sliceN g o m cap r (by omega) (by omega) wx
 have HN:=mH h
 have he1:(bsOf X).size≤15000:=by rw[bsOf_size];exact hX
 have hb6:bindN n≤6:=by unfold bindN;split;have:=bindsT_le n.tok.text;omega;omega
 have e0:decide ((r:Int)<0)=false:=decide_eq_false (by omega)
 have e1:decide ((m:Int)≤(r:Int))=false:=decide_eq_false (by omega)
 have HX1:Hid (bsOf (brk true X)=⟨#[40]⟩++bsOf X++⟨#[41]⟩):=by
  have q1:(⟨#[40]⟩:ByteArray)=bsOf [40]:=rfl
  have q2:(⟨#[41]⟩:ByteArray)=bsOf [41]:=rfl
  rw[Hid,q1,q2,← bsOf_app,← bsOf_app]
  congr 1
 clear h ih hX hr
 generalize kindP n.tok.text=kk at *
 generalize bsOf n.tok.text=tx at *
 obtain ⟨bn,hbn⟩:∃ bn,bindN n=bn:=⟨_,rfl⟩
 rw[hbn]at HBI hb6 ⊢
 clear hbn
 obtain ⟨XX,hXX⟩:∃ XX,bsOf (brk (decide (bn<lv)) X)=XX:=⟨_,rfl⟩
 rw[hXX]
 have HXX:=mH hXX
 clear hXX
 have z0:(⟨#[40]⟩:ByteArray).size=1:=rfl
 have z3:(⟨#[41]⟩:ByteArray).size=1:=rfl
 have z1:(9223372036854775807<1+(bsOf X).size)=False:=by simp;omega
 have z2:(9223372036854775807<1+(bsOf X).size+1)=False:=by simp;omega
 have HB:=mH (Blk.new w #[.int .i64 kk,.int .i64 n.tok.at',.string tx,.int .i64 n.ops,.int .i64 n.left,.int .i64 n.right] 154)
 have HBL:=mH (box3 w (.cells #[.int .i64 kk,.int .i64 n.tok.at',.string tx,.int .i64 n.ops,.int .i64 n.left,.int .i64 n.right] 154))
 replace HN:=mH (HN.out.below (box3 w (.cells #[.int .i64 kk,.int .i64 n.tok.at',.string tx,.int .i64 n.ops,.int .i64 n.left,.int .i64 n.right] 154)))
 go_enter Tryz.func104,Tryz.ntmps104
 go_upto_region 4 with fail
 clear c0 c1 c2 c3 c4 c5
 generalize w.alloc (.cells #[.int .i64 kk,.int .i64 n.tok.at',.string tx,.int .i64 n.ops,.int .i64 n.left,.int .i64 n.right] 154)=W at HN HB HBL ⊢
 have HCELL:Hid (∀ wx,Below W.heap.size W wx→wx.cell? ⟨w.heap.size,0,none⟩=some (.int .i64 kk)∧wx.cell? ⟨w.heap.size,1,none⟩=some (.int .i64 n.tok.at')∧wx.cell? ⟨w.heap.size,2,none⟩=some (.string tx)∧wx.cell? ⟨w.heap.size,3,none⟩=some (.int .i64 n.ops)∧wx.cell? ⟨w.heap.size,4,none⟩=some (.int .i64 n.left)∧wx.cell? ⟨w.heap.size,5,none⟩=some (.int .i64 n.right)):=fun wx hb=>by
  have hh:=(HB.out.below hb HB.out.lt).cell
  exact ⟨hh 0,hh 1,hh 2,hh 3,hh 4,hh 5⟩
 have HQ:=mH (Below.refl W.heap.size W)
 obtain ⟨d0,d1,d2,d3,d4,d5⟩:=HCELL.out _ HQ.out
 go_region_held3 (fun w'=>w'.cell? ⟨w.heap.size,0,none⟩=some (.int .i64 kk)∧w'.cell? ⟨w.heap.size,1,none⟩=some (.int .i64 n.tok.at')∧w'.cell? ⟨w.heap.size,2,none⟩=some (.string tx)∧w'.cell? ⟨w.heap.size,3,none⟩=some (.int .i64 n.ops)∧w'.cell? ⟨w.heap.size,4,none⟩=some (.int .i64 n.left)∧w'.cell? ⟨w.heap.size,5,none⟩=some (.int .i64 n.right)) (first | with_reducible exact HCELL.out _ HQ.out | with_reducible exact HCELL.out _ (ag_dr HQ.out)) (first | (go_at_call 123;refine (HIH.out _ (HN.out.below (by first | with_reducible exact HQ.out | with_reducible exact ag_dr HQ.out))).mono ?_;rintro e w2 ⟨rfl,hb⟩;replace HQ:=mH (show Below W.heap.size W w2 by first | with_reducible exact ag_step HQ.out hb | with_reducible exact ag_step (ag_dr HQ.out) hb);clear hb d0 d1 d2 d3 d4 d5;obtain ⟨d0,d1,d2,d3,d4,d5⟩:=HCELL.out _ HQ.out))
 all_goals
  replace HBL:=mH (HBL.out.trans (HQ.out.mono HBL.out.size))
  by_cases hlt2:bn<lv
  ·have f1:decide ((bn:Int)<(lv:Int))=true:=decide_eq_true (by omega)
   have HD:Hid (decide (bn<lv)=true):=decide_eq_true hlt2
   have f2:=HD.out
   go_wp2_with (go_at_call 124;refine (HBI.out _).mono ?_;rintro e w3 ⟨rfl,hb⟩;replace HBL:=mH (HBL.out.trans (hb.mono HBL.out.size));clear hb)
   go_ret
   exact ⟨by rw[← HXX.out,HD.out,HX1.out];rfl,HBL.out⟩
  ·have f1:decide ((bn:Int)<(lv:Int))=false:=decide_eq_false (by omega)
   have HD:Hid (decide (bn<lv)=false):=decide_eq_false hlt2
   have f2:=HD.out
   go_wp2_with (go_at_call 124;refine (HBI.out _).mono ?_;rintro e w3 ⟨rfl,hb⟩;replace HBL:=mH (HBL.out.trans (hb.mono HBL.out.size));clear hb)
   go_ret
   exact ⟨by rw[← HXX.out,HD.out];rfl,HBL.out⟩
theorem single_pos{t:Txt}(h:singleT t=true):1≤t.length:=by
 cases t with
 | nil=>exact absurd h (by decide)
 | cons a r=>simp
theorem lies_last{N:List PNode}{b:Nat}{l:List PNode}{n:PNode}(h:LiesAt N b (l++[n])):N[b+l.length]?=some n:=h l.length n (by simp)
theorem brk_false(t:Txt):brk false t=t:=rfl
theorem node_tree(g o cap:Nat)(N:List PNode)(hNl:N.length≤401)(t:Tr)(h:t.wf):∀ b m lv,LiesAt N b (t.flat b)→b+t.num≤m→m≤N.length→lv≤6→(∀ a∈t.toks,mayT a.text=true)→t.toks.length≤400→NodeIs g o cap m N (b+t.num-1) lv (t.plainT lv):=by
 refine Tr.ind (P:=fun t=>∀ b m lv,LiesAt N b (t.flat b)→b+t.num≤m→m≤N.length→lv≤6→(∀ a∈t.toks,mayT a.text=true)→t.toks.length≤400→NodeIs g o cap m N (b+t.num-1) lv (t.plainT lv)) t h ?_ ?_ ?_ ?_
 ·intro a hw b m lv hl hm hN hlv hmay hlen
  have hma:=hmay a (by rw[Tr.toks_leaf];simp)
  have h1:=single_pos (Tr.wf_leaf hw).1
  rw[Tr.flat_leaf]at hl
  have hr:N[b]?=some ⟨a,0,0,0⟩:=by have:=hl 0 _ rfl;simpa using this
  rw[Tr.num_leaf]at hm ⊢
  rw[plainT_leaf,show b+1-1=b by omega]
  have hb:=bare_leaf g o cap b N ⟨a,0,0,0⟩ hma h1 rfl
  have hx:=shortN_le a.text
  have h18:=may_18 hma
  have:=node_of g o cap m N ⟨a,0,0,0⟩ b lv _ hr (by omega) hN hNl hlv hma (by simp) (by show (shortN a.text).length≤15000;omega) hb
  rw[show decide (bindN ⟨a,0,0,0⟩<lv)=false from decide_eq_false (by show ¬ (6<lv);omega),brk_false]at this
  exact this
 ·intro op e hw ih b m lv hl hm hN hlv hmay hlen
  obtain ⟨hu,hl6,hwe⟩:=Tr.wf_un hw
  have hmo:=hmay op (by rw[Tr.toks_un];simp)
  have hme:∀ a∈e.toks,mayT a.text=true:=fun a ha=>hmay a (by rw[Tr.toks_un];simp[ha])
  have hp:=e.num_pos hwe
  have hle:e.toks.length≤400:=by rw[Tr.toks_un,List.length_cons]at hlen;omega
  rw[Tr.flat_un]at hl
  have hr:=lies_last hl
  rw[e.flat_len hwe]at hr
  rw[Tr.num_un]at hm ⊢
  rw[show b+(e.num+1)-1=b+e.num by omega]
  have hz:=plainT_len e hwe (fun a ha=>may_18 (hme a ha)) 6
  have hb:=bare_un g o cap (b+e.num) N ⟨op,1,b+e.num-1,0⟩ (e.plainT 6) hmo rfl (by omega) (ih b (b+e.num) 6 hl.left (Nat.le_refl _) (by omega) (Nat.le_refl _) hme hle)
  have h18:=may_18 hmo
  have hX:((if op.text==cMinus then cMinus else op.text++[32])++e.plainT 6).length≤15000:=by
   rw[List.length_append]
   split
   ·have:cMinus.length=1:=rfl
    omega
   ·rw[List.length_append];simp only[List.length_cons,List.length_nil];omega
  have:=node_of g o cap m N ⟨op,1,b+e.num-1,0⟩ (b+e.num) lv _ hr (by omega) hN hNl hlv hmo (by simp) hX hb
  rw[show decide (bindN ⟨op,1,b+e.num-1,0⟩<lv)=false from decide_eq_false (by show ¬ (6<lv);omega),brk_false]at this
  rw[plainT_un]
  exact this
 ·intro op l r hw ihl ihr b m lv hl hm hN hlv hmay hlen
  obtain ⟨hb0,_,_,_,_,hwl,hwr⟩:=Tr.wf_bin hw
  have hmo:=hmay op (by rw[Tr.toks_bin];simp)
  have hml:∀ a∈l.toks,mayT a.text=true:=fun a ha=>hmay a (by rw[Tr.toks_bin];simp[ha])
  have hmr:∀ a∈r.toks,mayT a.text=true:=fun a ha=>hmay a (by rw[Tr.toks_bin];simp[ha])
  have hpl:=l.num_pos hwl
  have hpr:=r.num_pos hwr
  have hle:l.toks.length+r.toks.length+1≤400:=by rw[Tr.toks_bin,List.length_append,List.length_cons]at hlen;omega
  have hb5:=bindsT_le op.text
  rw[Tr.flat_bin]at hl
  have hr:=lies_last hl
  rw[List.length_append,l.flat_len hwl,r.flat_len hwr]at hr
  have hll:=hl.left.left
  have hlr:=hl.left.right
  rw[l.flat_len hwl]at hlr
  rw[Tr.num_bin]at hm ⊢
  rw[show b+(l.num+r.num+1)-1=b+(l.num+r.num) by omega]
  have hzl:=plainT_len l hwl (fun a ha=>may_18 (hml a ha)) (bindsT op.text)
  have hzr:=plainT_len r hwr (fun a ha=>may_18 (hmr a ha)) (bindsT op.text+1)
  have h18:=may_18 hmo
  have i1:=ihl b (b+(l.num+r.num)) (bindsT op.text) hll (by omega) (by omega) (by omega) hml (by omega)
  have i2:=ihr (b+l.num) (b+(l.num+r.num)) (bindsT op.text+1) hlr (by omega) (by omega) (by omega) hmr (by omega)
  have hb:=bare_bin g o cap (b+(l.num+r.num)) N ⟨op,2,b+l.num-1,b+l.num+r.num-1⟩ (bindsT op.text) (l.plainT (bindsT op.text)) (r.plainT (bindsT op.text+1)) hmo rfl rfl (by omega) (by omega) i1 i2
  have hX:(l.plainT (bindsT op.text)++32 :: (op.text++32 :: r.plainT (bindsT op.text+1))).length≤15000:=by
   simp only[List.length_append,List.length_cons]
   omega
  have:=node_of g o cap m N ⟨op,2,b+l.num-1,b+l.num+r.num-1⟩ (b+(l.num+r.num)) lv _ hr (by omega) hN hNl hlv hmo (by simp) hX hb
  rw[plainT_bin]
  exact this
 ·intro o' e c hw ih b m lv hl hm hN hlv hmay hlen
  rw[Tr.flat_par]at hl
  rw[Tr.num_par]at hm ⊢
  rw[plainT_par]
  exact ih b m lv hl hm hN hlv (fun a ha=>hmay a (by rw[Tr.toks_par];simp[ha])) (by rw[Tr.toks_par,List.length_cons,List.length_append]at hlen;omega)
def ExprIs(nv:Value)(N:List PNode)(e:PExp)(X:Txt):Prop:=∀ w,Reads w nv N.length (cellsN N)→Calls Tryz.prog 70 #[nv,expA e] w fun e w'=>e=.returned (.string (bsOf X))∧Below w.heap.size w w'
set_option maxHeartbeats 1000000 in
theorem expr_tree(nv:Value)(N:List PNode)(hNl:N.length≤401)(t:Tr)(h:t.wf)(b:Nat)(hl:LiesAt N b (t.flat b))(hm:b+t.num≤N.length)(hmay:∀ a∈t.toks,mayT a.text=true)(hlen:t.toks.length≤400):ExprIs nv N (layE b t) (t.plainT 1):=by
 intro w hr
 have hp:=t.num_pos h
 obtain ⟨g,o,cap,rfl,hcap,hg,hcl⟩:=hr.pos (by omega)
 have HIH:Hid (∀ wx,NdsAt wx g o cap N→Calls Tryz.prog 104 #[.slice (some ⟨g,o,none⟩) N.length cap,.int .i64 ((b+t.num-1:Nat)),.int .i64 1] wx fun e w'=>e=.returned (.string (bsOf (t.plainT 1)))∧Below wx.heap.size wx w'):=node_tree g o cap N hNl t h b N.length 1 hl hm (Nat.le_refl _) (by omega) hmay hlen
 have HN:Hid (NdsAt (w.alloc (.cells #[.int .i64 (layE b t).place,.int .i64 (layE b t).fr,.int .i64 (layE b t).behind] 105)) g o cap N):=⟨hr.alloc _⟩
 have HB:=mH (Blk.new w #[.int .i64 (layE b t).place,.int .i64 (layE b t).fr,.int .i64 (layE b t).behind] 105)
 have HBL:=mH (box3 w (.cells #[.int .i64 (layE b t).place,.int .i64 (layE b t).fr,.int .i64 (layE b t).behind] 105))
 have hsub:(((b+t.num:Nat):Int))-1=((b+t.num-1:Nat):Int):=by omega
 have hbe:(layE b t).behind=b+t.num:=rfl
 rw[hbe]at HN HB HBL
 unfold expA
 rw[hbe]
 clear hr hcl hl hmay hlen
 generalize b+t.num=bn at *
 go_enter Tryz.func70,Tryz.ntmps70
 go_upto_region 1 with fail
 generalize w.alloc (.cells #[.int .i64 (layE b t).place,.int .i64 (layE b t).fr,.int .i64 bn] 105)=W at HN HB HBL ⊢
 have c:=HB.out.cell
 go_wp2_with (go_at_call 104;refine (HIH.out _ HN.out).mono ?_;rintro e w2 ⟨rfl,hb⟩;replace HBL:=mH (ag_step HBL.out hb);clear hb)
 go_ret
 exact ⟨rfl,HBL.out⟩
end Go.Proofs.YtpcjadaeolkngaaGreatDoor
