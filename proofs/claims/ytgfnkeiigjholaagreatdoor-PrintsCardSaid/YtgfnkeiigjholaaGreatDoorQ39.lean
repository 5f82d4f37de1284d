/-
  The program's plain form of an EXPR: bareText, nodeText.
-/
import Derived.Test.YtgfnkeiigjholaaGreatDoorQ38
import Derived.Deep.RegionHeld3
set_option linter.unusedVariables false
set_option linter.unusedSimpArgs false
namespace Go.Proofs.YtgfnkeiigjholaaGreatDoor
open Go.RowKit Go.Deep
theorem ag_step{w wx w':World}(h:Below w.heap.size w wx)(hb:Below wx.heap.size wx w'):Below w.heap.size w w':=h.trans (hb.mono h.size)
theorem ag_dr{w wx:World}(h:Below w.heap.size w wx):Below w.heap.size w wx.drew:=below_drewN h 1
theorem bsOf_app(a b:Txt):bsOf (a++b)=bsOf a++bsOf b:=by
 apply ByteArray.ext
 simp[bsOf,ByteArray.data_append]
structure NdsAt(w:World)(g o cap:Nat)(N:List PNode):Prop where
 rd:Reads w (.slice (some ⟨g,o,none⟩) N.length cap) N.length (cellsN N)
theorem NdsAt.below{w w':World}{g o cap:Nat}{N:List PNode}(h:NdsAt w g o cap N)(hb:Below w.heap.size w w'):NdsAt w' g o cap N:=⟨h.rd.below hb⟩
theorem NdsAt.at{w:World}{g o cap:Nat}{N:List PNode}(h:NdsAt w g o cap N){j:Nat}{n:PNode}(hj:N[j]?=some n):j<N.length∧g<w.heap.size∧N.length≤cap∧w.cell? ⟨g,o+j*6,none⟩=some (.int .i64 (kindP n.tok.text))∧w.cell? ⟨g,o+j*6+1,none⟩=some (.int .i64 n.tok.at')∧w.cell? ⟨g,o+j*6+2,none⟩=some (.string (bsOf n.tok.text))∧w.cell? ⟨g,o+j*6+3,none⟩=some (.int .i64 n.ops)∧w.cell? ⟨g,o+j*6+4,none⟩=some (.int .i64 n.left)∧w.cell? ⟨g,o+j*6+5,none⟩=some (.int .i64 n.right):=by
 obtain ⟨hlt,rfl⟩:=List.getElem?_eq_some_iff.1 hj
 obtain ⟨g',o',cap',hcut,hcap,hg,hcl⟩:=h.rd.pos (by omega)
 cases hcut
 have fc:=fun i (hi:i<6) u (hu:(cellN N[j])[i]?=some u)=>hcl (j*6+i) u ((flat_get cellN 6 (fun _=>rfl) N j hlt i hi).trans hu)
 refine ⟨hlt,hg,hcap,fc 0 (by omega) _ rfl, ?_, ?_, ?_, ?_, ?_⟩
 ·rw[Nat.add_assoc];exact fc 1 (by omega) _ rfl
 ·rw[Nat.add_assoc];exact fc 2 (by omega) _ rfl
 ·rw[Nat.add_assoc];exact fc 3 (by omega) _ rfl
 ·rw[Nat.add_assoc];exact fc 4 (by omega) _ rfl
 ·rw[Nat.add_assoc];exact fc 5 (by omega) _ rfl
def NodeIs(g o cap m:Nat)(N:List PNode)(r lv:Nat)(X:Txt):Prop:=∀ w,NdsAt w g o cap N→Calls Tryz.prog 138 #[.slice (some ⟨g,o,none⟩) m cap,.int .i64 r,.int .i64 lv] w fun e w'=>e=.returned (.string (bsOf X))∧Below w.heap.size w w'
def BareIs(g o cap m:Nat)(N:List PNode)(n:PNode)(X:Txt):Prop:=∀ w,NdsAt w g o cap N→Calls Tryz.prog 161 #[.slice (some ⟨g,o,none⟩) m cap,nodA n] w fun e w'=>e=.returned (.string (bsOf X))∧Below w.heap.size w w'
set_option maxHeartbeats 1000000 in
theorem bare_leaf(g o cap m:Nat)(N:List PNode)(n:PNode)(hm:mayT n.tok.text=true)(h1:1≤n.tok.text.length)(h0:n.ops=0):BareIs g o cap m N n (shortN n.tok.text):=by
 intro w h
 have HN:=mH (h.below (box3 w (.cells #[.int .i64 (kindP n.tok.text),.int .i64 n.tok.at',.string (bsOf n.tok.text),.int .i64 n.ops,.int .i64 n.left,.int .i64 n.right] 175)))
 have HB:=mH (Blk.new w #[.int .i64 (kindP n.tok.text),.int .i64 n.tok.at',.string (bsOf n.tok.text),.int .i64 n.ops,.int .i64 n.left,.int .i64 n.right] 175)
 have HBL:=mH (box3 w (.cells #[.int .i64 (kindP n.tok.text),.int .i64 n.tok.at',.string (bsOf n.tok.text),.int .i64 n.ops,.int .i64 n.left,.int .i64 n.right] 175))
 clear h
 unfold nodA
 rw[h0]at HN HB HBL ⊢
 have HT:Hid (∀ wx,Calls Tryz.prog 183 #[.agg #[.int .i64 (kindP n.tok.text),.int .i64 n.tok.at',.string (bsOf n.tok.text)]] wx fun e w'=>e=.returned (.string (bsOf (shortN n.tok.text)))∧Below wx.heap.size wx w'):=mH (fun wx=>single_any n.tok hm h1 wx)
 clear h0 hm h1
 generalize kindP n.tok.text=kk at *
 generalize bsOf n.tok.text=tx at *
 generalize bsOf (shortN n.tok.text)=sx at *
 go_enter Tryz.func161,Tryz.ntmps161
 go_upto_region 1 with fail
 generalize w.alloc (.cells #[.int .i64 kk,.int .i64 n.tok.at',.string tx,.int .i64 (0:Nat),.int .i64 n.left,.int .i64 n.right] 175)=W at HN HB HBL ⊢
 have c:=HB.out.cell
 go_wp2_with (go_at_call 183;refine (HT.out _).mono ?_;rintro e w2 ⟨rfl,hb2⟩;replace HBL:=mH (HBL.out.trans (hb2.mono HBL.out.size));clear hb2)
 go_ret
 exact ⟨rfl,HBL.out⟩
set_option maxHeartbeats 2000000 in
theorem bare_un(g o cap m:Nat)(N:List PNode)(n:PNode)(E:Txt)(hm:mayT n.tok.text=true)(h0:n.ops=1)(hE:E.length≤20000)(ih:NodeIs g o cap m N n.left 6 E):BareIs g o cap m N n ((if n.tok.text==cMinus then cMinus else n.tok.text++[32])++E):=by
 intro w h
 have HN:=mH (h.below (box3 w (.cells #[.int .i64 (kindP n.tok.text),.int .i64 n.tok.at',.string (bsOf n.tok.text),.int .i64 n.ops,.int .i64 n.left,.int .i64 n.right] 175)))
 have HB:=mH (Blk.new w #[.int .i64 (kindP n.tok.text),.int .i64 n.tok.at',.string (bsOf n.tok.text),.int .i64 n.ops,.int .i64 n.left,.int .i64 n.right] 175)
 have HBL:=mH (box3 w (.cells #[.int .i64 (kindP n.tok.text),.int .i64 n.tok.at',.string (bsOf n.tok.text),.int .i64 n.ops,.int .i64 n.left,.int .i64 n.right] 175))
 clear h
 unfold nodA
 rw[h0]at HN HB HBL ⊢
 have hk:=(kindOf n.tok.text hm).kminus
 have h18:=may_18 hm
 have HIH:Hid (∀ wx,NdsAt wx g o cap N→Calls Tryz.prog 138 #[.slice (some ⟨g,o,none⟩) m cap,.int .i64 n.left,.int .i64 6] wx fun e w'=>e=.returned (.string (bsOf E))∧Below wx.heap.size wx w'):=ih
 have he1:(bsOf E).size≤20000:=by rw[bsOf_size];exact hE
 have he2:(bsOf n.tok.text).size≤18:=by rw[bsOf_size];exact h18
 clear h0 ih h18 hE
 by_cases hmi:n.tok.text=cMinus
 ·have HX:Hid (bsOf ((if n.tok.text==cMinus then cMinus else n.tok.text++[32])++E)=⟨#[45]⟩++bsOf E):=by rw[Hid,if_pos (by simpa using hmi),bsOf_app];rfl
  rw[hk.2 hmi]at HN HB HBL ⊢
  generalize bsOf ((if n.tok.text==cMinus then cMinus else n.tok.text++[32])++E)=XX at *
  clear hk hmi
  generalize bsOf n.tok.text=tx at *
  generalize bsOf E=ex at *
  have z1:(9223372036854775807<(⟨#[45]⟩:ByteArray).size+ex.size)=False:=by
   have:(⟨#[45]⟩:ByteArray).size=1:=rfl
   simp;omega
  have z2:(9223372036854775807<1+ex.size)=False:=by simp;omega
  go_enter Tryz.func161,Tryz.ntmps161
  go_upto_region 1 with fail
  generalize w.alloc (.cells #[.int .i64 (28:Nat),.int .i64 n.tok.at',.string tx,.int .i64 (1:Nat),.int .i64 n.left,.int .i64 n.right] 175)=W at HN HB HBL ⊢
  have c:=HB.out.cell
  go_wp2_with (go_at_call 138;refine (HIH.out _ HN.out).mono ?_;rintro e w2 ⟨rfl,hb⟩;replace HN:=mH (HN.out.below hb);replace HB:=mH (HB.out.below hb HB.out.lt);replace HBL:=mH (HBL.out.trans (hb.mono HBL.out.size));clear hb c;have c:=HB.out.cell)
  go_ret
  exact ⟨by rw[HX.out];rfl,HBL.out⟩
 ·have HX:Hid (bsOf ((if n.tok.text==cMinus then cMinus else n.tok.text++[32])++E)=bsOf n.tok.text++⟨#[32]⟩++bsOf E):=by rw[Hid,if_neg (by simpa using hmi),bsOf_app,bsOf_app];rfl
  have hk28:kindP n.tok.text≠28:=fun h=>hmi (hk.1 h)
  have q1:((kindP n.tok.text:Int)==28)=false:=by simp;omega
  generalize bsOf ((if n.tok.text==cMinus then cMinus else n.tok.text++[32])++E)=XX at *
  clear hk hmi hk28
  generalize kindP n.tok.text=kk at *
  generalize bsOf n.tok.text=tx at *
  generalize bsOf E=ex at *
  have z0:(⟨#[32]⟩:ByteArray).size=1:=rfl
  have z1:(9223372036854775807<tx.size+1)=False:=by simp;omega
  have z2:(9223372036854775807<tx.size+1+ex.size)=False:=by simp;omega
  go_enter Tryz.func161,Tryz.ntmps161
  go_upto_region 1 with fail
  generalize w.alloc (.cells #[.int .i64 kk,.int .i64 n.tok.at',.string tx,.int .i64 (1:Nat),.int .i64 n.left,.int .i64 n.right] 175)=W at HN HB HBL ⊢
  have c:=HB.out.cell
  go_wp2_with (go_at_call 138;refine (HIH.out _ HN.out).mono ?_;rintro e w2 ⟨rfl,hb⟩;replace HN:=mH (HN.out.below hb);replace HB:=mH (HB.out.below hb HB.out.lt);replace HBL:=mH (HBL.out.trans (hb.mono HBL.out.size));clear hb c;have c:=HB.out.cell)
  go_ret
  exact ⟨by rw[HX.out];rfl,HBL.out⟩
set_option maxHeartbeats 2000000 in
theorem bare_bin(g o cap m:Nat)(N:List PNode)(n:PNode)(bn:Nat)(E F:Txt)(hm:mayT n.tok.text=true)(h0:n.ops=2)(hb:bindsT n.tok.text=bn)(hE:E.length≤20000)(hF:F.length≤20000)(ih:NodeIs g o cap m N n.left bn E)(ih2:NodeIs g o cap m N n.right (bn+1) F):BareIs g o cap m N n (E++32 :: (n.tok.text++32 :: F)):=by
 intro w h
 have HN:=mH (h.below (box3 w (.cells #[.int .i64 (kindP n.tok.text),.int .i64 n.tok.at',.string (bsOf n.tok.text),.int .i64 n.ops,.int .i64 n.left,.int .i64 n.right] 175)))
 have HB:=mH (Blk.new w #[.int .i64 (kindP n.tok.text),.int .i64 n.tok.at',.string (bsOf n.tok.text),.int .i64 n.ops,.int .i64 n.left,.int .i64 n.right] 175)
 have HBL:=mH (box3 w (.cells #[.int .i64 (kindP n.tok.text),.int .i64 n.tok.at',.string (bsOf n.tok.text),.int .i64 n.ops,.int .i64 n.left,.int .i64 n.right] 175))
 clear h
 unfold nodA
 have hbn:bindN n=bn:=by unfold bindN;rw[if_pos h0,hb]
 have HBI:Hid (∀ wx,Calls Tryz.prog 162 #[.agg #[.int .i64 (kindP n.tok.text),.int .i64 n.tok.at',.string (bsOf n.tok.text),.int .i64 n.ops,.int .i64 n.left,.int .i64 n.right]] wx fun e w'=>e=.returned (.int .i64 bn)∧Below wx.heap.size wx w'):=mH (fun wx=>by rw[← hbn];exact Binding_any n hm (by omega) wx)
 have h18:=may_18 hm
 have hb5:bn≤5:=by rw[← hb];exact bindsT_le _
 rw[h0]at HN HB HBL HBI ⊢
 have HI1:Hid (∀ wx,NdsAt wx g o cap N→Calls Tryz.prog 138 #[.slice (some ⟨g,o,none⟩) m cap,.int .i64 n.left,.int .i64 bn] wx fun e w'=>e=.returned (.string (bsOf E))∧Below wx.heap.size wx w'):=ih
 have HI2:Hid (∀ wx,NdsAt wx g o cap N→Calls Tryz.prog 138 #[.slice (some ⟨g,o,none⟩) m cap,.int .i64 n.right,.int .i64 ((bn:Int)+1)] wx fun e w'=>e=.returned (.string (bsOf F))∧Below wx.heap.size wx w'):=ih2
 have he1:(bsOf E).size≤20000:=by rw[bsOf_size];exact hE
 have he3:(bsOf F).size≤20000:=by rw[bsOf_size];exact hF
 have he2:(bsOf n.tok.text).size≤18:=by rw[bsOf_size];exact h18
 have HX:Hid (bsOf (E++32 :: (n.tok.text++32 :: F))=bsOf E++⟨#[32]⟩++bsOf n.tok.text++⟨#[32]⟩++bsOf F):=by
  have e1:(⟨#[32]⟩:ByteArray)=bsOf [32]:=rfl
  rw[Hid,e1,← bsOf_app,← bsOf_app,← bsOf_app,← bsOf_app]
  congr 1
  simp
 clear h0 ih ih2 h18 hE hF hb hbn hm
 generalize bsOf (E++32 :: (n.tok.text++32 :: F))=XX at *
 generalize kindP n.tok.text=kk at *
 generalize bsOf n.tok.text=tx at *
 generalize bsOf E=ex at *
 generalize bsOf F=fx at *
 have z0:(⟨#[32]⟩:ByteArray).size=1:=rfl
 have z1:(9223372036854775807<ex.size+1)=False:=by simp;omega
 have z2:(9223372036854775807<ex.size+1+tx.size)=False:=by simp;omega
 have z3:(9223372036854775807<ex.size+1+tx.size+1)=False:=by simp;omega
 have z4:(9223372036854775807<ex.size+1+tx.size+1+fx.size)=False:=by simp;omega
 have t1:Hid True:=trivial
 have t2:Hid True:=trivial
 go_enter Tryz.func161,Tryz.ntmps161
 go_upto_region 1 with fail
 generalize w.alloc (.cells #[.int .i64 kk,.int .i64 n.tok.at',.string tx,.int .i64 (2:Nat),.int .i64 n.left,.int .i64 n.right] 175)=W at HN HB HBL ⊢
 have c:=HB.out.cell
 go_wp2_with (first
  | (go_at_call 162;refine (HBI.out _).mono ?_;rintro e w1 ⟨rfl,hb⟩;replace HN:=mH (HN.out.below hb);replace HB:=mH (HB.out.below hb HB.out.lt);replace HBL:=mH (HBL.out.trans (hb.mono HBL.out.size));clear hb c;have c:=HB.out.cell)
  | (go_at_call 138;have u1:=t1;clear t1;refine (HI1.out _ HN.out).mono ?_;rintro e w2 ⟨rfl,hb⟩;replace HN:=mH (HN.out.below hb);replace HB:=mH (HB.out.below hb HB.out.lt);replace HBL:=mH (HBL.out.trans (hb.mono HBL.out.size));clear hb c;have c:=HB.out.cell)
  | (go_at_call 138;have u2:=t2;clear t2;refine (HI2.out _ HN.out).mono ?_;rintro e w3 ⟨rfl,hb⟩;replace HN:=mH (HN.out.below hb);replace HB:=mH (HB.out.below hb HB.out.lt);replace HBL:=mH (HBL.out.trans (hb.mono HBL.out.size));clear hb c;have c:=HB.out.cell))
 go_ret
 exact ⟨by rw[HX.out];rfl,HBL.out⟩
end Go.Proofs.YtgfnkeiigjholaaGreatDoor
