/-
  The program's IsImage and Verify: are some bytes an image?
-/
import Derived.Test.YtpcjadaeolkngaaGreatDoorJ29
import Derived.Deep.LoopGhost
import Derived.Test.YtpcjadaeolkngaaGreatDoorJ41
set_option linter.unusedVariables false
set_option linter.unusedSimpArgs false
namespace Go.Proofs.YtpcjadaeolkngaaGreatDoor
open Go.RowKit
theorem VStv.congr{w:World}{vb hb:Nat}{s:ByteArray}{most:Nat}{H H':Nat→Int}{wg:Bool}(h:VStv w vb hb s most H wg)(he:∀ q,q<s.size→H q=H' q):VStv w vb hb s most H' wg :=
 ⟨h.st,by rw[← arrH_congr he];exact h.ht,h.ne⟩
def clearH(i:Nat):Nat→Int:=fun q=>if q<i then -1 else 0
def firstH:Nat→Int:=fun q=>if q=3 then 0 else -1
theorem start_reach(s:ByteArray)(hs:3<s.size):reachH s (bt s 2) (fun _=>-1) 3 0=firstH∧reachW s (bt s 2) (fun _=>-1) false 3 0=false:=by
 constructor
 ·unfold reachH
  rw[if_neg (by omega)]
  rfl
 ·unfold reachW
  rw[decide_eq_false (by simp;omega)];rfl
set_option maxHeartbeats 2000000 in
set_option maxRecDepth 100000 in
theorem IsImage_any(s:ByteArray)(w:World)(hg:GlobP w) :
  Calls Tryz.prog 26 #[.string s] w fun e w'=>Below w.heap.size w w'∧((IsImg s∧e=.returned (.bool true))∨(¬ IsImg s∧e=.returned (.bool false))):=by
 obtain ⟨i0,hin,hz0,hz1,hz2⟩:=info_parts Tryz.infoInt
 by_cases hh:HeadOk s
 case neg =>
  have HH:Hid (¬ HeadOk s):=hh
  have hd:headB s=false:=headB_false hh
  clear hh
  go_enter Tryz.func26,Tryz.ntmps26
  go_wp2_with (go_at_call 50;refine (hasHead_any s _).mono ?_;rintro e w' ⟨rfl,rfl⟩;rw[hd])
  go_ret
  exact ⟨Below.refl _ _,.inr ⟨fun h=>HH.out h.1,rfl⟩⟩
 have HH:Hid (HeadOk s):=hh
 have hd:headB s=true:=(headB_iff s).2 hh
 have hs4:s.size≤4000:=hh.2.1
 have hs3:3<s.size:=hh.1
 have hmk:=fun wx=>run_make_ints (P:=Tryz.prog) wx 120 3 i0 Tryz.underlying120 hin hz0 hz1 hz2 s.size hs4
 have hix:=fun wx=>run_index_nat (P:=Tryz.prog) wx 9 s .i64 2 2 Tryz.underlying9 rfl (by omega)
 have HM:Hid (s[2].toNat=bt s 2):=(bt_get s 2 (by omega)).symm
 obtain ⟨m,hm⟩:∃ m,m=(s[2]'(by omega)).toNat:=⟨_,rfl⟩
 rw[← hm]at hix HM
 have hm256:m<256:=by rw[hm];exact UInt8.toNat_lt _
 have HG:Hid (GlobP w):=hg
 clear hh hm hg
 go_enter Tryz.func26,Tryz.ntmps26
 go_wp2_with (go_at_call 50;refine (hasHead_any s _).mono ?_;rintro e w' ⟨rfl,rfl⟩;rw[hd])
 go_region
 have hM:=HM.out
 subst hM
 have hst0:VStv ((w'.alloc (.cells (arrH (fun _=>0) s.size) 3)).alloc (.cells (verCells s (bt s 2) w'.heap.size false) 122)) (w'.heap.size+1) w'.heap.size s (bt s 2) (clearH 0) false:=by
  refine ⟨?_, ?_,by omega⟩
  ·have:=Blk.new (w'.alloc (.cells (arrH (fun _=>0) s.size) 3)) (verCells s (bt s 2) w'.heap.size false) 122
   simpa using this
  ·have e:arrH (clearH 0) s.size=arrH (fun _=>0) s.size:=arrH_congr (fun q _=>by simp[clearH])
   rw[e]
   exact (Blk.new w' (arrH (fun _=>0) s.size) 3).alloc (.cells (verCells s (bt s 2) w'.heap.size false) 122)
 have HS0:=Hid.mk' hst0
 have HB0:=Hid.mk' (((box3 w' (.cells (arrH (fun _=>0) s.size) 3))).trans ((box3 (w'.alloc (.cells (arrH (fun _=>0) s.size) 3)) (.cells (verCells s (bt s 2) w'.heap.size false) 122)).mono (by simp)))
 clear hst0
 go_wp2
 go_loopw [4] (fun vi wx=>∃ i:Nat,i≤s.size∧vi=.int .i64 i∧VStv wx (w'.heap.size+1) w'.heap.size s (bt s 2) (clearH i) false∧Below w'.heap.size w' wx) (fun i _=>s.size-(intOf i).toNat)
 case atStart=>exact ⟨0,Nat.zero_le _,rfl,HS0.out.drew,HB0.out.drew⟩
 case round =>
  clear HS0 HB0
  obtain ⟨i,hil,rfl,hst,hbl⟩:=hrel
  have HV:=Hid.mk' hst
  have c2:=hst.c2
  clear hst
  by_cases hi:i<s.size
  ·have cx:=HV.out.cH i hi
   have fx:=HV.out.ht.free i
   go_wp2
   go_roundw
   case rel=>exact ⟨i+1,by omega,by go_num,(HV.out.put i (-1)).congr (fun q hq=>by
    unfold upd clearH
    by_cases h:q=i
    ·rw[if_pos h,if_pos (by omega)]
    ·rw[if_neg h]
     by_cases h2:q<i
     ·rw[if_pos h2,if_pos (by omega)]
     ·rw[if_neg h2,if_neg (by omega)]),hbl.setCell (p:=⟨w'.heap.size,i,none⟩) (Nat.le_refl _) _⟩
   case measure=>simp[intOf];omega
  ·have HV2:Hid (VStv wr (w'.heap.size+1) w'.heap.size s (bt s 2) (fun _=>-1) false):=HV.out.congr (fun q hq=>by unfold clearH;rw[if_pos (by omega)])
   have HG2:Hid (GlobP wr):=HG.out.below hbl
   obtain ⟨hr1,hr2⟩:=start_reach s hs3
   have HR1:=Hid.mk' hr1
   have HR2:=Hid.mk' hr2
   clear HV hr1 hr2
   go_wp2_with (go_at_call 51;refine (reach_any hs4 w'.heap.size ⟨by omega,Nat.le_refl _⟩ 3 0 HV2.out).mono ?_;rintro e w3 ⟨rfl,hv3,hbl3,hsz3,ho3⟩;rw[HR1.out,HR2.out]at hv3;have HV3:=Hid.mk' hv3;clear hv3)
   go_loopg [5] (s.size+1-3) (fun k vp wx=>∃ (p:Nat) (H:Nat→Int) (wg:Bool),vp=.int .i64 p∧p≤s.size∧VStv wx (w'.heap.size+1) w'.heap.size s (bt s 2) H wg∧Below w'.heap.size w' wx∧LookedV s p H wg∧(wg=false→k=s.size+1-p))
   case atStart=>exact ⟨3,firstH,false,rfl,by omega,HV3.out,hbl.trans hbl3,.inr ⟨rfl,[],found_start s (bt s 2)⟩,fun _=>rfl⟩
   case round =>
    clear HV2 HV3 HR1 HR2 hbl3 hsz3 ho3 HG2
    obtain ⟨p,H,wg,rfl,hps,hst,hbl',hlk,hk⟩:=hrel
    have HV:=Hid.mk' hst
    have HL:=Hid.mk' hlk
    have HK:=Hid.mk' hk
    have c3:=hst.c3
    clear hst hlk hk
    cases wg
    case true =>
     have HN:Hid (¬ IsImg s):=(by rcases HL.out with ⟨_,h⟩ | ⟨h,_⟩;exact h;exact absurd h (by decide):¬ IsImg s)
     go_wp2
     go_ret
     exact ⟨hbl',.inr ⟨HN.out,rfl⟩⟩
    case false =>
     have HFo:Hid (∃ l,Found s (bt s 2) H p l):=(by rcases HL.out with ⟨h,_⟩ | ⟨_,h⟩;exact absurd h (by decide);exact h:∃ l,Found s (bt s 2) H p l)
     by_cases hlt:p<s.size
     ·obtain ⟨l,hl⟩:=HFo.out
      have HF:=Hid.mk' hl
      clear hl HFo
      go_wp2_with (go_at_call 52;refine (vlook_any s hs4 p hlt _ w'.heap.size (w'.heap.size+1) w'.heap.size ⟨by omega,Nat.le_refl _⟩ HG.out.size H HV.out (HG.out.below hbl') l HF.out).mono ?_;rintro e w4 ⟨hbl4,nx,H',wg',rfl,hv4,hpn,hns,hlk4⟩;have HV4:=Hid.mk' hv4;have HL4:=Hid.mk' hlk4;clear hv4 hlk4)
      go_roundg (if wg'=true then 0 else s.size+1-nx)
      case measure =>
       have:gk=s.size+1-p:=(by first | exact HK.out rfl | exact HK.out trivial)
       split <;> omega
      case rel=>exact ⟨nx,H',wg',rfl,hns,HV4.out,hbl'.trans hbl4,HL4.out,fun h=>by rw[if_neg (by simp[h])]⟩
     ·have hpe:p=s.size:=by omega
      have HI:Hid (IsImg s):=(by
       obtain ⟨l,hl⟩:=HFo.out
       rw[hpe]at hl
       exact ⟨HH.out,l,hl.chain,H,hl.lawful⟩:IsImg s)
      clear hpe
      go_wp2
      go_ret
      exact ⟨hbl',.inl ⟨HI.out,rfl⟩⟩
def OutIs(s:ByteArray)(x:Itm)(y:Bn)(r:Nat×Int×Nat)(k:Int):Prop :=
 (¬ IsImg s∧r=(0,0,0)∧k=7)∨(IsImg s∧itmB x=false∧r=(0,0,0)∧k=8)∨(IsImg s∧itmB x=true∧bnB y=false∧r=(0,0,0)∧k=9)∨(IsImg s∧itmB x=true∧bnB y=true∧r=runM s x y (s.size+1) 3 [] 0∧k=0)
structure Boxed(w wx:World)(x:Itm)(y:Bn):Prop where
 it:Blk wx w.heap.size #[.int .i64 x.size,.int .i64 x.speed,.int .i64 x.need] 23
 bn:Blk wx (w.heap.size+1) #[.int .i64 y.id,.int .i64 y.zone,.int .i64 y.cap,.int .i64 y.used,.int .i64 y.has] 25
 rs:Blk wx (w.heap.size+1+1) #[.int .i64 0,.int .i64 0,.int .i64 0] 29
 bl:Below w.heap.size w wx
theorem Boxed.below{w wx w':World}{x:Itm}{y:Bn}(h:Boxed w wx x y)(hb:Below wx.heap.size wx w'):Boxed w w' x y :=
 ⟨h.it.below hb h.it.lt,h.bn.below hb h.bn.lt,h.rs.below hb h.rs.lt,h.bl.trans (hb.mono h.bl.size)⟩
theorem boxed_start(w:World)(x:Itm)(y:Bn):Boxed w (((w.alloc (.cells #[.int .i64 x.size,.int .i64 x.speed,.int .i64 x.need] 23)).alloc (.cells #[.int .i64 y.id,.int .i64 y.zone,.int .i64 y.cap,.int .i64 y.used,.int .i64 y.has] 25)).alloc (.cells #[.int .i64 0,.int .i64 0,.int .i64 0] 29)) x y:=by
 refine ⟨((Blk.new w _ _).alloc _).alloc _, ?_, ?_,(((Below.refl _ _).alloc (Nat.le_refl _) _).alloc (by simp) _).alloc (by simp;omega) _⟩
 ·have:=(Blk.new (w.alloc (.cells #[.int .i64 x.size,.int .i64 x.speed,.int .i64 x.need] 23)) #[.int .i64 y.id,.int .i64 y.zone,.int .i64 y.cap,.int .i64 y.used,.int .i64 y.has] 25).alloc (.cells #[.int .i64 0,.int .i64 0,.int .i64 0] 29)
  simpa using this
 ·have:=Blk.new ((w.alloc (.cells #[.int .i64 x.size,.int .i64 x.speed,.int .i64 x.need] 23)).alloc (.cells #[.int .i64 y.id,.int .i64 y.zone,.int .i64 y.cap,.int .i64 y.used,.int .i64 y.has] 25)) #[.int .i64 0,.int .i64 0,.int .i64 0] 29
  simpa using this
theorem img_run{s:ByteArray}(h:IsImg s):∃ l G,Chain s 3 l s.size∧Lawful l (bt s 2) G∧3<s.size∧s.size≤4000:=by
 obtain ⟨hh,l,hc,G,hl⟩:=h
 exact ⟨l,G,hc,hl,hh.1,hh.2.1⟩
set_option maxHeartbeats 2000000 in
set_option maxRecDepth 100000 in
theorem pRun_any(s:ByteArray)(x:Itm)(y:Bn)(w:World)(hg:GlobP w) :
  Calls Tryz.prog 10 #[.string s,itmA x,bnA y] w fun e w'=>Below w.heap.size w w'∧∃ r k,OutIs s x y r k∧e=.returned (.tuple #[resA r,.int .i64 k]):=by
 have HG:=mH hg
 have HX:=mH (boxed_start w x y)
 clear hg
 unfold itmA bnA
 by_cases hi:IsImg s
 case neg =>
  have HI:=mH hi
  clear hi
  go_enter Tryz.func10,Tryz.ntmps10
  go_wp2_with (go_at_call 26;refine (IsImage_any s _ (HG.out.below HX.out.bl)).mono ?_;rintro e w1 ⟨hb1,hor⟩;obtain ⟨_,rfl⟩:=hor.resolve_left (fun h=>HI.out h.1);replace HX:=mH (HX.out.below hb1);have r0:=HX.out.rs.cell 0;have r1:=HX.out.rs.cell 1;have r2:=HX.out.rs.cell 2;have f0:=HX.out.rs.free 0;have f1:=HX.out.rs.free 1;have f2:=HX.out.rs.free 2)
  have hfb:=fin_blk HX.out.rs (.int .i64 0) (.int .i64 0) (.int .i64 0)
  have g0:=hfb.cell 0
  have g1:=hfb.cell 1
  have g2:=hfb.cell 2
  refine bodyPost_ret (v:=.tuple #[.agg #[.int .i64 0,.int .i64 0,.int .i64 0],.int .i64 7]) (by simp[results,Tryz.results10,go_sem,g0,g1,g2]) rfl ⟨?_,_,_,.inl ⟨HI.out,rfl,rfl⟩,rfl⟩
  exact fin_below HX.out.bl (by omega) _ _ _
 have HI:=mH hi
 obtain ⟨l,G,hc,hl,h3,hs4⟩:=img_run hi
 have HC:=mH hc
 have HL:=mH hl
 have H3:=mH h3
 have HS:=mH hs4
 clear hi hc hl h3 hs4
 cases hx:itmB x
 case false =>
  go_enter Tryz.func10,Tryz.ntmps10
  go_wp2_with (first | (go_at_call 26;refine (IsImage_any s _ (HG.out.below HX.out.bl)).mono ?_;rintro e w1 ⟨hb1,hor⟩;obtain ⟨_,rfl⟩:=hor.resolve_right (fun h=>h.1 HI.out);replace HX:=mH (HX.out.below hb1);have i0:=HX.out.it.cell 0;have i1:=HX.out.it.cell 1;have i2:=HX.out.it.cell 2;have b0:=HX.out.bn.cell 0;have b1:=HX.out.bn.cell 1;have b2:=HX.out.bn.cell 2;have b3:=HX.out.bn.cell 3;have b4:=HX.out.bn.cell 4;have r0:=HX.out.rs.cell 0;have r1:=HX.out.rs.cell 1;have r2:=HX.out.rs.cell 2;have f0:=HX.out.rs.free 0;have f1:=HX.out.rs.free 1;have f2:=HX.out.rs.free 2) | (go_at_call 27;refine (pIsItem_any x _).mono ?_;rintro e w2 ⟨rfl,hb2⟩;rw[hx];replace HX:=mH (HX.out.below hb2);have i0:=HX.out.it.cell 0;have i1:=HX.out.it.cell 1;have i2:=HX.out.it.cell 2;have b0:=HX.out.bn.cell 0;have b1:=HX.out.bn.cell 1;have b2:=HX.out.bn.cell 2;have b3:=HX.out.bn.cell 3;have b4:=HX.out.bn.cell 4;have r0:=HX.out.rs.cell 0;have r1:=HX.out.rs.cell 1;have r2:=HX.out.rs.cell 2;have f0:=HX.out.rs.free 0;have f1:=HX.out.rs.free 1;have f2:=HX.out.rs.free 2))
  have hfb:=fin_blk HX.out.rs (.int .i64 0) (.int .i64 0) (.int .i64 0)
  have g0:=hfb.cell 0
  have g1:=hfb.cell 1
  have g2:=hfb.cell 2
  refine bodyPost_ret (v:=.tuple #[.agg #[.int .i64 0,.int .i64 0,.int .i64 0],.int .i64 8]) (by simp[results,Tryz.results10,go_sem,g0,g1,g2]) rfl ⟨?_,_,_,.inr (.inl ⟨HI.out,hx,rfl,rfl⟩),rfl⟩
  exact fin_below HX.out.bl (by omega) _ _ _
 cases hy:bnB y
 case false =>
  go_enter Tryz.func10,Tryz.ntmps10
  go_wp2_with (first | (go_at_call 26;refine (IsImage_any s _ (HG.out.below HX.out.bl)).mono ?_;rintro e w1 ⟨hb1,hor⟩;obtain ⟨_,rfl⟩:=hor.resolve_right (fun h=>h.1 HI.out);replace HX:=mH (HX.out.below hb1);have i0:=HX.out.it.cell 0;have i1:=HX.out.it.cell 1;have i2:=HX.out.it.cell 2;have b0:=HX.out.bn.cell 0;have b1:=HX.out.bn.cell 1;have b2:=HX.out.bn.cell 2;have b3:=HX.out.bn.cell 3;have b4:=HX.out.bn.cell 4;have r0:=HX.out.rs.cell 0;have r1:=HX.out.rs.cell 1;have r2:=HX.out.rs.cell 2;have f0:=HX.out.rs.free 0;have f1:=HX.out.rs.free 1;have f2:=HX.out.rs.free 2) | (go_at_call 27;refine (pIsItem_any x _).mono ?_;rintro e w2 ⟨rfl,hb2⟩;rw[hx];replace HX:=mH (HX.out.below hb2);have i0:=HX.out.it.cell 0;have i1:=HX.out.it.cell 1;have i2:=HX.out.it.cell 2;have b0:=HX.out.bn.cell 0;have b1:=HX.out.bn.cell 1;have b2:=HX.out.bn.cell 2;have b3:=HX.out.bn.cell 3;have b4:=HX.out.bn.cell 4;have r0:=HX.out.rs.cell 0;have r1:=HX.out.rs.cell 1;have r2:=HX.out.rs.cell 2;have f0:=HX.out.rs.free 0;have f1:=HX.out.rs.free 1;have f2:=HX.out.rs.free 2) | (go_at_call 28;refine (pIsBin_any y _).mono ?_;rintro e w3 ⟨rfl,hb3⟩;rw[hy];replace HX:=mH (HX.out.below hb3);have i0:=HX.out.it.cell 0;have i1:=HX.out.it.cell 1;have i2:=HX.out.it.cell 2;have b0:=HX.out.bn.cell 0;have b1:=HX.out.bn.cell 1;have b2:=HX.out.bn.cell 2;have b3:=HX.out.bn.cell 3;have b4:=HX.out.bn.cell 4;have r0:=HX.out.rs.cell 0;have r1:=HX.out.rs.cell 1;have r2:=HX.out.rs.cell 2;have f0:=HX.out.rs.free 0;have f1:=HX.out.rs.free 1;have f2:=HX.out.rs.free 2))
  have hfb:=fin_blk HX.out.rs (.int .i64 0) (.int .i64 0) (.int .i64 0)
  have g0:=hfb.cell 0
  have g1:=hfb.cell 1
  have g2:=hfb.cell 2
  refine bodyPost_ret (v:=.tuple #[.agg #[.int .i64 0,.int .i64 0,.int .i64 0],.int .i64 9]) (by simp[results,Tryz.results10,go_sem,g0,g1,g2]) rfl ⟨?_,_,_,.inr (.inr (.inl ⟨HI.out,hx,hy,rfl,rfl⟩)),rfl⟩
  exact fin_below HX.out.bl (by omega) _ _ _
 case true =>
  obtain ⟨R,hR⟩:∃ R,R=runM s x y (s.size+1) 3 [] 0:=⟨_,rfl⟩
  have HR:Hid (runM s x y (s.size+1) 3 [] 0=R):=hR.symm
  clear hR
  go_enter Tryz.func10,Tryz.ntmps10
  go_wp2_with (first | (go_at_call 26;refine (IsImage_any s _ (HG.out.below HX.out.bl)).mono ?_;rintro e w1 ⟨hb1,hor⟩;obtain ⟨_,rfl⟩:=hor.resolve_right (fun h=>h.1 HI.out);replace HX:=mH (HX.out.below hb1);have i0:=HX.out.it.cell 0;have i1:=HX.out.it.cell 1;have i2:=HX.out.it.cell 2;have b0:=HX.out.bn.cell 0;have b1:=HX.out.bn.cell 1;have b2:=HX.out.bn.cell 2;have b3:=HX.out.bn.cell 3;have b4:=HX.out.bn.cell 4;have r0:=HX.out.rs.cell 0;have r1:=HX.out.rs.cell 1;have r2:=HX.out.rs.cell 2;have f0:=HX.out.rs.free 0;have f1:=HX.out.rs.free 1;have f2:=HX.out.rs.free 2) | (go_at_call 27;refine (pIsItem_any x _).mono ?_;rintro e w2 ⟨rfl,hb2⟩;rw[hx];replace HX:=mH (HX.out.below hb2);have i0:=HX.out.it.cell 0;have i1:=HX.out.it.cell 1;have i2:=HX.out.it.cell 2;have b0:=HX.out.bn.cell 0;have b1:=HX.out.bn.cell 1;have b2:=HX.out.bn.cell 2;have b3:=HX.out.bn.cell 3;have b4:=HX.out.bn.cell 4;have r0:=HX.out.rs.cell 0;have r1:=HX.out.rs.cell 1;have r2:=HX.out.rs.cell 2;have f0:=HX.out.rs.free 0;have f1:=HX.out.rs.free 1;have f2:=HX.out.rs.free 2) | (go_at_call 28;refine (pIsBin_any y _).mono ?_;rintro e w3 ⟨rfl,hb3⟩;rw[hy];replace HX:=mH (HX.out.below hb3);have i0:=HX.out.it.cell 0;have i1:=HX.out.it.cell 1;have i2:=HX.out.it.cell 2;have b0:=HX.out.bn.cell 0;have b1:=HX.out.bn.cell 1;have b2:=HX.out.bn.cell 2;have b3:=HX.out.bn.cell 3;have b4:=HX.out.bn.cell 4;have r0:=HX.out.rs.cell 0;have r1:=HX.out.rs.cell 1;have r2:=HX.out.rs.cell 2;have f0:=HX.out.rs.free 0;have f1:=HX.out.rs.free 1;have f2:=HX.out.rs.free 2) | (go_at_call 29;refine (machineRun_any s HS.out l (bt s 2) (bt_lt s 2) G HC.out HL.out H3.out x y ⟨(itmB_iff x).1 hx,(bnB_iff y).1 hy⟩ _ (HG.out.below HX.out.bl).y).mono ?_;rintro e w4 ⟨hb4,rfl⟩;rw[HR.out];unfold resA;replace HX:=mH (HX.out.below hb4);have i0:=HX.out.it.cell 0;have i1:=HX.out.it.cell 1;have i2:=HX.out.it.cell 2;have b0:=HX.out.bn.cell 0;have b1:=HX.out.bn.cell 1;have b2:=HX.out.bn.cell 2;have b3:=HX.out.bn.cell 3;have b4:=HX.out.bn.cell 4;have r0:=HX.out.rs.cell 0;have r1:=HX.out.rs.cell 1;have r2:=HX.out.rs.cell 2;have f0:=HX.out.rs.free 0;have f1:=HX.out.rs.free 1;have f2:=HX.out.rs.free 2))
  have hfb:=fin_blk HX.out.rs (.int .i64 R.1) (.int .i64 R.2.1) (.int .i64 R.2.2)
  have g0:=hfb.cell 0
  have g1:=hfb.cell 1
  have g2:=hfb.cell 2
  refine bodyPost_ret (v:=.tuple #[.agg #[.int .i64 R.1,.int .i64 R.2.1,.int .i64 R.2.2],.int .i64 0]) (by simp[results,Tryz.results10,go_sem,g0,g1,g2]) rfl ⟨?_,_,_,.inr (.inr (.inr ⟨HI.out,hx,hy,HR.out.symm,rfl⟩)),rfl⟩
  exact fin_below HX.out.bl (by omega) _ _ _
open Go.Deep
structure GoodP(s:ByteArray)(x:Itm)(y:Bn)(say:Nat×Int×Nat)(I:ByteArray):Prop where
 img:IsImg I
 comp:∀ w,GlobT w→GlobB w→Calls Tryz.prog 9 #[.string s] w fun e w'=>e=.returned (.tuple #[.string I,.int .i64 0,.int .i64 0])∧Below w.heap.size w w'
 run:∀ r k,OutIs I x y r k→k=0∧AtMost r say
theorem good_of{s:ByteArray}{x:Itm}{y:Bn}{say:Nat×Int×Nat}{L R:List RSt}(hz:s.size≤maxLen)(h:FineP s.toList x y say L R)(hx:x.Ok)(hy:y.Ok):∃ I,GoodP s x y say I:=by
 refine ⟨bsN (imageC (nodesS 0 (L++R)) (letsS 0 (L++R)) (rulesS 0 (L++R))),(policy_image h.pol h.num h.errs hx hy).img,fun w hg hp=>Compile_known s hz (known_of h.pol h.num h.errs) w hg hp,fun r k ho=>?_⟩
 have hi:=(policy_image h.pol h.num h.errs hx hy).img
 have hx':=(itmB_iff x).2 hx
 have hy':=(bnB_iff y).2 hy
 have:=policy_runs h.pol h.num h.errs hx hy
 rw[h.says]at this
 rcases ho with ⟨a,_⟩ | ⟨_,a,_⟩ | ⟨_,_,a,_⟩ | ⟨_,_,_,a,b⟩
 ·exact absurd hi a
 ·rw[hx']at a;cases a
 ·rw[hy']at a;cases a
 ·rw[a];exact ⟨b,this⟩
theorem Pc.isO{C:Ctx→Prop}{E:Ctx}(hE:C E){t:ByteArray}{b:Nat}{k:Wo}{kd len dep prt st:Nat}{fx:Bool}(h:Pc C t b k kd len dep prt st fx)(hd:dep≤8){p:Nat}(hp:prt≤p):IsO E (some (t.toList,k)) kd p:=by
 intro q hq
 obtain rfl:=Option.some.inj hq
 obtain ⟨d,h1,h2⟩:=h.is
 exact (h2 E hE).mono h.b1 (by omega) hp
abbrev OptP:=Option (ByteArray×Wo)
def toO(o:OptP):Option (Txt×Wo):=o.map (fun p=>(p.1.toList,p.2))
def whT(o:OptP):Txt:=match o with
 | none=>[]
 | some p=>cWhen++32 :: (p.1.toList++[32])
structure WhenIs(C:Ctx→Prop)(T:ByteArray)(K:Nat)(V:Int)(S:Nat)(d:Bool)(T1:ByteArray)(K1:Nat)(V1:Int)(S1:Nat)(d1 a1:Bool)(o:OptP):Prop where
 txt:T1.toList=T.toList++whT o
 len:T1.size≤T.size+62
 is:∀ E,C E→IsO E (toO o) 2 25
 stp:S1≤S+100
 say:(d=true∧K1=K∧V1=V∧S1=S∧d1=true)∨(d=false∧d1=true∧K1=2∧∃ tw kw,o=some (tw,kw)∧kw.flt≠0∧V1=(kw.flt:Int)∧S1=S+kw.steps)∨(d=false∧d1=false∧K1=0∧V1=0∧((o=none∧a1=true∧S1=S)∨∃ tw kw,o=some (tw,kw)∧kw.flt=0∧(kw.v=0∨kw.v=1)∧a1=(kw.v==1)∧S1=S+whenW kw))
def RSay(K:Nat)(V:Int)(S:Nat)(d:Bool)(K2:Nat)(V2:Int)(S2:Nat)(d2:Bool)(r:MadeR):Prop :=
 (d=true∧K2=K∧V2=V∧S2=S∧d2=true)∨(d=false∧d2=true∧∃ c,S2=S+c∧∀ rest,sayO (r.1.map Prod.snd) (r.2.map Prod.snd) rest=(K2,V2,c))∨(d=false∧d2=false∧K2=0∧V2=0∧∃ c,S2=S+c∧∀ rest:Nat×Int×Nat,sayO (r.1.map Prod.snd) (r.2.map Prod.snd) rest=(rest.1,rest.2.1,c+rest.2.2))
structure RuleIs(C:Ctx→Prop)(T:ByteArray)(K:Nat)(V:Int)(S:Nat)(d:Bool)(T2:ByteArray)(K2:Nat)(V2:Int)(S2:Nat)(d2:Bool)(r:MadeR):Prop where
 txt:T2.toList=T.toList++(ruleB (r.1.map Prod.fst) (r.2.map Prod.fst)++[59])
 len:T2.size≤T.size+152
 is:∀ E,C E→IsO E r.1 2 25∧IsO E r.2 1 50
 stp:S2≤S+200
 say:RSay K V S d K2 V2 S2 d2 r
theorem whT_act(o:OptP)(sc:Option Txt):whT o++actB sc=ruleB ((toO o).map Prod.fst) sc:=by
 cases o with
 | none=>rfl
 | some p=>simp[whT,ruleB,toO]
theorem actO_fine{e:Wo}(h:e.flt=0):actO (some e)=(1,e.v,e.steps+1):=by
 show (if e.flt≠0 then _ else _)=_
 rw[if_neg (by simpa using h)]
theorem actO_bad{e:Wo}(h:e.flt≠0):actO (some e)=(2,(e.flt:Int),e.steps):=by
 show (if e.flt≠0 then _ else _)=_
 rw[if_pos h]
section
variable {C:Ctx→Prop} {T T1:ByteArray} {K K1 S S1:Nat} {V V1:Int} {d d1 a1:Bool} {o:OptP}
theorem isO_none{E:Ctx}{kd p:Nat}:IsO E none kd p:=fun q h=>by cases h
theorem WhenIs.skip(h:WhenIs C T K V S d T1 K1 V1 S1 d1 a1 o)(hn:d1=true∨a1=false)(sc:Option (Txt×Wo))(T2:ByteArray)(ht:T2.toList=T1.toList++(actB (sc.map Prod.fst)++[59]))(hl:T2.size≤T1.size+90)(hs:∀ E,C E→IsO E sc 1 50):RuleIs C T K V S d T2 K1 V1 S1 d1 (toO o,sc):=by
 refine ⟨?_,by have:=h.len;omega,fun E hE=>⟨h.is E hE,hs E hE⟩,by have:=h.stp;omega, ?_⟩
 ·rw[ht,h.txt,← whT_act];simp
 ·rcases h.say with h1 | ⟨h1,h2,h3,tw,kw,rfl,h5,h6,h7⟩ | ⟨h1,h2,h3,h4,h5⟩
  ·exact .inl h1
  ·refine .inr (.inl ⟨h1,h2,kw.steps,h7,fun rest=>?_⟩)
   show sayO (some kw) _ rest=_
   unfold sayO
   simp only[if_pos h5,h3,h6]
  ·rcases hn with hn | hn
   ·rw[h2]at hn;cases hn
   ·rcases h5 with ⟨rfl,h6,_⟩ | ⟨tw,kw,rfl,h6,h7,h8,h9⟩
    ·rw[hn]at h6;cases h6
    ·refine .inr (.inr ⟨h1,h2,h3,h4,whenW kw,h9,fun rest=>?_⟩)
     have hv:kw.v=0:=by
      rcases h7 with h | h
      ·exact h
      ·rw[hn,h]at h8;cases h8
     show sayO (some kw) _ rest=_
     unfold sayO
     simp only[if_neg (show ¬ (kw.flt≠0) by simpa using h6),if_pos hv]
theorem WhenIs.act(h:WhenIs C T K V S d T1 K1 V1 S1 d1 a1 o)(hd:d1=false)(ha:a1=true)(sc:Option (Txt×Wo))(T2:ByteArray)(ht:T2.toList=T1.toList++(actB (sc.map Prod.fst)++[59]))(hl:T2.size≤T1.size+90)(hs:∀ E,C E→IsO E sc 1 50)(K2:Nat)(V2:Int)(S2:Nat)(hS2:S2≤100)(hk:actO (sc.map Prod.snd)=(K2,V2,S2)):RuleIs C T K V S d T2 K2 V2 (S1+S2) true (toO o,sc):=by
 refine ⟨?_,by have:=h.len;omega,fun E hE=>⟨h.is E hE,hs E hE⟩,by have:=h.stp;omega, ?_⟩
 ·rw[ht,h.txt,← whT_act];simp
 ·rcases h.say with ⟨_,_,_,_,h1⟩ | ⟨_,h1,_⟩ | ⟨h1,h2,h3,h4,h5⟩
  ·rw[hd]at h1;cases h1
  ·rw[hd]at h1;cases h1
  ·rcases h5 with ⟨rfl,_,h6⟩ | ⟨tw,kw,rfl,h6,h7,h8,h9⟩
   ·refine .inr (.inl ⟨h1,rfl,S2,by rw[h6],fun rest=>?_⟩)
    show actO (sc.map Prod.snd)=_
    exact hk
   ·refine .inr (.inl ⟨h1,rfl,whenW kw+S2,by rw[h9];omega,fun rest=>?_⟩)
    have hv:¬ (kw.v=0):=by
     intro h0
     rw[ha,h0]at h8
     cases h8
    show sayO (some kw) (sc.map Prod.snd) rest=_
    unfold sayO
    simp only[if_neg (show ¬ (kw.flt≠0) by simpa using h6),if_neg hv,hk]
end
theorem rules_one{K2 S2:Nat}{V2:Int}{d2:Bool}{r:MadeR}(h:RSay 0 0 0 false K2 V2 S2 d2 r):rulesO [r]=(K2,V2,if d2 then S2 else S2+1):=by
 show sayO _ _ (0,0,1)=_
 rcases h with ⟨h1,_⟩ | ⟨_,rfl,c,h1,h2⟩ | ⟨_,rfl,rfl,rfl,c,h1,h2⟩
 ·cases h1
 ·rw[h2,h1];simp
 ·rw[h2,h1];simp
theorem rules_two{K1 S1 K2 S2:Nat}{V1 V2:Int}{d1 d2:Bool}{r q:MadeR}(h:RSay 0 0 0 false K1 V1 S1 d1 r)(g:RSay K1 V1 S1 d1 K2 V2 S2 d2 q):rulesO [r,q]=(K2,V2,if d2 then S2 else S2+1):=by
 show sayO _ _ (sayO _ _ (0,0,1))=_
 rcases h with ⟨h1,_⟩ | ⟨_,rfl,c,h1,h2⟩ | ⟨_,rfl,rfl,rfl,c,h1,h2⟩
 ·cases h1
 ·rcases g with ⟨_,rfl,rfl,rfl,rfl⟩ | ⟨g1,_⟩ | ⟨g1,_⟩
  ·rw[h2,h1];simp
  ·cases g1
  ·cases g1
 ·rcases g with ⟨g1,_⟩ | ⟨_,rfl,e,g1,g2⟩ | ⟨_,rfl,rfl,rfl,e,g1,g2⟩
  ·cases g1
  ·rw[h2,g2,g1,h1];simp
  ·rw[h2,g2,g1,h1];simp;omega
structure QuaP(w wx:World)(c1 c2 c3 c4:Array Value):Prop where
 p:Blk wx (w.heap.size) c1 62
 q:Blk wx (w.heap.size+1) c2 62
 o:Blk wx (w.heap.size+1+1) c3 62
 r:Blk wx (w.heap.size+1+1+1) c4 62
 bl:Below w.heap.size w wx
section
variable {w wx w':World} {c1 c2 c3 c4:Array Value}
theorem QuaP.below(h:QuaP w wx c1 c2 c3 c4)(hb:Below wx.heap.size wx w'):QuaP w w' c1 c2 c3 c4 :=
 ⟨h.p.below hb h.p.lt,h.q.below hb h.q.lt,h.o.below hb h.o.lt,h.r.below hb h.r.lt,h.bl.trans (hb.mono h.bl.size)⟩
theorem QuaP.drew(h:QuaP w wx c1 c2 c3 c4):QuaP w wx.drew c1 c2 c3 c4:=⟨h.p,h.q,h.o,h.r,below_drewN h.bl 1⟩
theorem QuaP.setR(h:QuaP w wx c1 c2 c3 c4)(i:Nat)(v:Value):QuaP w (wx.setCell ⟨w.heap.size+1+1+1,i,none⟩ v) c1 c2 c3 (c4.setIfInBounds i v) :=
 ⟨h.p.other _ _ (by simp only;omega),h.q.other _ _ (by simp only;omega),h.o.other _ _ (by simp only;omega),h.r.set i v,h.bl.setCell (p:=⟨w.heap.size+1+1+1,i,none⟩) (by simp only;omega) v⟩
theorem QuaP.setO(h:QuaP w wx c1 c2 c3 c4)(i:Nat)(v:Value):QuaP w (wx.setCell ⟨w.heap.size+1+1,i,none⟩ v) c1 c2 (c3.setIfInBounds i v) c4 :=
 ⟨h.p.other _ _ (by simp only;omega),h.q.other _ _ (by simp only;omega),h.o.set i v,h.r.other _ _ (by simp only;omega),h.bl.setCell (p:=⟨w.heap.size+1+1,i,none⟩) (by simp only;omega) v⟩
theorem QuaP.facts(h:QuaP w wx c1 c2 c3 c4):(∀ i,wx.cell? ⟨w.heap.size,i,none⟩=c1[i]?)∧(∀ i,wx.cell? ⟨w.heap.size+1,i,none⟩=c2[i]?)∧(∀ i,wx.cell? ⟨w.heap.size+1+1,i,none⟩=c3[i]?)∧(∀ i,wx.cell? ⟨w.heap.size+1+1+1,i,none⟩=c4[i]?)∧(∀ i,wx.frozen? ⟨w.heap.size+1+1,i,none⟩=false)∧(∀ i,wx.frozen? ⟨w.heap.size+1+1+1,i,none⟩=false) :=
 ⟨fun i=>h.p.cell i,fun i=>h.q.cell i,fun i=>h.o.cell i,fun i=>h.r.cell i,fun i=>h.o.free i,fun i=>h.r.free i⟩
end
theorem qua_start(w:World)(c1 c2 c3 c4:Array Value):QuaP w ((((w.alloc (.cells c1 62)).alloc (.cells c2 62)).alloc (.cells c3 62)).alloc (.cells c4 62)) c1 c2 c3 c4:=by
 have d:=duo_startP w c1 c2
 have h3:=(((d.box.alloc (.cells c3 62)).alloc (.cells c4 62)))
 have h4:=(((d.res.alloc (.cells c3 62)).alloc (.cells c4 62)))
 have h5:=(Blk.new ((w.alloc (.cells c1 62)).alloc (.cells c2 62)) c3 62).alloc (.cells c4 62)
 have h6:=Blk.new (((w.alloc (.cells c1 62)).alloc (.cells c2 62)).alloc (.cells c3 62)) c4 62
 exact ⟨h3,h4,by simpa using h5,by simpa using h6,(d.bl.alloc (by simp;omega) _).alloc (by simp;omega) _⟩
def finQ6(w wx:World)(a b c d e f:Value):World :=
 (((((wx.setCell ⟨w.heap.size+1+1,0,none⟩ a).setCell ⟨w.heap.size+1+1,1,none⟩ b).setCell ⟨w.heap.size+1+1,2,none⟩ c).setCell ⟨w.heap.size+1+1,3,none⟩ d).setCell ⟨w.heap.size+1+1,4,none⟩ e).setCell ⟨w.heap.size+1+1,5,none⟩ f
theorem QuaP.fin{w wx:World}{c1 c2 c4:Array Value}{z0 z1 z2 z3 z4 z5:Value}(h:QuaP w wx c1 c2 #[z0,z1,z2,z3,z4,z5] c4)(a b c d e f:Value):(∀ i,(finQ6 w wx a b c d e f).cell? ⟨w.heap.size+1+1,i,none⟩=#[a,b,c,d,e,f][i]?)∧Below w.heap.size w (finQ6 w wx a b c d e f):=by
 have g:=(((((h.setO 0 a).setO 1 b).setO 2 c).setO 3 d).setO 4 e).setO 5 f
 exact ⟨g.o.cell,g.bl⟩
theorem QuaP.twelve{w wx:World}{a0 a1 a2 a3 a4 a5 b0 b1 b2 b3 b4 b5:Value}{c3 c4:Array Value}(h:QuaP w wx #[a0,a1,a2,a3,a4,a5] #[b0,b1,b2,b3,b4,b5] c3 c4) :
  wx.cell? ⟨w.heap.size,0,none⟩=some a0∧wx.cell? ⟨w.heap.size,1,none⟩=some a1∧wx.cell? ⟨w.heap.size,2,none⟩=some a2∧wx.cell? ⟨w.heap.size,3,none⟩=some a3∧wx.cell? ⟨w.heap.size,4,none⟩=some a4∧wx.cell? ⟨w.heap.size,5,none⟩=some a5∧wx.cell? ⟨w.heap.size+1,0,none⟩=some b0∧wx.cell? ⟨w.heap.size+1,1,none⟩=some b1∧wx.cell? ⟨w.heap.size+1,2,none⟩=some b2∧wx.cell? ⟨w.heap.size+1,3,none⟩=some b3∧wx.cell? ⟨w.heap.size+1,4,none⟩=some b4∧wx.cell? ⟨w.heap.size+1,5,none⟩=some b5 :=
 ⟨h.p.cell 0,h.p.cell 1,h.p.cell 2,h.p.cell 3,h.p.cell 4,h.p.cell 5,h.q.cell 0,h.q.cell 1,h.q.cell 2,h.q.cell 3,h.q.cell 4,h.q.cell 5⟩
structure TwoT(P Q:Array Value)(o T1 T2:ByteArray)(lv:Nat):Prop where
 t1:∀ wx,Calls Tryz.prog 60 #[.agg P,.int .i64 lv] wx fun e w'=>e=.returned (.string T1)∧Below wx.heap.size wx w'
 t2:∀ wx,Calls Tryz.prog 60 #[.agg Q,.int .i64 ((lv:Int)+1)] wx fun e w'=>e=.returned (.string T2)∧Below wx.heap.size wx w'
 y1:(9223372036854775807<T1.size+1)=False
 y2:(9223372036854775807<T1.size+1+o.size)=False
 y3:(9223372036854775807<T1.size+1+o.size+1)=False
 y4:(9223372036854775807<T1.size+1+o.size+1+T2.size)=False
 wl:IntKind.i64.wrap ((lv:Int)+1)=(lv:Int)+1
theorem twoT_of(o t1 t2:ByteArray)(b1 b2:Nat)(k1 k2:Wo)(lv:Nat)(ho:o.size≤10)(h1:t1.size≤1000)(h2:t2.size≤1000)(hl:lv≤5):TwoT (pcA t1 b1 k1) (pcA t2 b2 k2) o (tiedT t1 b1 lv) (tiedT t2 b2 (lv+1)) lv:=by
 have hsz:∀ (t:ByteArray) (b l:Nat),t.size≤1000→(tiedT t b l).size≤1002:=fun t b l h=>by
  have e1:(⟨#[40]⟩:ByteArray).size=1:=rfl
  have e2:(⟨#[41]⟩:ByteArray).size=1:=rfl
  unfold tiedT;split <;> (try simp only[ByteArray.size_append,e1,e2]) <;> omega
 have y1:=hsz t1 b1 lv h1
 have y2:=hsz t2 b2 (lv+1) h2
 refine ⟨fun wx=>tied_any t1 b1 k1 lv h1 wx,fun wx=>tied_any t2 b2 k2 (lv+1) h2 wx, ?_, ?_, ?_, ?_, ?_⟩
 ·simp;omega
 ·simp;omega
 ·simp;omega
 ·simp;omega
 ·rw[IntWalk.i64_left]
  exact IntWalk.wrap64_in _ ⟨by omega,by omega⟩
end Go.Proofs.YtpcjadaeolkngaaGreatDoor
