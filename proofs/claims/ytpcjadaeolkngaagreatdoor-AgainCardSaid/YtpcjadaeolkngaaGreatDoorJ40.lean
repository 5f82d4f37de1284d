/-
  Pieces: turned.
-/
import Derived.Test.YtpcjadaeolkngaaGreatDoorJ39
import Derived.Deep.RegionWith
set_option linter.unusedVariables false
set_option linter.unusedSimpArgs false
namespace Go.Proofs.YtpcjadaeolkngaaGreatDoor
open Go.RowKit
theorem DuoP.drew{w wx:World}{c1 c2:Array Value}(h:DuoP w wx c1 c2):DuoP w wx.drew c1 c2:=⟨h.box,h.res,below_drewN h.bl 1⟩
theorem DuoP.six{w wx:World}{a0 a1 a2 a3 a4 a5:Value}{c2:Array Value}(h:DuoP w wx #[a0,a1,a2,a3,a4,a5] c2) :
  wx.cell? ⟨w.heap.size,0,none⟩=some a0∧wx.cell? ⟨w.heap.size,1,none⟩=some a1∧wx.cell? ⟨w.heap.size,2,none⟩=some a2∧wx.cell? ⟨w.heap.size,3,none⟩=some a3∧wx.cell? ⟨w.heap.size,4,none⟩=some a4∧wx.cell? ⟨w.heap.size,5,none⟩=some a5 :=
 ⟨h.box.cell 0,h.box.cell 1,h.box.cell 2,h.box.cell 3,h.box.cell 4,h.box.cell 5⟩
theorem below_six{B:Nat}{w wx:World}(h:Below B w wx)(b:Nat)(hb:B≤b)(a0 a1 a2 a3 a4 a5:Value):Below B w ((((((wx.setCell ⟨b,0,none⟩ a0).setCell ⟨b,1,none⟩ a1).setCell ⟨b,2,none⟩ a2).setCell ⟨b,3,none⟩ a3).setCell ⟨b,4,none⟩ a4).setCell ⟨b,5,none⟩ a5) :=
 (((((h.setCell (p:=⟨b,0,none⟩) hb a0).setCell (p:=⟨b,1,none⟩) hb a1).setCell (p:=⟨b,2,none⟩) hb a2).setCell (p:=⟨b,3,none⟩) hb a3).setCell (p:=⟨b,4,none⟩) hb a4).setCell (p:=⟨b,5,none⟩) hb a5
theorem below_new6(w:World)(o:Obj)(a0 a1 a2 a3 a4 a5:Value):Below w.heap.size w (((((((w.alloc o).setCell ⟨w.heap.size,0,none⟩ a0).setCell ⟨w.heap.size,1,none⟩ a1).setCell ⟨w.heap.size,2,none⟩ a2).setCell ⟨w.heap.size,3,none⟩ a3).setCell ⟨w.heap.size,4,none⟩ a4).setCell ⟨w.heap.size,5,none⟩ a5) :=
 below_six ((Below.refl _ w).alloc (Nat.le_refl _) o) _ (Nat.le_refl _) a0 a1 a2 a3 a4 a5
theorem DuoP.farther{w wx:World}{c1 c2:Array Value}(h:DuoP w wx c1 c2)(b i:Nat)(v:Value)(hb:w.heap.size+1<b):DuoP w (wx.setCell ⟨b,i,none⟩ v) c1 c2 :=
 ⟨h.box.other _ _ (by simp only;omega),h.res.other _ _ (by simp only;omega),h.bl.setCell (p:=⟨b,i,none⟩) (by simp only;omega) v⟩
theorem DuoP.set6{w wx:World}{c1 c2:Array Value}(h:DuoP w wx c1 c2)(b:Nat)(hb:w.heap.size+1<b)(a0 a1 a2 a3 a4 a5:Value):DuoP w ((((((wx.setCell ⟨b,0,none⟩ a0).setCell ⟨b,1,none⟩ a1).setCell ⟨b,2,none⟩ a2).setCell ⟨b,3,none⟩ a3).setCell ⟨b,4,none⟩ a4).setCell ⟨b,5,none⟩ a5) c1 c2 :=
 (((((h.farther b 0 a0 hb).farther b 1 a1 hb).farther b 2 a2 hb).farther b 3 a3 hb).farther b 4 a4 hb).farther b 5 a5 hb
structure TriP(w wx:World)(rb:Nat)(c1 c2 c3:Array Value):Prop where
 du:DuoP w wx c1 c2
 rr:Blk wx rb c3 62
 far:w.heap.size+1<rb
theorem TriP.setR{w wx:World}{rb:Nat}{c1 c2 c3:Array Value}(h:TriP w wx rb c1 c2 c3)(i:Nat)(v:Value):TriP w (wx.setCell ⟨rb,i,none⟩ v) rb c1 c2 (c3.setIfInBounds i v) :=
 ⟨h.du.farther rb i v h.far,h.rr.set i v,h.far⟩
theorem TriP.below{w wx w':World}{rb:Nat}{c1 c2 c3:Array Value}(h:TriP w wx rb c1 c2 c3)(hb:Below wx.heap.size wx w'):TriP w w' rb c1 c2 c3 :=
 ⟨h.du.below hb,h.rr.below hb h.rr.lt,h.far⟩
theorem TriP.out{w wx:World}{rb:Nat}{c1 c2 c3:Array Value}(h:TriP w wx rb c1 c2 c3):(∀ i,wx.cell? ⟨w.heap.size,i,none⟩=c1[i]?)∧(∀ i,wx.cell? ⟨w.heap.size+1,i,none⟩=c2[i]?)∧(∀ i,wx.cell? ⟨rb,i,none⟩=c3[i]?)∧(∀ i,wx.frozen? ⟨w.heap.size+1,i,none⟩=false)∧(∀ i,wx.frozen? ⟨rb,i,none⟩=false) :=
 ⟨fun i=>h.du.box.cell i,fun i=>h.du.res.cell i,fun i=>h.rr.cell i,fun i=>h.du.res.free i,fun i=>h.rr.free i⟩
theorem TriP.nes{w wx:World}{rb:Nat}{c1 c2 c3:Array Value}(h:TriP w wx rb c1 c2 c3):rb≠w.heap.size∧rb≠w.heap.size+1∧w.heap.size≠rb∧w.heap.size+1≠rb:=by
 have:=h.far
 omega
set_option maxHeartbeats 4000000 in
set_option maxRecDepth 100000 in
theorem turned_not0(o t:ByteArray)(b:Nat)(flt steps:Nat)(fix:Bool)(ho:o.size≤10)(hz:t.size≤1000)(hs:steps≤10000)(hob:(o.toList==[110,111,116,32])=true)(w:World) :
  Calls Tryz.prog 38 #[.string o,.agg #[.string t,.int .i64 b,.int .i64 0,.int .i64 flt,.int .i64 steps,.bool fix]] w fun e w'=>e=.returned (pcV (o++tiedT t b 6) 6 (oneW 9 ⟨0,flt,steps,fix⟩))∧Below w.heap.size w w':=by
 have HTZ:=mH hz
 have zz:(9223372036854775807<o.size+(tiedT t b 6).size)=False:=by
  have e1:(⟨#[40]⟩:ByteArray).size=1:=rfl
  have e2:(⟨#[41]⟩:ByteArray).size=1:=rfl
  have:(tiedT t b 6).size≤1002:=by unfold tiedT;split <;> (try simp only[ByteArray.size_append,e1,e2]) <;> omega
  simp;omega
 clear ho hz
 obtain ⟨K,hK⟩:∃ K,K=settleW ⟨1,0,steps+1,fix⟩:=⟨_,rfl⟩
 have HRES:Hid (oneW 9 ⟨0,0,steps,fix⟩=K):=by
  rw[Hid,hK]
  unfold oneW;rw[if_neg (by simp)];rfl
 have HSE:Hid (∀ wx,Calls Tryz.prog 62 #[.agg #[.string (o++tiedT t b 6),.int .i64 6,.int .i64 1,.int .i64 0,.int .i64 ((steps:Int)+1),.bool fix]] wx fun e w'=>e=.returned (pcV (o++tiedT t b 6) 6 K)∧Below wx.heap.size wx w'):=fun wx=>by
  rw[hK]
  exact settled_any (o++tiedT t b 6) 6 ⟨1,0,steps+1,fix⟩ wx
 clear hK
 go_enter Tryz.func38,Tryz.ntmps38
 go_upto_region 1 with fail
 have HT:=mH (duo_startP w #[.string t,.int .i64 b,.int .i64 0,.int .i64 flt,.int .i64 steps,.bool fix] #[.string { data:=#[] },.int .i64 0,.int .i64 0,.int .i64 0,.int .i64 0,.bool false])
 generalize (w.alloc (.cells #[.string t,.int .i64 b,.int .i64 0,.int .i64 flt,.int .i64 steps,.bool fix] 62)).alloc (.cells #[.string { data:=#[] },.int .i64 0,.int .i64 0,.int .i64 0,.int .i64 0,.bool false] 62)=W at HT ⊢
 have HSZ:Hid (w.heap.size+1<W.heap.size):=HT.out.res.lt
 go_cut [5] (fun s5 wx=>∃ rb:Nat,s5=.pointer (some ⟨rb,0,none⟩)∧TriP w wx rb #[.string t,.int .i64 b,.int .i64 0,.int .i64 flt,.int .i64 steps,.bool fix] #[.string { data:=#[] },.int .i64 0,.int .i64 0,.int .i64 0,.int .i64 0,.bool false] #[.string (o++tiedT t b 6),.int .i64 6,.int .i64 0,.int .i64 flt,.int .i64 steps,.bool fix])
 case first =>
  go_region_held3 (fun w'=>w'.cell? ⟨w.heap.size,0,none⟩=some (.string t)∧w'.cell? ⟨w.heap.size,1,none⟩=some (.int .i64 b)∧w'.cell? ⟨w.heap.size,2,none⟩=some (.int .i64 0)∧w'.cell? ⟨w.heap.size,3,none⟩=some (.int .i64 flt)∧w'.cell? ⟨w.heap.size,4,none⟩=some (.int .i64 steps)∧w'.cell? ⟨w.heap.size,5,none⟩=some (.bool fix)) (first | with_reducible exact HT.out.drew.six | with_reducible exact HT.out.six | with_reducible exact (HT.out.below (box3 _ _)).drew.six | with_reducible exact (HT.out.below (box3 _ _)).six | with_reducible exact (HT.out.below (below_new6 _ _ _ _ _ _ _ _)).six | with_reducible exact (HT.out.set6 _ HSZ.out _ _ _ _ _ _).six) (first | (go_at_call 60;refine (tied_any t b ⟨0,flt,steps,fix⟩ 6 HTZ.out _).mono ?_;rintro e w1 ⟨rfl,hb1⟩;replace HT:=mH (HT.out.drew.below hb1);clear hb1) | (go_at_call 60;refine (tied_any t b ⟨0,flt,steps,fix⟩ 6 HTZ.out _).mono ?_;rintro e w1 ⟨rfl,hb1⟩;have hR:=(Blk.new _ _ _).drew.below hb1 (by simp);(try simp at hR);have r0:=hR.cell 0;have f0:=hR.free 0;have r1:=hR.cell 1;have f1:=hR.free 1;have r2:=hR.cell 2;have f2:=hR.free 2;have r3:=hR.cell 3;have f3:=hR.free 3;have r4:=hR.cell 4;have f4:=hR.free 4;have r5:=hR.cell 5;have f5:=hR.free 5;have HR:=mH hR;clear hR;replace HT:=mH ((HT.out.drew.below (box3 _ _)).below hb1);clear hb1))
  ·have HF:=TriP.mk (HT.out.below (box3 _ (Obj.cells #[.string (o++tiedT t b 6),.int .i64 6,.int .i64 0,.int .i64 flt,.int .i64 steps,.bool fix] 62))) (Blk.new w1 _ _) HT.out.res.lt
   go_wp2_with fail
   go_meet
   case rel=>exact ⟨_,rfl,HF⟩
  ·have HF:=TriP.mk (HT.out.set6 W.heap.size HSZ.out (.string (o++tiedT t b 6)) (.int .i64 6) (.int .i64 0) (.int .i64 flt) (.int .i64 steps) (.bool fix)) ((((((HR.out.set 0 (.string (o++tiedT t b 6))).set 1 (.int .i64 6)).set 2 (.int .i64 0)).set 3 (.int .i64 flt)).set 4 (.int .i64 steps)).set 5 (.bool fix)) HSZ.out
   simp only[List.setIfInBounds_toArray,List.set_cons_zero,List.set_cons_succ]at HF
   go_wp2_with fail
   go_meet
   case rel=>exact ⟨_,rfl,HF⟩
 case rest =>
  obtain ⟨rb,rfl,hF⟩:=hcut
  clear HT HSZ
  have HF:=mH hF
  obtain ⟨k1,k2,k3,k4,k5⟩:=hF.out
  obtain ⟨n0,n1,m0,m1⟩:=hF.nes
  clear hF
  by_cases hf:flt=0
  case neg =>
   have hf':((flt:Int) != 0)=true:=by simp;omega
   go_wp2
   obtain ⟨hfb,hbl⟩:=HF.out.du.fin (.string (o++tiedT t b 6)) (.int .i64 6) (.int .i64 0) (.int .i64 flt) (.int .i64 steps) (.bool fix)
   have g0:=hfb.cell 0
   have g1:=hfb.cell 1
   have g2:=hfb.cell 2
   have g3:=hfb.cell 3
   have g4:=hfb.cell 4
   have g5:=hfb.cell 5
   unfold finP at g0 g1 g2 g3 g4 g5 hbl
   exact bodyPost_ret (v:=.agg #[.string (o++tiedT t b 6),.int .i64 6,.int .i64 0,.int .i64 flt,.int .i64 steps,.bool fix]) (by simp[results,Tryz.results38,go_sem,g0,g1,g2,g3,g4,g5]) rfl ⟨by unfold oneW;rw[if_pos hf];rfl,hbl⟩
  case pos =>
   subst hf
   obtain ⟨sv,sf,ss,sx⟩:=K
   go_wp2_with (go_at_call 62;refine (HSE.out _).mono ?_;rintro e w2 ⟨rfl,hb2⟩;unfold pcV pcA;replace HF:=mH (((HF.out.setR 4 (.int .i64 ((steps:Int)+1))).setR 2 (.int .i64 1)).below hb2);clear hb2 k1 k2 k3 k4 k5;obtain ⟨k1,k2,k3,k4,k5⟩:=HF.out.out)
   obtain ⟨hfb,hbl⟩:=HF.out.du.fin (.string (o++tiedT t b 6)) (.int .i64 6) (.int .i64 sv) (.int .i64 sf) (.int .i64 ss) (.bool sx)
   have g0:=hfb.cell 0
   have g1:=hfb.cell 1
   have g2:=hfb.cell 2
   have g3:=hfb.cell 3
   have g4:=hfb.cell 4
   have g5:=hfb.cell 5
   unfold finP at g0 g1 g2 g3 g4 g5 hbl
   exact bodyPost_ret (v:=.agg #[.string (o++tiedT t b 6),.int .i64 6,.int .i64 sv,.int .i64 sf,.int .i64 ss,.bool sx]) (by simp[results,Tryz.results38,go_sem,g0,g1,g2,g3,g4,g5]) rfl ⟨by rw[HRES.out];rfl,hbl⟩
set_option maxHeartbeats 4000000 in
set_option maxRecDepth 100000 in
theorem turned_not1(o t:ByteArray)(b:Nat)(flt steps:Nat)(fix:Bool)(ho:o.size≤10)(hz:t.size≤1000)(hs:steps≤10000)(hob:(o.toList==[110,111,116,32])=true)(w:World) :
  Calls Tryz.prog 38 #[.string o,.agg #[.string t,.int .i64 b,.int .i64 1,.int .i64 flt,.int .i64 steps,.bool fix]] w fun e w'=>e=.returned (pcV (o++tiedT t b 6) 6 (oneW 9 ⟨1,flt,steps,fix⟩))∧Below w.heap.size w w':=by
 have HTZ:=mH hz
 have zz:(9223372036854775807<o.size+(tiedT t b 6).size)=False:=by
  have e1:(⟨#[40]⟩:ByteArray).size=1:=rfl
  have e2:(⟨#[41]⟩:ByteArray).size=1:=rfl
  have:(tiedT t b 6).size≤1002:=by unfold tiedT;split <;> (try simp only[ByteArray.size_append,e1,e2]) <;> omega
  simp;omega
 clear ho hz
 obtain ⟨K,hK⟩:∃ K,K=settleW ⟨0,0,steps+1,fix⟩:=⟨_,rfl⟩
 have HRES:Hid (oneW 9 ⟨1,0,steps,fix⟩=K):=by
  rw[Hid,hK]
  unfold oneW;rw[if_neg (by simp)];rfl
 have HSE:Hid (∀ wx,Calls Tryz.prog 62 #[.agg #[.string (o++tiedT t b 6),.int .i64 6,.int .i64 0,.int .i64 0,.int .i64 ((steps:Int)+1),.bool fix]] wx fun e w'=>e=.returned (pcV (o++tiedT t b 6) 6 K)∧Below wx.heap.size wx w'):=fun wx=>by
  rw[hK]
  exact settled_any (o++tiedT t b 6) 6 ⟨0,0,steps+1,fix⟩ wx
 clear hK
 go_enter Tryz.func38,Tryz.ntmps38
 go_upto_region 1 with fail
 have HT:=mH (duo_startP w #[.string t,.int .i64 b,.int .i64 1,.int .i64 flt,.int .i64 steps,.bool fix] #[.string { data:=#[] },.int .i64 0,.int .i64 0,.int .i64 0,.int .i64 0,.bool false])
 generalize (w.alloc (.cells #[.string t,.int .i64 b,.int .i64 1,.int .i64 flt,.int .i64 steps,.bool fix] 62)).alloc (.cells #[.string { data:=#[] },.int .i64 0,.int .i64 0,.int .i64 0,.int .i64 0,.bool false] 62)=W at HT ⊢
 have HSZ:Hid (w.heap.size+1<W.heap.size):=HT.out.res.lt
 go_cut [5] (fun s5 wx=>∃ rb:Nat,s5=.pointer (some ⟨rb,0,none⟩)∧TriP w wx rb #[.string t,.int .i64 b,.int .i64 1,.int .i64 flt,.int .i64 steps,.bool fix] #[.string { data:=#[] },.int .i64 0,.int .i64 0,.int .i64 0,.int .i64 0,.bool false] #[.string (o++tiedT t b 6),.int .i64 6,.int .i64 0,.int .i64 flt,.int .i64 steps,.bool fix])
 case first =>
  go_region_held3 (fun w'=>w'.cell? ⟨w.heap.size,0,none⟩=some (.string t)∧w'.cell? ⟨w.heap.size,1,none⟩=some (.int .i64 b)∧w'.cell? ⟨w.heap.size,2,none⟩=some (.int .i64 1)∧w'.cell? ⟨w.heap.size,3,none⟩=some (.int .i64 flt)∧w'.cell? ⟨w.heap.size,4,none⟩=some (.int .i64 steps)∧w'.cell? ⟨w.heap.size,5,none⟩=some (.bool fix)) (first | with_reducible exact HT.out.drew.six | with_reducible exact HT.out.six | with_reducible exact (HT.out.below (box3 _ _)).drew.six | with_reducible exact (HT.out.below (box3 _ _)).six | with_reducible exact (HT.out.below (below_new6 _ _ _ _ _ _ _ _)).six | with_reducible exact (HT.out.set6 _ HSZ.out _ _ _ _ _ _).six) (first | (go_at_call 60;refine (tied_any t b ⟨1,flt,steps,fix⟩ 6 HTZ.out _).mono ?_;rintro e w1 ⟨rfl,hb1⟩;replace HT:=mH (HT.out.drew.below hb1);clear hb1) | (go_at_call 60;refine (tied_any t b ⟨1,flt,steps,fix⟩ 6 HTZ.out _).mono ?_;rintro e w1 ⟨rfl,hb1⟩;have hR:=(Blk.new _ _ _).drew.below hb1 (by simp);(try simp at hR);have r0:=hR.cell 0;have f0:=hR.free 0;have r1:=hR.cell 1;have f1:=hR.free 1;have r2:=hR.cell 2;have f2:=hR.free 2;have r3:=hR.cell 3;have f3:=hR.free 3;have r4:=hR.cell 4;have f4:=hR.free 4;have r5:=hR.cell 5;have f5:=hR.free 5;have HR:=mH hR;clear hR;replace HT:=mH ((HT.out.drew.below (box3 _ _)).below hb1);clear hb1))
  ·have HF:=TriP.mk (HT.out.below (box3 _ (Obj.cells #[.string (o++tiedT t b 6),.int .i64 6,.int .i64 0,.int .i64 flt,.int .i64 steps,.bool fix] 62))) (Blk.new w1 _ _) HT.out.res.lt
   go_wp2_with fail
   go_meet
   case rel=>exact ⟨_,rfl,HF⟩
  ·have HF:=TriP.mk (HT.out.set6 W.heap.size HSZ.out (.string (o++tiedT t b 6)) (.int .i64 6) (.int .i64 0) (.int .i64 flt) (.int .i64 steps) (.bool fix)) ((((((HR.out.set 0 (.string (o++tiedT t b 6))).set 1 (.int .i64 6)).set 2 (.int .i64 0)).set 3 (.int .i64 flt)).set 4 (.int .i64 steps)).set 5 (.bool fix)) HSZ.out
   simp only[List.setIfInBounds_toArray,List.set_cons_zero,List.set_cons_succ]at HF
   go_wp2_with fail
   go_meet
   case rel=>exact ⟨_,rfl,HF⟩
 case rest =>
  obtain ⟨rb,rfl,hF⟩:=hcut
  clear HT HSZ
  have HF:=mH hF
  obtain ⟨k1,k2,k3,k4,k5⟩:=hF.out
  obtain ⟨n0,n1,m0,m1⟩:=hF.nes
  clear hF
  by_cases hf:flt=0
  case neg =>
   have hf':((flt:Int) != 0)=true:=by simp;omega
   go_wp2
   obtain ⟨hfb,hbl⟩:=HF.out.du.fin (.string (o++tiedT t b 6)) (.int .i64 6) (.int .i64 0) (.int .i64 flt) (.int .i64 steps) (.bool fix)
   have g0:=hfb.cell 0
   have g1:=hfb.cell 1
   have g2:=hfb.cell 2
   have g3:=hfb.cell 3
   have g4:=hfb.cell 4
   have g5:=hfb.cell 5
   unfold finP at g0 g1 g2 g3 g4 g5 hbl
   exact bodyPost_ret (v:=.agg #[.string (o++tiedT t b 6),.int .i64 6,.int .i64 0,.int .i64 flt,.int .i64 steps,.bool fix]) (by simp[results,Tryz.results38,go_sem,g0,g1,g2,g3,g4,g5]) rfl ⟨by unfold oneW;rw[if_pos hf];rfl,hbl⟩
  case pos =>
   subst hf
   obtain ⟨sv,sf,ss,sx⟩:=K
   go_wp2_with (go_at_call 62;refine (HSE.out _).mono ?_;rintro e w2 ⟨rfl,hb2⟩;unfold pcV pcA;replace HF:=mH (((HF.out.setR 4 (.int .i64 ((steps:Int)+1))).setR 2 (.int .i64 0)).below hb2);clear hb2 k1 k2 k3 k4 k5;obtain ⟨k1,k2,k3,k4,k5⟩:=HF.out.out)
   obtain ⟨hfb,hbl⟩:=HF.out.du.fin (.string (o++tiedT t b 6)) (.int .i64 6) (.int .i64 sv) (.int .i64 sf) (.int .i64 ss) (.bool sx)
   have g0:=hfb.cell 0
   have g1:=hfb.cell 1
   have g2:=hfb.cell 2
   have g3:=hfb.cell 3
   have g4:=hfb.cell 4
   have g5:=hfb.cell 5
   unfold finP at g0 g1 g2 g3 g4 g5 hbl
   exact bodyPost_ret (v:=.agg #[.string (o++tiedT t b 6),.int .i64 6,.int .i64 sv,.int .i64 sf,.int .i64 ss,.bool sx]) (by simp[results,Tryz.results38,go_sem,g0,g1,g2,g3,g4,g5]) rfl ⟨by rw[HRES.out];rfl,hbl⟩
set_option maxHeartbeats 4000000 in
set_option maxRecDepth 100000 in
theorem turned_least(o t:ByteArray)(b:Nat)(flt steps:Nat)(fix:Bool)(ho:o.size≤10)(hz:t.size≤1000)(hs:steps≤10000)(hob:(o.toList==[110,111,116,32])=false)(w:World) :
  Calls Tryz.prog 38 #[.string o,.agg #[.string t,.int .i64 b,.int .i64 (-9223372036854775808),.int .i64 flt,.int .i64 steps,.bool fix]] w fun e w'=>e=.returned (pcV (o++tiedT t b 6) 6 (oneW 28 ⟨(-9223372036854775808),flt,steps,fix⟩))∧Below w.heap.size w w':=by
 have HTZ:=mH hz
 have zz:(9223372036854775807<o.size+(tiedT t b 6).size)=False:=by
  have e1:(⟨#[40]⟩:ByteArray).size=1:=rfl
  have e2:(⟨#[41]⟩:ByteArray).size=1:=rfl
  have:(tiedT t b 6).size≤1002:=by unfold tiedT;split <;> (try simp only[ByteArray.size_append,e1,e2]) <;> omega
  simp;omega
 clear ho hz
 obtain ⟨K,hK⟩:∃ K,K=settleW ⟨0,1,steps+1,fix⟩:=⟨_,rfl⟩
 have HRES:Hid (oneW 28 ⟨(-9223372036854775808),0,steps,fix⟩=K):=by
  rw[Hid,hK]
  unfold oneW;rw[if_neg (by simp)];rfl
 have HSE:Hid (∀ wx,Calls Tryz.prog 62 #[.agg #[.string (o++tiedT t b 6),.int .i64 6,.int .i64 0,.int .i64 1,.int .i64 ((steps:Int)+1),.bool fix]] wx fun e w'=>e=.returned (pcV (o++tiedT t b 6) 6 K)∧Below wx.heap.size wx w'):=fun wx=>by
  rw[hK]
  exact settled_any (o++tiedT t b 6) 6 ⟨0,1,steps+1,fix⟩ wx
 clear hK
 go_enter Tryz.func38,Tryz.ntmps38
 go_upto_region 1 with fail
 have HT:=mH (duo_startP w #[.string t,.int .i64 b,.int .i64 (-9223372036854775808),.int .i64 flt,.int .i64 steps,.bool fix] #[.string { data:=#[] },.int .i64 0,.int .i64 0,.int .i64 0,.int .i64 0,.bool false])
 generalize (w.alloc (.cells #[.string t,.int .i64 b,.int .i64 (-9223372036854775808),.int .i64 flt,.int .i64 steps,.bool fix] 62)).alloc (.cells #[.string { data:=#[] },.int .i64 0,.int .i64 0,.int .i64 0,.int .i64 0,.bool false] 62)=W at HT ⊢
 have HSZ:Hid (w.heap.size+1<W.heap.size):=HT.out.res.lt
 go_cut [5] (fun s5 wx=>∃ rb:Nat,s5=.pointer (some ⟨rb,0,none⟩)∧TriP w wx rb #[.string t,.int .i64 b,.int .i64 (-9223372036854775808),.int .i64 flt,.int .i64 steps,.bool fix] #[.string { data:=#[] },.int .i64 0,.int .i64 0,.int .i64 0,.int .i64 0,.bool false] #[.string (o++tiedT t b 6),.int .i64 6,.int .i64 0,.int .i64 flt,.int .i64 steps,.bool fix])
 case first =>
  go_region_held3 (fun w'=>w'.cell? ⟨w.heap.size,0,none⟩=some (.string t)∧w'.cell? ⟨w.heap.size,1,none⟩=some (.int .i64 b)∧w'.cell? ⟨w.heap.size,2,none⟩=some (.int .i64 (-9223372036854775808))∧w'.cell? ⟨w.heap.size,3,none⟩=some (.int .i64 flt)∧w'.cell? ⟨w.heap.size,4,none⟩=some (.int .i64 steps)∧w'.cell? ⟨w.heap.size,5,none⟩=some (.bool fix)) (first | with_reducible exact HT.out.drew.six | with_reducible exact HT.out.six | with_reducible exact (HT.out.below (box3 _ _)).drew.six | with_reducible exact (HT.out.below (box3 _ _)).six | with_reducible exact (HT.out.below (below_new6 _ _ _ _ _ _ _ _)).six | with_reducible exact (HT.out.set6 _ HSZ.out _ _ _ _ _ _).six) (first | (go_at_call 60;refine (tied_any t b ⟨(-9223372036854775808),flt,steps,fix⟩ 6 HTZ.out _).mono ?_;rintro e w1 ⟨rfl,hb1⟩;replace HT:=mH (HT.out.drew.below hb1);clear hb1) | (go_at_call 60;refine (tied_any t b ⟨(-9223372036854775808),flt,steps,fix⟩ 6 HTZ.out _).mono ?_;rintro e w1 ⟨rfl,hb1⟩;have hR:=(Blk.new _ _ _).drew.below hb1 (by simp);(try simp at hR);have r0:=hR.cell 0;have f0:=hR.free 0;have r1:=hR.cell 1;have f1:=hR.free 1;have r2:=hR.cell 2;have f2:=hR.free 2;have r3:=hR.cell 3;have f3:=hR.free 3;have r4:=hR.cell 4;have f4:=hR.free 4;have r5:=hR.cell 5;have f5:=hR.free 5;have HR:=mH hR;clear hR;replace HT:=mH ((HT.out.drew.below (box3 _ _)).below hb1);clear hb1))
  ·have HF:=TriP.mk (HT.out.below (box3 _ (Obj.cells #[.string (o++tiedT t b 6),.int .i64 6,.int .i64 0,.int .i64 flt,.int .i64 steps,.bool fix] 62))) (Blk.new w1 _ _) HT.out.res.lt
   go_wp2_with fail
   go_meet
   case rel=>exact ⟨_,rfl,HF⟩
  ·have HF:=TriP.mk (HT.out.set6 W.heap.size HSZ.out (.string (o++tiedT t b 6)) (.int .i64 6) (.int .i64 0) (.int .i64 flt) (.int .i64 steps) (.bool fix)) ((((((HR.out.set 0 (.string (o++tiedT t b 6))).set 1 (.int .i64 6)).set 2 (.int .i64 0)).set 3 (.int .i64 flt)).set 4 (.int .i64 steps)).set 5 (.bool fix)) HSZ.out
   simp only[List.setIfInBounds_toArray,List.set_cons_zero,List.set_cons_succ]at HF
   go_wp2_with fail
   go_meet
   case rel=>exact ⟨_,rfl,HF⟩
 case rest =>
  obtain ⟨rb,rfl,hF⟩:=hcut
  clear HT HSZ
  have HF:=mH hF
  obtain ⟨k1,k2,k3,k4,k5⟩:=hF.out
  obtain ⟨n0,n1,m0,m1⟩:=hF.nes
  clear hF
  by_cases hf:flt=0
  case neg =>
   have hf':((flt:Int) != 0)=true:=by simp;omega
   go_wp2
   obtain ⟨hfb,hbl⟩:=HF.out.du.fin (.string (o++tiedT t b 6)) (.int .i64 6) (.int .i64 0) (.int .i64 flt) (.int .i64 steps) (.bool fix)
   have g0:=hfb.cell 0
   have g1:=hfb.cell 1
   have g2:=hfb.cell 2
   have g3:=hfb.cell 3
   have g4:=hfb.cell 4
   have g5:=hfb.cell 5
   unfold finP at g0 g1 g2 g3 g4 g5 hbl
   exact bodyPost_ret (v:=.agg #[.string (o++tiedT t b 6),.int .i64 6,.int .i64 0,.int .i64 flt,.int .i64 steps,.bool fix]) (by simp[results,Tryz.results38,go_sem,g0,g1,g2,g3,g4,g5]) rfl ⟨by unfold oneW;rw[if_pos hf];rfl,hbl⟩
  case pos =>
   subst hf
   obtain ⟨sv,sf,ss,sx⟩:=K
   go_wp2_with (go_at_call 62;refine (HSE.out _).mono ?_;rintro e w2 ⟨rfl,hb2⟩;unfold pcV pcA;replace HF:=mH (((HF.out.setR 4 (.int .i64 ((steps:Int)+1))).setR 3 (.int .i64 1)).below hb2);clear hb2 k1 k2 k3 k4 k5;obtain ⟨k1,k2,k3,k4,k5⟩:=HF.out.out)
   obtain ⟨hfb,hbl⟩:=HF.out.du.fin (.string (o++tiedT t b 6)) (.int .i64 6) (.int .i64 sv) (.int .i64 sf) (.int .i64 ss) (.bool sx)
   have g0:=hfb.cell 0
   have g1:=hfb.cell 1
   have g2:=hfb.cell 2
   have g3:=hfb.cell 3
   have g4:=hfb.cell 4
   have g5:=hfb.cell 5
   unfold finP at g0 g1 g2 g3 g4 g5 hbl
   exact bodyPost_ret (v:=.agg #[.string (o++tiedT t b 6),.int .i64 6,.int .i64 sv,.int .i64 sf,.int .i64 ss,.bool sx]) (by simp[results,Tryz.results38,go_sem,g0,g1,g2,g3,g4,g5]) rfl ⟨by rw[HRES.out];rfl,hbl⟩
set_option maxHeartbeats 4000000 in
set_option maxRecDepth 100000 in
theorem turned_minus(o t:ByteArray)(b:Nat)(v:Int)(hv:In64 v)(hl:v≠-9223372036854775808)(flt steps:Nat)(fix:Bool)(ho:o.size≤10)(hz:t.size≤1000)(hs:steps≤10000)(hob:(o.toList==[110,111,116,32])=false)(w:World) :
  Calls Tryz.prog 38 #[.string o,.agg #[.string t,.int .i64 b,.int .i64 v,.int .i64 flt,.int .i64 steps,.bool fix]] w fun e w'=>e=.returned (pcV (o++tiedT t b 6) 6 (oneW 28 ⟨v,flt,steps,fix⟩))∧Below w.heap.size w w':=by
 have HTZ:=mH hz
 have zz:(9223372036854775807<o.size+(tiedT t b 6).size)=False:=by
  have e1:(⟨#[40]⟩:ByteArray).size=1:=rfl
  have e2:(⟨#[41]⟩:ByteArray).size=1:=rfl
  have:(tiedT t b 6).size≤1002:=by unfold tiedT;split <;> (try simp only[ByteArray.size_append,e1,e2]) <;> omega
  simp;omega
 clear ho hz
 obtain ⟨K,hK⟩:∃ K,K=settleW ⟨(-v),0,steps+1,fix⟩:=⟨_,rfl⟩
 have HRES:Hid (oneW 28 ⟨v,0,steps,fix⟩=K):=by
  rw[Hid,hK]
  have h1:=hv.1
  have h2:=hv.2
  have e:oneN (opK 28 1) v=(-v,0):=by
   show exact64 (0-v)=_
   rw[exact_in ⟨by omega,by omega⟩]
   simp
  unfold oneW
  rw[if_neg (by simp)]
  simp only[e]
 have HSE:Hid (∀ wx,Calls Tryz.prog 62 #[.agg #[.string (o++tiedT t b 6),.int .i64 6,.int .i64 (-v),.int .i64 0,.int .i64 ((steps:Int)+1),.bool fix]] wx fun e w'=>e=.returned (pcV (o++tiedT t b 6) 6 K)∧Below wx.heap.size wx w'):=fun wx=>by
  rw[hK]
  exact settled_any (o++tiedT t b 6) 6 ⟨(-v),0,steps+1,fix⟩ wx
 clear hK
 have hl':(v==-9223372036854775808)=false:=by simpa using hl
 have hw:IntKind.i64.wrap (-v)=-v:=by
  have h1:=hv.1
  have h2:=hv.2
  rw[IntWalk.i64_left]
  exact IntWalk.wrap64_in (-v) ⟨by omega,by omega⟩
 have hw':wrap64 (-v)=-v:=by
  have h1:=hv.1
  have h2:=hv.2
  exact IntWalk.wrap64_in (-v) ⟨by omega,by omega⟩
 clear hv hl
 go_enter Tryz.func38,Tryz.ntmps38
 go_upto_region 1 with fail
 have HT:=mH (duo_startP w #[.string t,.int .i64 b,.int .i64 v,.int .i64 flt,.int .i64 steps,.bool fix] #[.string { data:=#[] },.int .i64 0,.int .i64 0,.int .i64 0,.int .i64 0,.bool false])
 generalize (w.alloc (.cells #[.string t,.int .i64 b,.int .i64 v,.int .i64 flt,.int .i64 steps,.bool fix] 62)).alloc (.cells #[.string { data:=#[] },.int .i64 0,.int .i64 0,.int .i64 0,.int .i64 0,.bool false] 62)=W at HT ⊢
 have HSZ:Hid (w.heap.size+1<W.heap.size):=HT.out.res.lt
 go_cut [5] (fun s5 wx=>∃ rb:Nat,s5=.pointer (some ⟨rb,0,none⟩)∧TriP w wx rb #[.string t,.int .i64 b,.int .i64 v,.int .i64 flt,.int .i64 steps,.bool fix] #[.string { data:=#[] },.int .i64 0,.int .i64 0,.int .i64 0,.int .i64 0,.bool false] #[.string (o++tiedT t b 6),.int .i64 6,.int .i64 0,.int .i64 flt,.int .i64 steps,.bool fix])
 case first =>
  go_region_held3 (fun w'=>w'.cell? ⟨w.heap.size,0,none⟩=some (.string t)∧w'.cell? ⟨w.heap.size,1,none⟩=some (.int .i64 b)∧w'.cell? ⟨w.heap.size,2,none⟩=some (.int .i64 v)∧w'.cell? ⟨w.heap.size,3,none⟩=some (.int .i64 flt)∧w'.cell? ⟨w.heap.size,4,none⟩=some (.int .i64 steps)∧w'.cell? ⟨w.heap.size,5,none⟩=some (.bool fix)) (first | with_reducible exact HT.out.drew.six | with_reducible exact HT.out.six | with_reducible exact (HT.out.below (box3 _ _)).drew.six | with_reducible exact (HT.out.below (box3 _ _)).six | with_reducible exact (HT.out.below (below_new6 _ _ _ _ _ _ _ _)).six | with_reducible exact (HT.out.set6 _ HSZ.out _ _ _ _ _ _).six) (first | (go_at_call 60;refine (tied_any t b ⟨v,flt,steps,fix⟩ 6 HTZ.out _).mono ?_;rintro e w1 ⟨rfl,hb1⟩;replace HT:=mH (HT.out.drew.below hb1);clear hb1) | (go_at_call 60;refine (tied_any t b ⟨v,flt,steps,fix⟩ 6 HTZ.out _).mono ?_;rintro e w1 ⟨rfl,hb1⟩;have hR:=(Blk.new _ _ _).drew.below hb1 (by simp);(try simp at hR);have r0:=hR.cell 0;have f0:=hR.free 0;have r1:=hR.cell 1;have f1:=hR.free 1;have r2:=hR.cell 2;have f2:=hR.free 2;have r3:=hR.cell 3;have f3:=hR.free 3;have r4:=hR.cell 4;have f4:=hR.free 4;have r5:=hR.cell 5;have f5:=hR.free 5;have HR:=mH hR;clear hR;replace HT:=mH ((HT.out.drew.below (box3 _ _)).below hb1);clear hb1))
  ·have HF:=TriP.mk (HT.out.below (box3 _ (Obj.cells #[.string (o++tiedT t b 6),.int .i64 6,.int .i64 0,.int .i64 flt,.int .i64 steps,.bool fix] 62))) (Blk.new w1 _ _) HT.out.res.lt
   go_wp2_with fail
   go_meet
   case rel=>exact ⟨_,rfl,HF⟩
  ·have HF:=TriP.mk (HT.out.set6 W.heap.size HSZ.out (.string (o++tiedT t b 6)) (.int .i64 6) (.int .i64 0) (.int .i64 flt) (.int .i64 steps) (.bool fix)) ((((((HR.out.set 0 (.string (o++tiedT t b 6))).set 1 (.int .i64 6)).set 2 (.int .i64 0)).set 3 (.int .i64 flt)).set 4 (.int .i64 steps)).set 5 (.bool fix)) HSZ.out
   simp only[List.setIfInBounds_toArray,List.set_cons_zero,List.set_cons_succ]at HF
   go_wp2_with fail
   go_meet
   case rel=>exact ⟨_,rfl,HF⟩
 case rest =>
  obtain ⟨rb,rfl,hF⟩:=hcut
  clear HT HSZ
  have HF:=mH hF
  obtain ⟨k1,k2,k3,k4,k5⟩:=hF.out
  obtain ⟨n0,n1,m0,m1⟩:=hF.nes
  clear hF
  by_cases hf:flt=0
  case neg =>
   have hf':((flt:Int) != 0)=true:=by simp;omega
   go_wp2
   obtain ⟨hfb,hbl⟩:=HF.out.du.fin (.string (o++tiedT t b 6)) (.int .i64 6) (.int .i64 0) (.int .i64 flt) (.int .i64 steps) (.bool fix)
   have g0:=hfb.cell 0
   have g1:=hfb.cell 1
   have g2:=hfb.cell 2
   have g3:=hfb.cell 3
   have g4:=hfb.cell 4
   have g5:=hfb.cell 5
   unfold finP at g0 g1 g2 g3 g4 g5 hbl
   exact bodyPost_ret (v:=.agg #[.string (o++tiedT t b 6),.int .i64 6,.int .i64 0,.int .i64 flt,.int .i64 steps,.bool fix]) (by simp[results,Tryz.results38,go_sem,g0,g1,g2,g3,g4,g5]) rfl ⟨by unfold oneW;rw[if_pos hf];rfl,hbl⟩
  case pos =>
   subst hf
   obtain ⟨sv,sf,ss,sx⟩:=K
   go_wp2_with (go_at_call 62;refine (HSE.out _).mono ?_;rintro e w2 ⟨rfl,hb2⟩;unfold pcV pcA;replace HF:=mH (((HF.out.setR 4 (.int .i64 ((steps:Int)+1))).setR 2 (.int .i64 (-v))).below hb2);clear hb2 k1 k2 k3 k4 k5;obtain ⟨k1,k2,k3,k4,k5⟩:=HF.out.out)
   obtain ⟨hfb,hbl⟩:=HF.out.du.fin (.string (o++tiedT t b 6)) (.int .i64 6) (.int .i64 sv) (.int .i64 sf) (.int .i64 ss) (.bool sx)
   have g0:=hfb.cell 0
   have g1:=hfb.cell 1
   have g2:=hfb.cell 2
   have g3:=hfb.cell 3
   have g4:=hfb.cell 4
   have g5:=hfb.cell 5
   unfold finP at g0 g1 g2 g3 g4 g5 hbl
   exact bodyPost_ret (v:=.agg #[.string (o++tiedT t b 6),.int .i64 6,.int .i64 sv,.int .i64 sf,.int .i64 ss,.bool sx]) (by simp[results,Tryz.results38,go_sem,g0,g1,g2,g3,g4,g5]) rfl ⟨by rw[HRES.out];rfl,hbl⟩
end Go.Proofs.YtpcjadaeolkngaaGreatDoor
