/-
  Pieces as the program holds them: settled, tied.
-/
import Derived.Test.YtpcjadaeolkngaaGreatDoorJ33
import Derived.Test.YtpcjadaeolkngaaGreatDoorJ38
import Derived.Deep.RegionHeld3
import Derived.Deep.DeepCutAuto
set_option linter.unusedVariables false
set_option linter.unusedSimpArgs false
namespace Go.Proofs.YtpcjadaeolkngaaGreatDoor
open Go.RowKit
abbrev ag(t:ByteArray)(b v f s:Int)(x:Bool):Array Value:=#[.string t,.int .i64 b,.int .i64 v,.int .i64 f,.int .i64 s,.bool x]
abbrev ag0:Array Value:=#[.string { data:=#[] },.int .i64 0,.int .i64 0,.int .i64 0,.int .i64 0,.bool false]
def pcA(t:ByteArray)(b:Nat)(k:Wo):Array Value:=#[.string t,.int .i64 b,.int .i64 k.v,.int .i64 k.flt,.int .i64 k.steps,.bool k.fix]
def pcV(t:ByteArray)(b:Nat)(k:Wo):Value:=.agg (pcA t b k)
structure DuoP(w wx:World)(c1 c2:Array Value):Prop where
 box:Blk wx w.heap.size c1 62
 res:Blk wx (w.heap.size+1) c2 62
 bl:Below w.heap.size w wx
theorem DuoP.below{w wx w':World}{c1 c2:Array Value}(h:DuoP w wx c1 c2)(hb:Below wx.heap.size wx w'):DuoP w w' c1 c2 :=
 ⟨h.box.below hb h.box.lt,h.res.below hb h.res.lt,h.bl.trans (hb.mono h.bl.size)⟩
theorem DuoP.setB{w wx:World}{c1 c2:Array Value}(h:DuoP w wx c1 c2)(i:Nat)(v:Value):DuoP w (wx.setCell ⟨w.heap.size,i,none⟩ v) (c1.setIfInBounds i v) c2 :=
 ⟨h.box.set i v,h.res.other _ _ (by simp only;omega),h.bl.setCell (p:=⟨w.heap.size,i,none⟩) (by simp only;omega) v⟩
theorem DuoP.setO{w wx:World}{c1 c2:Array Value}(h:DuoP w wx c1 c2)(i:Nat)(v:Value):DuoP w (wx.setCell ⟨w.heap.size+1,i,none⟩ v) c1 (c2.setIfInBounds i v) :=
 ⟨h.box.other _ _ (by simp only;omega),h.res.set i v,h.bl.setCell (p:=⟨w.heap.size+1,i,none⟩) (by simp only;omega) v⟩
theorem duo_startP(w:World)(c1 c2:Array Value):DuoP w ((w.alloc (.cells c1 62)).alloc (.cells c2 62)) c1 c2:=by
 refine ⟨(Blk.new w _ _).alloc _, ?_,((Below.refl _ _).alloc (Nat.le_refl _) _).alloc (by simp) _⟩
 have:=Blk.new (w.alloc (.cells c1 62)) c2 62
 simpa using this
def finP(w wx:World)(a b c d e f:Value):World :=
 (((((wx.setCell ⟨w.heap.size+1,0,none⟩ a).setCell ⟨w.heap.size+1,1,none⟩ b).setCell ⟨w.heap.size+1,2,none⟩ c).setCell ⟨w.heap.size+1,3,none⟩ d).setCell ⟨w.heap.size+1,4,none⟩ e).setCell ⟨w.heap.size+1,5,none⟩ f
theorem DuoP.fin{w wx:World}{c1:Array Value}{z0 z1 z2 z3 z4 z5:Value}(h:DuoP w wx c1 #[z0,z1,z2,z3,z4,z5])(a b c d e f:Value):Blk (finP w wx a b c d e f) (w.heap.size+1) #[a,b,c,d,e,f] 62∧Below w.heap.size w (finP w wx a b c d e f):=by
 have g:=(((((h.setO 0 a).setO 1 b).setO 2 c).setO 3 d).setO 4 e).setO 5 f
 exact ⟨g.res,g.bl⟩
set_option maxHeartbeats 1000000 in
set_option maxRecDepth 100000 in
theorem settled_f(t:ByteArray)(b:Nat)(v:Int)(flt steps:Nat)(w:World) :
  Calls Tryz.prog 62 #[.agg #[.string t,.int .i64 b,.int .i64 v,.int .i64 flt,.int .i64 steps,.bool false]] w fun e w'=>e=.returned (.agg #[.string t,.int .i64 b,.int .i64 v,.int .i64 flt,.int .i64 steps,.bool false])∧Below w.heap.size w w':=by
 have HD:=mH (duo_startP w #[.string t,.int .i64 b,.int .i64 v,.int .i64 flt,.int .i64 steps,.bool false] #[.string { data:=#[] },.int .i64 0,.int .i64 0,.int .i64 0,.int .i64 0,.bool false])
 go_enter Tryz.func62,Tryz.ntmps62
 go_upto_region 1 with fail
 generalize (w.alloc (.cells #[.string t,.int .i64 b,.int .i64 v,.int .i64 flt,.int .i64 steps,.bool false] 62)).alloc (.cells #[.string { data:=#[] },.int .i64 0,.int .i64 0,.int .i64 0,.int .i64 0,.bool false] 62)=W at HD ⊢
 have c0:=HD.out.box.cell 0
 have c1:=HD.out.box.cell 1
 have c2:=HD.out.box.cell 2
 have c3:=HD.out.box.cell 3
 have c4:=HD.out.box.cell 4
 have c5:=HD.out.box.cell 5
 have b4:=HD.out.box.free 4
 have o0:=HD.out.res.cell 0
 have q0:=HD.out.res.free 0
 have o1:=HD.out.res.cell 1
 have q1:=HD.out.res.free 1
 have o2:=HD.out.res.cell 2
 have q2:=HD.out.res.free 2
 have o3:=HD.out.res.cell 3
 have q3:=HD.out.res.free 3
 have o4:=HD.out.res.cell 4
 have q4:=HD.out.res.free 4
 have o5:=HD.out.res.cell 5
 have q5:=HD.out.res.free 5
 go_wp2
 obtain ⟨hfb,hbl⟩:=(HD.out).fin (.string t) (.int .i64 b) (.int .i64 v) (.int .i64 flt) (.int .i64 steps) (.bool false)
 have g0:=hfb.cell 0
 have g1:=hfb.cell 1
 have g2:=hfb.cell 2
 have g3:=hfb.cell 3
 have g4:=hfb.cell 4
 have g5:=hfb.cell 5
 unfold finP at g0 g1 g2 g3 g4 g5 hbl
 exact bodyPost_ret (v:=.agg #[.string t,.int .i64 b,.int .i64 v,.int .i64 flt,.int .i64 steps,.bool false]) (by simp[results,Tryz.results62,go_sem,g0,g1,g2,g3,g4,g5]) rfl ⟨rfl,hbl⟩
set_option maxHeartbeats 1000000 in
set_option maxRecDepth 100000 in
theorem settled_t(t:ByteArray)(b:Nat)(v:Int)(flt steps:Nat)(hf:flt≠0)(w:World) :
  Calls Tryz.prog 62 #[.agg #[.string t,.int .i64 b,.int .i64 v,.int .i64 flt,.int .i64 steps,.bool true]] w fun e w'=>e=.returned (.agg #[.string t,.int .i64 b,.int .i64 v,.int .i64 flt,.int .i64 steps,.bool true])∧Below w.heap.size w w':=by
 have HD:=mH (duo_startP w #[.string t,.int .i64 b,.int .i64 v,.int .i64 flt,.int .i64 steps,.bool true] #[.string { data:=#[] },.int .i64 0,.int .i64 0,.int .i64 0,.int .i64 0,.bool false])
 have hf':((flt:Int)==0)=false:=by simp;omega
 clear hf
 go_enter Tryz.func62,Tryz.ntmps62
 go_upto_region 1 with fail
 generalize (w.alloc (.cells #[.string t,.int .i64 b,.int .i64 v,.int .i64 flt,.int .i64 steps,.bool true] 62)).alloc (.cells #[.string { data:=#[] },.int .i64 0,.int .i64 0,.int .i64 0,.int .i64 0,.bool false] 62)=W at HD ⊢
 have c0:=HD.out.box.cell 0
 have c1:=HD.out.box.cell 1
 have c2:=HD.out.box.cell 2
 have c3:=HD.out.box.cell 3
 have c4:=HD.out.box.cell 4
 have c5:=HD.out.box.cell 5
 have b4:=HD.out.box.free 4
 have o0:=HD.out.res.cell 0
 have q0:=HD.out.res.free 0
 have o1:=HD.out.res.cell 1
 have q1:=HD.out.res.free 1
 have o2:=HD.out.res.cell 2
 have q2:=HD.out.res.free 2
 have o3:=HD.out.res.cell 3
 have q3:=HD.out.res.free 3
 have o4:=HD.out.res.cell 4
 have q4:=HD.out.res.free 4
 have o5:=HD.out.res.cell 5
 have q5:=HD.out.res.free 5
 go_wp2
 obtain ⟨hfb,hbl⟩:=(HD.out).fin (.string t) (.int .i64 b) (.int .i64 v) (.int .i64 flt) (.int .i64 steps) (.bool true)
 have g0:=hfb.cell 0
 have g1:=hfb.cell 1
 have g2:=hfb.cell 2
 have g3:=hfb.cell 3
 have g4:=hfb.cell 4
 have g5:=hfb.cell 5
 unfold finP at g0 g1 g2 g3 g4 g5 hbl
 exact bodyPost_ret (v:=.agg #[.string t,.int .i64 b,.int .i64 v,.int .i64 flt,.int .i64 steps,.bool true]) (by simp[results,Tryz.results62,go_sem,g0,g1,g2,g3,g4,g5]) rfl ⟨rfl,hbl⟩
set_option maxHeartbeats 1000000 in
set_option maxRecDepth 100000 in
theorem settled_z(t:ByteArray)(b:Nat)(v:Int)(flt steps:Nat)(w:World) :
  Calls Tryz.prog 62 #[.agg #[.string t,.int .i64 b,.int .i64 v,.int .i64 0,.int .i64 steps,.bool true]] w fun e w'=>e=.returned (.agg #[.string t,.int .i64 b,.int .i64 v,.int .i64 0,.int .i64 1,.bool true])∧Below w.heap.size w w':=by
 have HD:=mH (duo_startP w #[.string t,.int .i64 b,.int .i64 v,.int .i64 0,.int .i64 steps,.bool true] #[.string { data:=#[] },.int .i64 0,.int .i64 0,.int .i64 0,.int .i64 0,.bool false])
 go_enter Tryz.func62,Tryz.ntmps62
 go_upto_region 1 with fail
 generalize (w.alloc (.cells #[.string t,.int .i64 b,.int .i64 v,.int .i64 0,.int .i64 steps,.bool true] 62)).alloc (.cells #[.string { data:=#[] },.int .i64 0,.int .i64 0,.int .i64 0,.int .i64 0,.bool false] 62)=W at HD ⊢
 have c0:=HD.out.box.cell 0
 have c1:=HD.out.box.cell 1
 have c2:=HD.out.box.cell 2
 have c3:=HD.out.box.cell 3
 have c4:=HD.out.box.cell 4
 have c5:=HD.out.box.cell 5
 have b4:=HD.out.box.free 4
 have o0:=HD.out.res.cell 0
 have q0:=HD.out.res.free 0
 have o1:=HD.out.res.cell 1
 have q1:=HD.out.res.free 1
 have o2:=HD.out.res.cell 2
 have q2:=HD.out.res.free 2
 have o3:=HD.out.res.cell 3
 have q3:=HD.out.res.free 3
 have o4:=HD.out.res.cell 4
 have q4:=HD.out.res.free 4
 have o5:=HD.out.res.cell 5
 have q5:=HD.out.res.free 5
 go_wp2
 obtain ⟨hfb,hbl⟩:=(HD.out.setB 4 (.int .i64 1)).fin (.string t) (.int .i64 b) (.int .i64 v) (.int .i64 0) (.int .i64 1) (.bool true)
 have g0:=hfb.cell 0
 have g1:=hfb.cell 1
 have g2:=hfb.cell 2
 have g3:=hfb.cell 3
 have g4:=hfb.cell 4
 have g5:=hfb.cell 5
 unfold finP at g0 g1 g2 g3 g4 g5 hbl
 exact bodyPost_ret (v:=.agg #[.string t,.int .i64 b,.int .i64 v,.int .i64 0,.int .i64 1,.bool true]) (by simp[results,Tryz.results62,go_sem,g0,g1,g2,g3,g4,g5]) rfl ⟨rfl,hbl⟩
theorem settled_any(t:ByteArray)(b:Nat)(k:Wo)(w:World) :
  Calls Tryz.prog 62 #[pcV t b k] w fun e w'=>e=.returned (pcV t b (settleW k))∧Below w.heap.size w w':=by
 obtain ⟨v,flt,steps,fix⟩:=k
 cases fix with
 | false=>exact settled_f t b v flt steps w
 | true =>
  by_cases hf:flt=0
  ·subst hf;exact settled_z t b v 0 steps w
  ·have e:settleW ⟨v,flt,steps,true⟩=⟨v,flt,steps,true⟩:=by unfold settleW;rw[if_neg (fun h=>hf h.2)]
   rw[e]
   exact settled_t t b v flt steps hf w
def tiedT(t:ByteArray)(b lv:Nat):ByteArray:=if b<lv then ⟨#[40]⟩++t++⟨#[41]⟩ else t
set_option maxHeartbeats 2000000 in
set_option maxRecDepth 100000 in
theorem tied_any(t:ByteArray)(b:Nat)(k:Wo)(lv:Nat)(hz:t.size≤1000)(w:World) :
  Calls Tryz.prog 60 #[pcV t b k,.int .i64 lv] w fun e w'=>e=.returned (.string (tiedT t b lv))∧Below w.heap.size w w':=by
 obtain ⟨v,flt,steps,fix⟩:=k
 unfold pcV pcA tiedT
 simp only
 have z1:(9223372036854775807<(⟨#[40]⟩:ByteArray).size+t.size)=False:=by
  have:(⟨#[40]⟩:ByteArray).size=1:=rfl
  simp;omega
 have z2:(9223372036854775807<((⟨#[40]⟩:ByteArray)++t).size+(⟨#[41]⟩:ByteArray).size)=False:=by
  have:(⟨#[40]⟩:ByteArray).size=1:=rfl
  have:(⟨#[41]⟩:ByteArray).size=1:=rfl
  rw[ByteArray.size_append]
  simp;omega
 have hb1:=((Below.refl w.heap.size w).alloc (Nat.le_refl _) (.cells #[.string t,.int .i64 b,.int .i64 v,.int .i64 flt,.int .i64 steps,.bool fix] 62))
 have HBL:=mH hb1
 clear hb1
 by_cases hl:b<lv
 ·have hd:decide ((b:Int)<(lv:Int))=true:=by simp;omega
  rw[if_pos hl]
  go_enter Tryz.func60,Tryz.ntmps60
  go_wp2
  go_ret
  exact ⟨rfl,HBL.out⟩
 ·have hd:decide ((b:Int)<(lv:Int))=false:=by simp;omega
  rw[if_neg hl]
  go_enter Tryz.func60,Tryz.ntmps60
  go_wp2
  go_ret
  exact ⟨rfl,HBL.out⟩
end Go.Proofs.YtpcjadaeolkngaaGreatDoor
