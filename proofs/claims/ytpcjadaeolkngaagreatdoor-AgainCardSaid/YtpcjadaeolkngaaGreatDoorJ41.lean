/-
  An item and a bin out of raw numbers and bytes: item, bin, around.
-/
import Derived.Test.YtpcjadaeolkngaaGreatDoorJ18
import Derived.Deep.RegionWith
import Derived.Test.YtpcjadaeolkngaaGreatDoorJ40
import Derived.Test.YtpcjadaeolkngaaGreatDoorJ07
import Derived.Test.YtpcjadaeolkngaaGreatDoorJ28
import Derived.Test.YtpcjadaeolkngaaGreatDoorJ30
import Derived.Laws.AppendOwnNone
set_option linter.unusedVariables false
set_option linter.unusedSimpArgs false
namespace Go.Proofs.YtpcjadaeolkngaaGreatDoor
open Go.RowKit
set_option maxHeartbeats 1000000 in
theorem item_any(a b c:Int)(ha:In64 a)(hb:In64 b)(hc:In64 c)(w:World) :
    Calls Tryz.prog 12 #[.int .i64 a,.int .i64 b,.int .i64 c] w fun e w'=>(∃ x:Itm,x.Ok∧e=.returned (itmA x))∧Below w.heap.size w w':=by
  have HA:=mH ha
  have HB:=mH hb
  have HC:=mH hc
  clear ha hb hc
  go_enter Tryz.func12,Tryz.ntmps12
  go_wp2_with (first
    | (go_at_call_of 13 (Value.int IntKind.i64 1000);refine (pick_any a 1000 HA.out (by omega) _).mono ?_;rintro e _ ⟨⟨r1,h1,k1,rfl⟩,rfl⟩)
    | (go_at_call_of 13 (Value.int IntKind.i64 1001);refine (pick_any b 1001 HB.out (by omega) _).mono ?_;rintro e _ ⟨⟨r2,h2,k2,rfl⟩,rfl⟩)
    | (go_at_call_of 13 (Value.int IntKind.i64 3);refine (pick_any c 3 HC.out (by omega) _).mono ?_;rintro e _ ⟨⟨r3,h3,k3,rfl⟩,rfl⟩))
  refine bodyPost_ret (v:=.agg #[.int .i64 (1+r1),.int .i64 r2,.int .i64 r3]) (by simp[results,Tryz.results12,go_sem]) rfl ⟨⟨⟨1+r1,r2,r3⟩,by unfold Itm.Ok;simp only;omega,rfl⟩, ?_⟩
  exact box3 w _
structure OutB(w wx:World)(fb:Nat)(k:Nat)(c1 c2:Array Value):Prop where
  b1:Blk wx w.heap.size c1 25
  b2:k=1∨Blk wx (w.heap.size+1) c2 25
  bl:But fb w wx
  lt:fb<w.heap.size
  fed:FeedAt wx fb
theorem OutB.but{w wx w':World}{fb k:Nat}{c1 c2:Array Value}(h:OutB w wx fb k c1 c2)(hb:But fb wx w')(hf:FeedAt w' fb):OutB w w' fb k c1 c2 :=
  have:=h.lt
  ⟨h.b1.but hb (by omega),h.b2.imp id (fun h=>h.but hb (by omega)),h.bl.trans hb,h.lt,hf⟩
theorem But.al{fb:Nat}{w wx:World}(h:But fb w wx)(o:Obj):But fb w (wx.alloc o):=h.trans (But.of (box3 wx o))
theorem But.st{fb:Nat}{w wx:World}(h:But fb w wx)(b i:Nat)(hb:w.heap.size≤b)(v:Value):But fb w (wx.setCell ⟨b,i,none⟩ v) :=
  ⟨h.os,h.tape,h.output,by simpa[World.setCell] using h.size,fun k h1 h2=>(Below.heap_setCell _ _ _ _ (by simp only;omega)).trans (h.block k h1 h2)⟩
theorem FeedAt.st{w:World}{fb:Nat}(h:FeedAt w fb)(b i:Nat)(v:Value)(hne:fb≠b):FeedAt (w.setCell ⟨b,i,none⟩ v) fb:=by
  obtain ⟨s,k,h1,h2⟩:=h.ok
  exact ⟨s,k,h1.other ⟨b,i,none⟩ v hne,h2⟩
theorem FeedAt.al{w:World}{fb:Nat}(h:FeedAt w fb)(o:Obj):FeedAt (w.alloc o) fb:=h.below (box3 w o)
theorem FeedAt.lt{w:World}{fb:Nat}(h:FeedAt w fb):fb<w.heap.size:=by
  obtain ⟨s,k,h1,_⟩:=h.ok
  exact h1.lt
set_option maxHeartbeats 2000000 in
set_option maxRecDepth 100000 in
theorem bin_any(id:Int)(hid:0≤id∧id≤1000)(fb:Nat)(w:World)(h:FeedAt w fb) :
    Calls Tryz.prog 18 #[.int .i64 id,.pointer (some ⟨fb,0,none⟩)] w fun e w'=>(∃ y:Bn,y.Ok∧y.id=id∧e=.returned (bnA y))∧FeedAt w' fb∧But fb w w':=by
  have hlt:=h.lt
  have HQ:Hid (OutB w (w.alloc (.cells #[.int .i64 0,.int .i64 0,.int .i64 0,.int .i64 0,.int .i64 0] 25)) fb 1 #[.int .i64 0,.int .i64 0,.int .i64 0,.int .i64 0,.int .i64 0] #[]):=⟨Blk.new w _ _,.inl rfl,(But.refl fb w).al _,hlt,h.al _⟩
  have HI:=mH hid
  clear h hid
  go_enter Tryz.func18,Tryz.ntmps18
  go_wp2_with (first
    | (go_at_call_of 19 (Value.int IntKind.i64 10);refine (next_any 10 (by omega) fb _ HQ.out.fed).mono ?_;rintro e w1 ⟨⟨r1,h1,k1,rfl⟩,hF,hB⟩;replace HQ:=mH (HQ.out.but hB hF);clear hF hB)
    | (go_at_call_of 19 (Value.int IntKind.i64 250);refine (next_any 250 (by omega) fb _ HQ.out.fed).mono ?_;rintro e w2 ⟨⟨r2,h2,k2,rfl⟩,hF,hB⟩;replace HQ:=mH (HQ.out.but hB hF);clear hF hB)
    | (go_at_call_of 19 (Value.int IntKind.i64 3);refine (next_any 3 (by omega) fb _ HQ.out.fed).mono ?_;rintro e w3 ⟨⟨r3,h3,k3,rfl⟩,hF,hB⟩;replace HQ:=mH (HQ.out.but hB hF);clear hF hB)
    | (go_at_call 19;refine (next_any (1+4*r2+1) (by omega) fb _ (HQ.out.fed.al _)).mono ?_;rintro e w4 ⟨⟨r4,h4,k4,rfl⟩,hF,hB⟩
       have hlt3:fb<w3.heap.size:=HQ.out.fed.lt
       have hX:=(Blk.new w3 #[.int .i64 id,.int .i64 r1,.int .i64 (1+4*r2),.int .i64 0,.int .i64 r3] 25).but hB (by omega)
       have hz3':w.heap.size<w3.heap.size:=HQ.out.b1.lt
       have hne:w.heap.size≠w3.heap.size:=by omega
       replace HQ:=mH ((HQ.out.but (But.of (box3 w3 (.cells #[.int .i64 id,.int .i64 r1,.int .i64 (1+4*r2),.int .i64 0,.int .i64 r3] 25))) (HQ.out.fed.al _)).but hB hF)
       have hXX:=hX.set 3 (.int .i64 r4)
       have x0:=hXX.cell 0
       have x1:=hXX.cell 1
       have x2:=hXX.cell 2
       have x3:=hXX.cell 3
       have x4:=hXX.cell 4
       have fx:=hX.free 3
       have c3:=hX.cell 3
       have hO:=HQ.out.b1.other ⟨w3.heap.size,3,none⟩ (.int .i64 r4) hne
       have o0:=hO.cell 0
       have o1:=hO.cell 1
       have o2:=hO.cell 2
       have o3:=hO.cell 3
       have o4:=hO.cell 4
       have f0:=hO.free 0
       have f1:=hO.free 1
       have f2:=hO.free 2
       have f3:=hO.free 3
       have f4:=hO.free 4
       have HO:=mH hO
       clear hO hXX hX hF hB))
  have hfb:=((((HO.out.set 0 (.int .i64 id)).set 1 (.int .i64 r1)).set 2 (.int .i64 (1+4*r2))).set 3 (.int .i64 r4)).set 4 (.int .i64 r3)
  have g0:=hfb.cell 0
  have g1:=hfb.cell 1
  have g2:=hfb.cell 2
  have g3:=hfb.cell 3
  have g4:=hfb.cell 4
  have hz3:w.heap.size≤w3.heap.size:=by omega
  refine bodyPost_ret (v:=.agg #[.int .i64 id,.int .i64 r1,.int .i64 (1+4*r2),.int .i64 r4,.int .i64 r3]) (by simp[results,Tryz.results18,go_sem,g0,g1,g2,g3,g4]) rfl ⟨⟨⟨id,r1,1+4*r2,r4,r3⟩,by have:=HI.out;unfold Bn.Ok;simp only;omega,rfl,rfl⟩, ?_, ?_⟩
  · exact (((((HQ.out.fed.st w3.heap.size 3 _ (by omega)).st w.heap.size 0 _ (by omega)).st w.heap.size 1 _ (by omega)).st w.heap.size 2 _ (by omega)).st w.heap.size 3 _ (by omega)).st w.heap.size 4 _ (by omega)
  · exact (((((HQ.out.bl.st w3.heap.size 3 hz3 _).st w.heap.size 0 (Nat.le_refl _) _).st w.heap.size 1 (Nat.le_refl _) _).st w.heap.size 2 (Nat.le_refl _) _).st w.heap.size 3 (Nat.le_refl _) _).st w.heap.size 4 (Nat.le_refl _) _
theorem feed_at(w:World)(o:Obj)(s:ByteArray)(hs:s.size≤maxLen):FeedAt ((w.alloc o).alloc (.cells #[.string s,.int .i64 0] 59)) (w.heap.size+1):=by
  have:=Blk.new (w.alloc o) #[.string s,.int .i64 0] 59
  exact ⟨s,0,by simpa using this,Nat.zero_le _,hs⟩
structure OutR(w wx:World):Prop where
  b1:Blk wx w.heap.size #[.int .i64 0,.int .i64 0,.int .i64 0] 23
  b2:Blk wx (w.heap.size+1) #[.int .i64 0,.int .i64 0,.int .i64 0,.int .i64 0,.int .i64 0] 25
  bl:Below w.heap.size w wx
theorem OutR.below{w wx w':World}(h:OutR w wx)(hb:Below wx.heap.size wx w'):OutR w w':=⟨h.b1.below hb h.b1.lt,h.b2.below hb h.b2.lt,h.bl.trans (hb.mono h.bl.size)⟩
theorem OutR.al{w wx:World}(h:OutR w wx)(o:Obj):OutR w (wx.alloc o):=h.below (box3 wx o)
theorem OutR.but{w wx w':World}{fb:Nat}(h:OutR w wx)(hb:But fb wx w')(hf:w.heap.size+1<fb):OutR w w':=⟨h.b1.but hb (by omega),h.b2.but hb (by omega),h.bl.trans (hb.below (by omega) h.bl.size)⟩
theorem outR_start(w:World):OutR w ((w.alloc (.cells #[.int .i64 0,.int .i64 0,.int .i64 0] 23)).alloc (.cells #[.int .i64 0,.int .i64 0,.int .i64 0,.int .i64 0,.int .i64 0] 25)):=by
  refine ⟨(Blk.new w _ _).alloc _, ?_,(box3 w _).trans ((box3 _ _).mono (by simp))⟩
  have:=Blk.new (w.alloc (.cells #[.int .i64 0,.int .i64 0,.int .i64 0] 23)) #[.int .i64 0,.int .i64 0,.int .i64 0,.int .i64 0,.int .i64 0] 25
  simpa using this
set_option maxHeartbeats 2000000 in
set_option maxRecDepth 100000 in
theorem around_any(a b c:Int)(ha:In64 a)(hb:In64 b)(hc:In64 c)(s:ByteArray)(hs:s.size≤maxLen)(w:World) :
    Calls Tryz.prog 5 #[.int .i64 a,.int .i64 b,.int .i64 c,.string s] w fun e w'=>(∃ (x:Itm) (y:Bn),x.Ok∧y.Ok∧e=.returned (.tuple #[itmA x,bnA y]))∧Below w.heap.size w w':=by
  have HA:=mH ha
  have HB:=mH hb
  have HC:=mH hc
  have HS:=mH hs
  have HR:=mH (outR_start w)
  clear ha hb hc hs
  go_enter Tryz.func5,Tryz.ntmps5
  go_wp2_with (first
    | (go_at_call 12;refine (item_any a b c HA.out HB.out HC.out _).mono ?_;rintro e w1 ⟨⟨x,hx,rfl⟩,hb1⟩;unfold itmA;replace HR:=mH (HR.out.below hb1);have hl1:=HR.out.b2.lt;have hI:=Blk.new w1 #[.int .i64 x.size,.int .i64 x.speed,.int .i64 x.need] 23;clear hb1)
    | (go_at_call 13;refine (pick_any a 1001 HA.out (by omega) _).mono ?_;rintro e _ ⟨⟨r,hr0,hr1,rfl⟩,rfl⟩)
    | (go_at_call 18;refine (bin_any r (by omega) _ _ (feed_at w1 _ s HS.out)).mono ?_;rintro e w2 ⟨⟨y,hy,hid,rfl⟩,hF,hB2⟩;clear hid;unfold bnA;replace HR:=mH ((((HR.out.al _).al _).but hB2 (by omega)).al (.cells #[.int .i64 y.id,.int .i64 y.zone,.int .i64 y.cap,.int .i64 y.used,.int .i64 y.has] 25));replace hI:=((hI.alloc _).but hB2 (by omega)).alloc (.cells #[.int .i64 y.id,.int .i64 y.zone,.int .i64 y.cap,.int .i64 y.used,.int .i64 y.has] 25);have hl2:w1.heap.size+1<w2.heap.size:=hF.lt;clear hF hB2))
  have HX:=mH hx
  have HY:=mH hy
  clear hx hy
  have i0:=hI.cell 0
  have i1:=hI.cell 1
  have i2:=hI.cell 2
  have f0:=HR.out.b1.free 0
  have f1:=HR.out.b1.free 1
  have f2:=HR.out.b1.free 2
  have p0:=HR.out.b2.free 0
  have p1:=HR.out.b2.free 1
  have p2:=HR.out.b2.free 2
  have p3:=HR.out.b2.free 3
  have p4:=HR.out.b2.free 4
  have q0:=HR.out.b1.cell 0
  have q1:=HR.out.b1.cell 1
  have q2:=HR.out.b1.cell 2
  have s0:=HR.out.b2.cell 0
  have s1:=HR.out.b2.cell 1
  have s2:=HR.out.b2.cell 2
  have s3:=HR.out.b2.cell 3
  have s4:=HR.out.b2.cell 4
  go_region
  have hf1:=(((((((((HR.out.b1).set 0 (.int .i64 x.size)).set 1 (.int .i64 x.speed)).set 2 (.int .i64 x.need)).other ⟨w.heap.size+1,0,none⟩ (.int .i64 y.id) (by simp only;omega)).other ⟨w.heap.size+1,1,none⟩ (.int .i64 y.zone) (by simp only;omega)).other ⟨w.heap.size+1,2,none⟩ (.int .i64 y.cap) (by simp only;omega)).other ⟨w.heap.size+1,3,none⟩ (.int .i64 y.used) (by simp only;omega)).other ⟨w.heap.size+1,4,none⟩ (.int .i64 y.has) (by simp only;omega)).drew
  have hf2:=(((((((((HR.out.b2).other ⟨w.heap.size,0,none⟩ (.int .i64 x.size) (by simp only;omega)).other ⟨w.heap.size,1,none⟩ (.int .i64 x.speed) (by simp only;omega)).other ⟨w.heap.size,2,none⟩ (.int .i64 x.need) (by simp only;omega)).set 0 (.int .i64 y.id)).set 1 (.int .i64 y.zone)).set 2 (.int .i64 y.cap)).set 3 (.int .i64 y.used)).set 4 (.int .i64 y.has)).drew
  have a0:=hf1.cell 0
  have a1:=hf1.cell 1
  have a2:=hf1.cell 2
  have b0:=hf2.cell 0
  have b1:=hf2.cell 1
  have b2:=hf2.cell 2
  have b3:=hf2.cell 3
  have b4:=hf2.cell 4
  have HF:=mH ((((((((((HR.out.bl).setCell (p:=⟨w.heap.size,0,none⟩) (by simp only;omega) (.int .i64 x.size)).setCell (p:=⟨w.heap.size,1,none⟩) (by simp only;omega) (.int .i64 x.speed)).setCell (p:=⟨w.heap.size,2,none⟩) (by simp only;omega) (.int .i64 x.need)).setCell (p:=⟨w.heap.size+1,0,none⟩) (by simp only;omega) (.int .i64 y.id)).setCell (p:=⟨w.heap.size+1,1,none⟩) (by simp only;omega) (.int .i64 y.zone)).setCell (p:=⟨w.heap.size+1,2,none⟩) (by simp only;omega) (.int .i64 y.cap)).setCell (p:=⟨w.heap.size+1,3,none⟩) (by simp only;omega) (.int .i64 y.used)).setCell (p:=⟨w.heap.size+1,4,none⟩) (by simp only;omega) (.int .i64 y.has)).drew)
  clear hf1 hf2
  go_wp2
  refine bodyPost_ret (v:=.tuple #[.agg #[.int .i64 x.size,.int .i64 x.speed,.int .i64 x.need],.agg #[.int .i64 y.id,.int .i64 y.zone,.int .i64 y.cap,.int .i64 y.used,.int .i64 y.has]]) (by simp[results,Tryz.results5,go_sem,a0,a1,a2,b0,b1,b2,b3,b4]) rfl ⟨⟨x,y,HX.out,HY.out,rfl⟩,HF.out⟩
def looseT(t:ByteArray):ByteArray:=⟨#[40,32]⟩++t++⟨#[41]⟩
open Go.Deep
def brB(b:Nat):Nat:=if b<6 then 1 else 0
theorem toL_app(a b:ByteArray):(a++b).toList=a.toList++b.toList:=by simp[ByteArray.toList_eq,ByteArray.data_append]
theorem brB6:brB 6=0:=rfl
theorem tl40:(⟨#[40]⟩:ByteArray).toList=[40]:=by rw[ByteArray.toList_eq]
theorem tl41:(⟨#[41]⟩:ByteArray).toList=[41]:=by rw[ByteArray.toList_eq]
theorem tl45:(⟨#[45]⟩:ByteArray).toList=[45]:=by rw[ByteArray.toList_eq]
theorem tlnot:(⟨#[110,111,116,32]⟩:ByteArray).toList=[110,111,116,32]:=by rw[ByteArray.toList_eq]
theorem tl4032:(⟨#[40,32]⟩:ByteArray).toList=[40,32]:=by rw[ByteArray.toList_eq]
theorem toL_mk(l:List UInt8):(⟨l.toArray⟩:ByteArray).toList=l:=by rw[ByteArray.toList_eq]
structure FitV(k:Wo)(kd:Nat):Prop where
 in64:In64 k.v
 le2:k.flt≤2
 nul:k.flt≠0→k.v=0
 truth:kd=2→k.v=0∨k.v=1
structure FitW(k:Wo)(kd:Nat):Prop extends FitV k kd where
 set:k.fix=true→k.flt=0→k.steps=1
theorem in64_0:In64 0:=⟨by omega,by omega⟩
theorem in64_1:In64 1:=⟨by omega,by omega⟩
theorem FitV.settle{k:Wo}{kd:Nat}(h:FitV k kd):FitW (settleW k) kd:=by
 obtain ⟨e1,e2,e3,e4⟩:=settle_eq k
 exact ⟨⟨by rw[e1];exact h.in64,by rw[e2];exact h.le2,by rw[e1,e2];exact h.nul,by rw[e1];exact h.truth⟩,fun h1 h2=>by rw[e3]at h1;rw[e2]at h2;rw[e4,if_pos ⟨h1,h2⟩]⟩
theorem fit_bad{v:Int}{f s kd:Nat}{b:Bool}(h0:v=0)(h2:f≤2)(hf:f≠0):FitW ⟨v,f,s,b⟩ kd:=by
 subst h0
 exact ⟨⟨in64_0,h2,fun _=>rfl,fun _=>.inl rfl⟩,fun _ h=>absurd h hf⟩
theorem settle_le(k:Wo)(h:1≤k.steps):(settleW k).steps≤k.steps:=by
 obtain ⟨_,_,_,e⟩:=settle_eq k
 rw[e]
 split <;> omega
theorem settle_fix(k:Wo):(settleW k).fix=k.fix:=(settle_eq k).2.2.1
theorem oneN_truth(a:Int)(h:a=0∨a=1):(oneN (opK 9 1) a).1=0∨(oneN (opK 9 1) a).1=1:=by
 rcases h with rfl | rfl
 ·right;rfl
 ·left;rfl
theorem oneN_in(a:Int):In64 (oneN (opK 28 1) a).1:=by
 show In64 (exact64 (0-a)).1
 unfold exact64
 split
 ·assumption
 ·exact in64_0
theorem fit_minus{k:Wo}(h:FitW k 1):FitW (oneW 28 k) 1:=by
 unfold oneW
 split
 ·rename_i hf
  exact fit_bad rfl h.le2 hf
 ·exact FitV.settle ⟨oneN_in _,one_le2 _ _,oneN_nul _ _,fun h=>by cases h⟩
theorem fit_not{k:Wo}(h:FitW k 2):FitW (oneW 9 k) 2:=by
 have hb:=oneN_truth k.v (h.truth rfl)
 have hin:In64 (oneN (opK 9 1) k.v).1:=by
  rcases hb with e | e <;> rw[e]
  ·exact in64_0
  ·exact in64_1
 unfold oneW
 split
 ·rename_i hf
  exact fit_bad rfl h.le2 hf
 ·exact FitV.settle ⟨hin,one_le2 _ _,oneN_nul _ _,fun _=>hb⟩
theorem join_truth(c:Nat)(hc:9≤c)(a b:Int):(joinN c a b).1=0∨(joinN c a b).1=1:=by
 unfold joinN
 rw[if_neg (by omega),if_neg (by omega),if_neg (by omega),if_neg (by omega),if_neg (by omega)]
 have e:∀ b:Bool,bitN b=0∨bitN b=1:=fun b=>by cases b;left;rfl;right;rfl
 split
 ·exact e _
 ·split
  ·exact e _
  ·split
   ·exact e _
   ·exact e _
theorem fit_two{n kd a b:Nat}{p q:Wo}(hkd:kd=2→9≤opK n 2)(hp:FitW p a)(hq:FitW q b):FitW (twoW n p q) kd:=by
 unfold twoW
 split
 ·rename_i hf
  exact fit_bad rfl hp.le2 hf
 ·split
  ·rename_i hf
   exact fit_bad rfl hq.le2 hf
  ·exact FitV.settle ⟨join_in _ _ _ hp.in64 hq.in64,join_le2 _ _ _,joinN_nul _ _ _,fun h=>join_truth _ (hkd h) _ _⟩
theorem fit_cho{n:Nat}{p q:Wo}(hn:n=7∨n=8)(hp:FitW p 2)(hq:FitW q 2):FitW (choW n p q) 2:=by
 have hd:decK n=0∨decK n=1:=by rcases hn with rfl | rfl;left;rfl;right;rfl
 have hdi:In64 (decK n):=by
  rcases hd with e | e <;> rw[e]
  ·exact in64_0
  ·exact in64_1
 unfold choW
 split
 ·rename_i hf
  exact fit_bad rfl hp.le2 hf
 ·split
  ·exact FitV.settle ⟨hdi,by simp,fun h=>absurd rfl h,fun _=>hd⟩
  ·split
   ·rename_i hf
    exact fit_bad rfl hq.le2 hf
   ·exact FitV.settle ⟨hq.in64,by simp,fun h=>absurd rfl h,hq.truth⟩
structure Pc(C:Ctx→Prop)(t:ByteArray)(b:Nat)(k:Wo)(kd len dep prt st:Nat)(fx:Bool):Prop where
 is:∃ d,d+brB b≤dep∧∀ E,C E→IsP E t.toList b k kd d prt
 len:t.size+2*brB b≤len
 b1:1≤b
 b6:b≤6
 fit:FitW k kd
 steps:k.steps≤st
 one:1≤k.steps
 fix:fx=true→k.fix=true
section
variable {C:Ctx→Prop} {t t1 t2:ByteArray} {b b1 b2:Nat} {k k1 k2:Wo} {kd kd1 kd2 len len' len1 len2 dep dep' prt prt' p1 p2 st st' st1 st2:Nat} {fx:Bool}
theorem Pc.mono(h:Pc C t b k kd len dep prt st fx)(h1:len≤len')(h2:dep≤dep')(h3:prt≤prt')(h4:st≤st'):Pc C t b k kd len' dep' prt' st' fx:=by
 obtain ⟨d,hd,hi⟩:=h.is
 exact ⟨⟨d,by omega,fun E hE=>(hi E hE).mono (Nat.le_refl _) (Nat.le_refl _) h3⟩,by have:=h.len;omega,h.b1,h.b6,h.fit,by have:=h.steps;omega,h.one,h.fix⟩
theorem Pc.size(h:Pc C t b k kd len dep prt st fx):t.size≤len:=by have:=h.len;omega
theorem tie_size(h:Pc C t b k kd len dep prt st fx){lv:Nat}(hl:lv≤6):(tiedT t b lv).size≤len:=by
 have:=h.len
 have e1:(⟨#[40]⟩:ByteArray).size=1:=rfl
 have e2:(⟨#[41]⟩:ByteArray).size=1:=rfl
 unfold tiedT
 unfold brB at this
 split
 ·rw[if_pos (by omega)]at this
  simp only[ByteArray.size_append,e1,e2]
  omega
 ·omega
theorem tie_is(hC:∀ E,C E→E.Ok)(h:Pc C t b k kd len dep prt st fx){lv:Nat}(hl:lv≤6)(E:Ctx)(hE:C E):IsP E (tiedT t b lv).toList lv k kd dep prt:=by
 obtain ⟨d,hd,hi⟩:=h.is
 unfold tiedT
 unfold brB at hd
 split
 ·rw[if_pos (by omega)]at hd
  rw[toL_app,toL_app,tl40,tl41]
  have:=IsP.brack (hC E hE) (hi E hE)
  exact (this.mono hl hd (Nat.le_refl _))
 ·exact (hi E hE).mono (by omega) (by omega) (Nat.le_refl _)
theorem oneW_steps(n:Nat)(k:Wo):(oneW n k).steps≤k.steps+1:=by
 unfold oneW
 split
 ·exact Nat.le_succ _
 ·exact settle_le ⟨_,_,_,_⟩ (by simp)
theorem oneW_one(n:Nat)(k:Wo)(h:1≤k.steps):1≤(oneW n k).steps:=by
 unfold oneW
 split
 ·exact h
 ·rw[(settle_eq _).2.2.2]
  split
  ·exact Nat.le_refl _
  ·simp
theorem oneW_fix(n:Nat)(k:Wo):(oneW n k).fix=k.fix:=by
 unfold oneW
 split
 ·rfl
 ·rw[settle_fix]
theorem Pc.minus(hC:∀ E,C E→E.Ok)(h:Pc C t b k 1 len dep prt st fx):Pc C (⟨#[45]⟩++tiedT t b 6) 6 (oneW 28 k) 1 (len+1) dep (prt+1) (st+1) fx:=by
 refine ⟨⟨dep,by simp[brB],fun E hE=>?_⟩, ?_,by omega,by omega,fit_minus h.fit, ?_,oneW_one _ _ h.one,fun hf=>?_⟩
 ·rw[toL_app,tl45]
  exact IsP.minus (hC E hE) (tie_is hC h (Nat.le_refl _) E hE)
 ·have:=tie_size h (lv:=6) (Nat.le_refl _)
  have e:(⟨#[45]⟩:ByteArray).size=1:=rfl
  rw[ByteArray.size_append,e]
  rw[brB6]
  omega
 ·exact Nat.le_trans (oneW_steps _ _) (by have:=h.steps;omega)
 ·rw[oneW_fix];exact h.fix hf
theorem Pc.nott(hC:∀ E,C E→E.Ok)(h:Pc C t b k 2 len dep prt st fx):Pc C (⟨#[110,111,116,32]⟩++tiedT t b 6) 6 (oneW 9 k) 2 (len+4) dep (prt+1) (st+1) fx:=by
 refine ⟨⟨dep,by simp[brB],fun E hE=>?_⟩, ?_,by omega,by omega,fit_not h.fit, ?_,oneW_one _ _ h.one,fun hf=>?_⟩
 ·rw[toL_app,tlnot]
  exact IsP.nott (hC E hE) (tie_is hC h (Nat.le_refl _) E hE)
 ·have:=tie_size h (lv:=6) (Nat.le_refl _)
  have e:(⟨#[110,111,116,32]⟩:ByteArray).size=4:=rfl
  rw[ByteArray.size_append,e]
  rw[brB6]
  omega
 ·exact Nat.le_trans (oneW_steps _ _) (by have:=h.steps;omega)
 ·rw[oneW_fix];exact h.fix hf
theorem Pc.loosed(hC:∀ E,C E→E.Ok)(h:Pc C t b k kd len dep prt st fx):Pc C (looseT t) 6 k kd (len+3) (dep+1) prt st fx:=by
 obtain ⟨d,hd,hi⟩:=h.is
 refine ⟨⟨dep+1,by simp[brB],fun E hE=>?_⟩, ?_,by omega,by omega,h.fit,h.steps,h.one,h.fix⟩
 ·unfold looseT
  rw[toL_app,toL_app,tl4032,tl41]
  exact (IsP.brack2 (hC E hE) (hi E hE)).mono (Nat.le_refl _) (by omega) (Nat.le_refl _)
 ·have:=h.len
  have e:(⟨#[40,32]⟩:ByteArray).size=2:=rfl
  have e2:(⟨#[41]⟩:ByteArray).size=1:=rfl
  unfold looseT
  rw[ByteArray.size_append,ByteArray.size_append,e,e2]
  rw[brB6]
  omega
theorem twoW_facts(n:Nat)(p q:Wo)(hp:1≤p.steps)(hq:1≤q.steps):(twoW n p q).steps≤p.steps+q.steps+1∧1≤(twoW n p q).steps∧(twoW n p q).fix=(p.fix&&q.fix):=by
 unfold twoW
 split
 ·exact ⟨by simp only;omega,hp,rfl⟩
 ·split
  ·exact ⟨by simp only;omega,by simp only;omega,rfl⟩
  ·refine ⟨settle_le ⟨_,_,_,_⟩ (by simp), ?_,settle_fix _⟩
   rw[(settle_eq _).2.2.2]
   split
   ·exact Nat.le_refl _
   ·simp only;omega
theorem choW_facts(n:Nat)(p q:Wo)(hp:1≤p.steps)(hq:1≤q.steps):(choW n p q).steps≤p.steps+q.steps+2∧1≤(choW n p q).steps∧(choW n p q).fix=(p.fix&&q.fix):=by
 have hs:∀ k:Wo,1≤k.steps→1≤(settleW k).steps:=fun k h=>by
  rw[(settle_eq _).2.2.2]
  split
  ·exact Nat.le_refl _
  ·exact h
 unfold choW
 split
 ·exact ⟨by simp only;omega,hp,rfl⟩
 ·split
  ·exact ⟨Nat.le_trans (settle_le ⟨_,_,_,_⟩ (by simp)) (by simp only;omega),hs _ (by simp only;omega),settle_fix _⟩
  ·split
   ·exact ⟨by simp only;omega,by simp only;omega,rfl⟩
   ·exact ⟨Nat.le_trans (settle_le ⟨_,_,_,_⟩ (by simp)) (by simp only;omega),hs _ (by simp only;omega),settle_fix _⟩
def joinT(o t1:ByteArray)(b1:Nat)(t2:ByteArray)(b2 lv:Nat):ByteArray:=tiedT t1 b1 lv++⟨#[32]⟩++o++⟨#[32]⟩++tiedT t2 b2 (lv+1)
theorem join_is{o:ByteArray}{op:Txt}(ho:o.toList=op)(hC:∀ E,C E→E.Ok)(h1:Pc C t1 b1 k1 kd1 len1 dep p1 st1 fx)(h2:Pc C t2 b2 k2 kd2 len2 dep p2 st2 fx)
  (h0:op≠[]) (hbl:blankC (headC op)=false) (hl:runLen op=op.length) (hm:mayT op=true) (hp:0<bindsT op) (hc1:op≠cOpen) (hc2:op≠cClose) (hkd:madeT op kd1 kd2=kd) (hk0:kd≠0) (hfit:FitW (binW (kindP op) k1 k2) kd)
  (hst:(binW (kindP op) k1 k2).steps≤st1+st2+2) (hone:1≤(binW (kindP op) k1 k2).steps) (hfx:(binW (kindP op) k1 k2).fix=(k1.fix&&k2.fix)) :
  Pc C (joinT o t1 b1 t2 b2 (bindsT op)) (bindsT op) (binW (kindP op) k1 k2) kd (len1+len2+op.length+4) (dep+1) (p1+p2+1) (st1+st2+2) fx:=by
 have hb5:=bindsT_le op
 refine ⟨⟨dep,by unfold brB;split <;> omega,fun E hE=>?_⟩, ?_,hp,by omega,hfit,hst,hone,fun hf=>?_⟩
 ·have g1:=tie_is hC h1 (lv:=bindsT op) (by omega) E hE
  have g2:=tie_is hC h2 (lv:=bindsT op+1) (by omega) E hE
  have:=IsP.two (hC E hE) g1 g2 h0 hbl hl hm hp hc1 hc2 (Nat.le_refl _) (Nat.lt_succ_self _) hkd hk0 (Nat.le_refl _) (Nat.le_refl _)
  unfold joinT
  rw[toL_app,toL_app,toL_app,toL_app,ho]
  have e:(⟨#[32]⟩:ByteArray).toList=[32]:=toL_mk [32]
  rw[e]
  simpa using this
 ·have g1:=tie_size h1 (lv:=bindsT op) (by omega)
  have g2:=tie_size h2 (lv:=bindsT op+1) (by omega)
  have e:(⟨#[32]⟩:ByteArray).size=1:=rfl
  have eo:o.size=op.length:=by rw[← ho,toList_length]
  unfold joinT
  rw[ByteArray.size_append,ByteArray.size_append,ByteArray.size_append,ByteArray.size_append,e,eo]
  unfold brB
  split <;> omega
 ·rw[hfx,h1.fix hf,h2.fix hf];rfl
theorem Pc.arith{o:ByteArray}{op:Txt}(ho:o.toList=op)(hop:op=cPlus∨op=cMinus∨op=cTimes∨op=cDiv∨op=cMod)(hC:∀ E,C E→E.Ok)(h1:Pc C t1 b1 k1 1 len1 dep p1 st1 fx)(h2:Pc C t2 b2 k2 1 len2 dep p2 st2 fx) :
  Pc C (joinT o t1 b1 t2 b2 (bindsT op)) (bindsT op) (twoW (kindP op) k1 k2) 1 (len1+len2+5) (dep+1) (p1+p2+1) (st1+st2+2) fx:=by
 have hf:=twoW_facts (kindP op) k1 k2 h1.one h2.one
 have s1:=h1.steps
 have s2:=h2.steps
 have hb:binW (kindP op) k1 k2=twoW (kindP op) k1 k2:=by
  unfold binW
  rw[show isChK (kindP op)=false by rcases hop with rfl | rfl | rfl | rfl | rfl <;> decide]
  rfl
 have hlen:op.length=1:=by rcases hop with rfl | rfl | rfl | rfl | rfl <;> rfl
 have J:=join_is (C:=C) (kd:=1) ho hC h1 h2 (by rcases hop with rfl | rfl | rfl | rfl | rfl <;> decide) (by rcases hop with rfl | rfl | rfl | rfl | rfl <;> decide) (by rcases hop with rfl | rfl | rfl | rfl | rfl <;> decide) (by rcases hop with rfl | rfl | rfl | rfl | rfl <;> decide) (by rcases hop with rfl | rfl | rfl | rfl | rfl <;> decide) (by rcases hop with rfl | rfl | rfl | rfl | rfl <;> decide) (by rcases hop with rfl | rfl | rfl | rfl | rfl <;> decide) (by rcases hop with rfl | rfl | rfl | rfl | rfl <;> decide) (by decide) (by rw[hb];exact fit_two (fun h=>by cases h) h1.fit h2.fit) (by rw[hb];omega) (by rw[hb];exact hf.2.1) (by rw[hb];exact hf.2.2)
 rw[hb,hlen]at J
 exact J
theorem Pc.compare{o:ByteArray}{op:Txt}(ho:o.toList=op)(hop:op=cLess∨op=cMost∨op=cEq∨op=cNeq)(hkd:kd=1∨(kd=3∧(op=cEq∨op=cNeq)))(hC:∀ E,C E→E.Ok)(h1:Pc C t1 b1 k1 kd len1 dep p1 st1 fx)(h2:Pc C t2 b2 k2 kd len2 dep p2 st2 fx) :
  Pc C (joinT o t1 b1 t2 b2 3) 3 (twoW (kindP op) k1 k2) 2 (len1+len2+6) (dep+1) (p1+p2+1) (st1+st2+2) fx:=by
 have hf:=twoW_facts (kindP op) k1 k2 h1.one h2.one
 have s1:=h1.steps
 have s2:=h2.steps
 have hb:binW (kindP op) k1 k2=twoW (kindP op) k1 k2:=by
  unfold binW
  rw[show isChK (kindP op)=false by rcases hop with rfl | rfl | rfl | rfl <;> decide]
  rfl
 have hlen:op.length≤2:=by rcases hop with rfl | rfl | rfl | rfl <;> decide
 have hb3:bindsT op=3:=by rcases hop with rfl | rfl | rfl | rfl <;> decide
 have h9:9≤opK (kindP op) 2:=by rcases hop with rfl | rfl | rfl | rfl <;> decide
 have hmk:madeT op kd kd=2:=by
  rcases hkd with rfl | ⟨rfl,rfl | rfl⟩
  ·rcases hop with rfl | rfl | rfl | rfl <;> decide
  ·decide
  ·decide
 have J:=join_is (C:=C) (kd:=2) ho hC h1 h2 (by rcases hop with rfl | rfl | rfl | rfl <;> decide) (by rcases hop with rfl | rfl | rfl | rfl <;> decide) (by rcases hop with rfl | rfl | rfl | rfl <;> decide) (by rcases hop with rfl | rfl | rfl | rfl <;> decide) (by rcases hop with rfl | rfl | rfl | rfl <;> decide) (by rcases hop with rfl | rfl | rfl | rfl <;> decide) (by rcases hop with rfl | rfl | rfl | rfl <;> decide) hmk (by decide) (by rw[hb];exact fit_two (fun _=>h9) h1.fit h2.fit) (by rw[hb];omega) (by rw[hb];exact hf.2.1) (by rw[hb];exact hf.2.2)
 rw[hb,hb3]at J
 exact J.mono (by omega) (Nat.le_refl _) (Nat.le_refl _) (Nat.le_refl _)
theorem Pc.choose{o:ByteArray}{op:Txt}(ho:o.toList=op)(hop:op=cAnd∨op=cOr)(hC:∀ E,C E→E.Ok)(h1:Pc C t1 b1 k1 2 len1 dep p1 st1 fx)(h2:Pc C t2 b2 k2 2 len2 dep p2 st2 fx) :
  Pc C (joinT o t1 b1 t2 b2 (bindsT op)) (bindsT op) (choW (kindP op) k1 k2) 2 (len1+len2+7) (dep+1) (p1+p2+1) (st1+st2+2) fx:=by
 have hf:=choW_facts (kindP op) k1 k2 h1.one h2.one
 have s1:=h1.steps
 have s2:=h2.steps
 have hb:binW (kindP op) k1 k2=choW (kindP op) k1 k2:=by
  unfold binW
  rw[show isChK (kindP op)=true by rcases hop with rfl | rfl <;> decide]
  rfl
 have hlen:op.length≤3:=by rcases hop with rfl | rfl <;> decide
 have hk:kindP op=7∨kindP op=8:=by rcases hop with rfl | rfl <;> decide
 have J:=join_is (C:=C) (kd:=2) ho hC h1 h2 (by rcases hop with rfl | rfl <;> decide) (by rcases hop with rfl | rfl <;> decide) (by rcases hop with rfl | rfl <;> decide) (by rcases hop with rfl | rfl <;> decide) (by rcases hop with rfl | rfl <;> decide) (by rcases hop with rfl | rfl <;> decide) (by rcases hop with rfl | rfl <;> decide) (by rcases hop with rfl | rfl <;> decide) (by decide) (by rw[hb];exact fit_cho hk h1.fit h2.fit) (by rw[hb];omega) (by rw[hb];exact hf.2.1) (by rw[hb];exact hf.2.2)
 rw[hb]at J
 exact J.mono (by omega) (Nat.le_refl _) (Nat.le_refl _) (Nat.le_refl _)
end
theorem fin_blk{w1:World}{rb:Nat}{T:TypeId}(h:Blk w1 rb #[.int .i64 0,.int .i64 0,.int .i64 0] T)(k v n:Value):Blk (((w1.setCell ⟨rb,0,none⟩ k).setCell ⟨rb,1,none⟩ v).setCell ⟨rb,2,none⟩ n) rb #[k,v,n] T:=((h.set 0 k).set 1 v).set 2 n
theorem fin_below{B rb:Nat}{w w1:World}(h:Below B w w1)(hB:B≤rb)(k v n:Value):Below B w (((w1.setCell ⟨rb,0,none⟩ k).setCell ⟨rb,1,none⟩ v).setCell ⟨rb,2,none⟩ n):=((h.setCell (p:=⟨rb,0,none⟩) hB k).setCell (p:=⟨rb,1,none⟩) hB v).setCell (p:=⟨rb,2,none⟩) hB n
end Go.Proofs.YtpcjadaeolkngaaGreatDoor
