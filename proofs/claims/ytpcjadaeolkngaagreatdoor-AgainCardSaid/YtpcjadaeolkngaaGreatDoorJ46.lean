/-
  The Maker in memory, with its feed's bytes; a leaf that is a class.
-/
import Derived.Test.YtpcjadaeolkngaaGreatDoorJ45
set_option linter.unusedVariables false
set_option linter.unusedSimpArgs false
namespace Go.Proofs.YtpcjadaeolkngaaGreatDoor
open Go.RowKit
def classL(k:Int):ByteArray:=if k=0 then ⟨#[100,114,121]⟩ else if k=1 then ⟨#[99,111,108,100]⟩ else if k=2 then ⟨#[115,97,102,101]⟩ else if k=3 then ⟨#[110,101,101,100]⟩ else ⟨#[104,97,115]⟩
def classG(st:Bool)(g:Fd):PT:=(classL (if st then (nx 5 g).1 % 3 else (nx 5 g).1),6,(nx 5 g).2)
theorem classG_eq{st:Bool}{g g':Fd}{r:Int}{t:ByteArray}(h:nx 5 g=(r,g'))(ht:classL (if st then r % 3 else r)=t):classG st g=(t,6,g'):=by
 unfold classG
 rw[h,ht]
structure MakG(w:World)(mb fb:Nat)(x:Itm)(y:Bn)(l0 l1 l2 l3 l4 l5:Value)(st:Bool)(g:Fd):Prop where
 blk:Blk w mb #[.pointer (some ⟨fb,0,none⟩),.int .i64 x.size,.int .i64 x.speed,.int .i64 x.need,.int .i64 y.id,.int .i64 y.zone,.int .i64 y.cap,.int .i64 y.used,.int .i64 y.has,l0,l1,l2,l3,l4,l5,.bool st] 64
 fed:FedAt w fb g
 ne:mb≠fb
theorem MakG.next{w w':World}{mb fb:Nat}{x:Itm}{y:Bn}{l0 l1 l2 l3 l4 l5:Value}{st:Bool}{g g':Fd}(h:MakG w mb fb x y l0 l1 l2 l3 l4 l5 st g)(hF:FedAt w' fb g')(hB:But fb w w'):MakG w' mb fb x y l0 l1 l2 l3 l4 l5 st g':=⟨h.blk.but hB h.ne,hF,h.ne⟩
theorem MakG.below{w w':World}{mb fb:Nat}{x:Itm}{y:Bn}{l0 l1 l2 l3 l4 l5:Value}{st:Bool}{g:Fd}(h:MakG w mb fb x y l0 l1 l2 l3 l4 l5 st g)(hb:Below w.heap.size w w'):MakG w' mb fb x y l0 l1 l2 l3 l4 l5 st g:=⟨h.blk.below hb h.blk.lt,h.fed.below hb,h.ne⟩
structure OutG(w wx:World)(mb fb:Nat)(x:Itm)(y:Bn)(l0 l1 l2 l3 l4 l5:Value)(st:Bool)(g:Fd)(c:Array Value):Prop where
 mak:MakG wx mb fb x y l0 l1 l2 l3 l4 l5 st g
 res:Blk wx w.heap.size c 62
 bl:But fb w wx
 m:mb<w.heap.size
 f:fb<w.heap.size
section
variable {w wx w':World} {mb fb:Nat} {x:Itm} {y:Bn} {l0 l1 l2 l3 l4 l5:Value} {st:Bool} {g g':Fd} {c:Array Value}
theorem outG_start(h:MakG w mb fb x y l0 l1 l2 l3 l4 l5 st g)(c:Array Value):OutG w (w.alloc (.cells c 62)) mb fb x y l0 l1 l2 l3 l4 l5 st g c :=
 ⟨h.below (box3 _ _),Blk.new w _ _,But.of (box3 _ _),h.blk.lt,h.fed.lt⟩
theorem OutG.next(h:OutG w wx mb fb x y l0 l1 l2 l3 l4 l5 st g c)(hF:FedAt w' fb g')(hB:But fb wx w'):OutG w w' mb fb x y l0 l1 l2 l3 l4 l5 st g' c :=
 ⟨h.mak.next hF hB,h.res.but hB (by have:=h.f;omega),h.bl.trans hB,h.m,h.f⟩
theorem OutG.setO(h:OutG w wx mb fb x y l0 l1 l2 l3 l4 l5 st g c)(i:Nat)(v:Value):OutG w (wx.setCell ⟨w.heap.size,i,none⟩ v) mb fb x y l0 l1 l2 l3 l4 l5 st g (c.setIfInBounds i v) :=
 ⟨⟨h.mak.blk.other _ _ (by have:=h.m;simp only;omega),h.mak.fed.other _ _ _ (by have:=h.f;omega),h.mak.ne⟩,h.res.set i v,h.bl.st _ _ (Nat.le_refl _) v,h.m,h.f⟩
def finG(w wx:World)(a b c d e f:Value):World :=
 (((((wx.setCell ⟨w.heap.size,0,none⟩ a).setCell ⟨w.heap.size,1,none⟩ b).setCell ⟨w.heap.size,2,none⟩ c).setCell ⟨w.heap.size,3,none⟩ d).setCell ⟨w.heap.size,4,none⟩ e).setCell ⟨w.heap.size,5,none⟩ f
theorem OutG.fin{z0 z1 z2 z3 z4 z5:Value}(h:OutG w wx mb fb x y l0 l1 l2 l3 l4 l5 st g #[z0,z1,z2,z3,z4,z5])(a b c d e f:Value):Blk (finG w wx a b c d e f) w.heap.size #[a,b,c,d,e,f] 62∧MakG (finG w wx a b c d e f) mb fb x y l0 l1 l2 l3 l4 l5 st g∧But fb w (finG w wx a b c d e f):=by
 have g:=(((((h.setO 0 a).setO 1 b).setO 2 c).setO 3 d).setO 4 e).setO 5 f
 exact ⟨g.res,g.mak,g.bl⟩
end
set_option maxHeartbeats 4000000 in
set_option maxRecDepth 100000 in
theorem classG_still(mb fb:Nat)(x:Itm)(y:Bn)(l0 l1 l2 l3 l4 l5:Value)(g:Fd)(w:World)(h:MakG w mb fb x y l0 l1 l2 l3 l4 l5 true g) :
  Calls Tryz.prog 63 #[.pointer (some ⟨mb,0,none⟩)] w fun e w'=>∃ t k g',(ClassP true x y t k∧classG true g=(t,6,g')∧e=.returned (pcV t 6 k))∧MakG w' mb fb x y l0 l1 l2 l3 l4 l5 true g'∧But fb w w':=by
 have HD:=mH (outG_start h ag0)
 clear h
 go_enter Tryz.func63,Tryz.ntmps63
 go_upto_region 1 with fail
 generalize w.alloc (.cells ag0 62)=W at HD ⊢
 have c0:=HD.out.mak.blk.cell 0
 go_upto_region 2 with (go_at_call 19;refine (next_fed 5 (by omega) _ _ _ HD.out.mak.fed).mono ?_;rintro e w1 ⟨r,g1,⟨hg,hr0,hr5,rfl⟩,hF,hB⟩;have HG:=mH hg;replace HD:=mH (HD.out.next hF hB);clear hF hB hg c0;have c:=HD.out.mak.blk.cell;have oo:=HD.out.res.cell;have oq:=HD.out.res.free)
 obtain rfl | rfl | rfl | rfl | rfl:r=0∨r=1∨r=2∨r=3∨r=4:=by omega
 all_goals go_wp2
 ·obtain ⟨hfb,hmk,hbl⟩:=HD.out.fin (.string ⟨#[100,114,121]⟩) (.int .i64 6) (.int .i64 0) (.int .i64 0) (.int .i64 1) (.bool true)
  have gg:=hfb.cell
  unfold finG at gg hbl hmk
  exact bodyPost_ret (v:=.agg #[.string ⟨#[100,114,121]⟩,.int .i64 6,.int .i64 0,.int .i64 0,.int .i64 1,.bool true]) (by simp[results,Tryz.results63,go_sem,gg]) rfl ⟨⟨#[100,114,121]⟩,⟨0,0,1,true⟩,g1,⟨.inl ⟨rfl,rfl⟩,classG_eq HG.out rfl,rfl⟩,hmk,hbl⟩
 ·obtain ⟨hfb,hmk,hbl⟩:=HD.out.fin (.string ⟨#[99,111,108,100]⟩) (.int .i64 6) (.int .i64 1) (.int .i64 0) (.int .i64 1) (.bool true)
  have gg:=hfb.cell
  unfold finG at gg hbl hmk
  exact bodyPost_ret (v:=.agg #[.string ⟨#[99,111,108,100]⟩,.int .i64 6,.int .i64 1,.int .i64 0,.int .i64 1,.bool true]) (by simp[results,Tryz.results63,go_sem,gg]) rfl ⟨⟨#[99,111,108,100]⟩,⟨1,0,1,true⟩,g1,⟨.inr (.inl ⟨rfl,rfl⟩),classG_eq HG.out rfl,rfl⟩,hmk,hbl⟩
 ·obtain ⟨hfb,hmk,hbl⟩:=HD.out.fin (.string ⟨#[115,97,102,101]⟩) (.int .i64 6) (.int .i64 2) (.int .i64 0) (.int .i64 1) (.bool true)
  have gg:=hfb.cell
  unfold finG at gg hbl hmk
  exact bodyPost_ret (v:=.agg #[.string ⟨#[115,97,102,101]⟩,.int .i64 6,.int .i64 2,.int .i64 0,.int .i64 1,.bool true]) (by simp[results,Tryz.results63,go_sem,gg]) rfl ⟨⟨#[115,97,102,101]⟩,⟨2,0,1,true⟩,g1,⟨.inr (.inr (.inl ⟨rfl,rfl⟩)),classG_eq HG.out rfl,rfl⟩,hmk,hbl⟩
 ·obtain ⟨hfb,hmk,hbl⟩:=HD.out.fin (.string ⟨#[100,114,121]⟩) (.int .i64 6) (.int .i64 0) (.int .i64 0) (.int .i64 1) (.bool true)
  have gg:=hfb.cell
  unfold finG at gg hbl hmk
  exact bodyPost_ret (v:=.agg #[.string ⟨#[100,114,121]⟩,.int .i64 6,.int .i64 0,.int .i64 0,.int .i64 1,.bool true]) (by simp[results,Tryz.results63,go_sem,gg]) rfl ⟨⟨#[100,114,121]⟩,⟨0,0,1,true⟩,g1,⟨.inl ⟨rfl,rfl⟩,classG_eq HG.out rfl,rfl⟩,hmk,hbl⟩
 ·obtain ⟨hfb,hmk,hbl⟩:=HD.out.fin (.string ⟨#[99,111,108,100]⟩) (.int .i64 6) (.int .i64 1) (.int .i64 0) (.int .i64 1) (.bool true)
  have gg:=hfb.cell
  unfold finG at gg hbl hmk
  exact bodyPost_ret (v:=.agg #[.string ⟨#[99,111,108,100]⟩,.int .i64 6,.int .i64 1,.int .i64 0,.int .i64 1,.bool true]) (by simp[results,Tryz.results63,go_sem,gg]) rfl ⟨⟨#[99,111,108,100]⟩,⟨1,0,1,true⟩,g1,⟨.inr (.inl ⟨rfl,rfl⟩),classG_eq HG.out rfl,rfl⟩,hmk,hbl⟩
set_option maxHeartbeats 4000000 in
set_option maxRecDepth 100000 in
theorem classG_free(mb fb:Nat)(x:Itm)(y:Bn)(l0 l1 l2 l3 l4 l5:Value)(g:Fd)(w:World)(h:MakG w mb fb x y l0 l1 l2 l3 l4 l5 false g) :
  Calls Tryz.prog 63 #[.pointer (some ⟨mb,0,none⟩)] w fun e w'=>∃ t k g',(ClassP false x y t k∧classG false g=(t,6,g')∧e=.returned (pcV t 6 k))∧MakG w' mb fb x y l0 l1 l2 l3 l4 l5 false g'∧But fb w w':=by
 have HD:=mH (outG_start h ag0)
 clear h
 go_enter Tryz.func63,Tryz.ntmps63
 go_upto_region 1 with fail
 generalize w.alloc (.cells ag0 62)=W at HD ⊢
 have c0:=HD.out.mak.blk.cell 0
 go_upto_region 2 with (go_at_call 19;refine (next_fed 5 (by omega) _ _ _ HD.out.mak.fed).mono ?_;rintro e w1 ⟨r,g1,⟨hg,hr0,hr5,rfl⟩,hF,hB⟩;have HG:=mH hg;replace HD:=mH (HD.out.next hF hB);clear hF hB hg c0;have c:=HD.out.mak.blk.cell;have oo:=HD.out.res.cell;have oq:=HD.out.res.free)
 obtain rfl | rfl | rfl | rfl | rfl:r=0∨r=1∨r=2∨r=3∨r=4:=by omega
 all_goals go_wp2
 ·obtain ⟨hfb,hmk,hbl⟩:=HD.out.fin (.string ⟨#[100,114,121]⟩) (.int .i64 6) (.int .i64 0) (.int .i64 0) (.int .i64 1) (.bool true)
  have gg:=hfb.cell
  unfold finG at gg hbl hmk
  exact bodyPost_ret (v:=.agg #[.string ⟨#[100,114,121]⟩,.int .i64 6,.int .i64 0,.int .i64 0,.int .i64 1,.bool true]) (by simp[results,Tryz.results63,go_sem,gg]) rfl ⟨⟨#[100,114,121]⟩,⟨0,0,1,true⟩,g1,⟨.inl ⟨rfl,rfl⟩,classG_eq HG.out rfl,rfl⟩,hmk,hbl⟩
 ·obtain ⟨hfb,hmk,hbl⟩:=HD.out.fin (.string ⟨#[99,111,108,100]⟩) (.int .i64 6) (.int .i64 1) (.int .i64 0) (.int .i64 1) (.bool true)
  have gg:=hfb.cell
  unfold finG at gg hbl hmk
  exact bodyPost_ret (v:=.agg #[.string ⟨#[99,111,108,100]⟩,.int .i64 6,.int .i64 1,.int .i64 0,.int .i64 1,.bool true]) (by simp[results,Tryz.results63,go_sem,gg]) rfl ⟨⟨#[99,111,108,100]⟩,⟨1,0,1,true⟩,g1,⟨.inr (.inl ⟨rfl,rfl⟩),classG_eq HG.out rfl,rfl⟩,hmk,hbl⟩
 ·obtain ⟨hfb,hmk,hbl⟩:=HD.out.fin (.string ⟨#[115,97,102,101]⟩) (.int .i64 6) (.int .i64 2) (.int .i64 0) (.int .i64 1) (.bool true)
  have gg:=hfb.cell
  unfold finG at gg hbl hmk
  exact bodyPost_ret (v:=.agg #[.string ⟨#[115,97,102,101]⟩,.int .i64 6,.int .i64 2,.int .i64 0,.int .i64 1,.bool true]) (by simp[results,Tryz.results63,go_sem,gg]) rfl ⟨⟨#[115,97,102,101]⟩,⟨2,0,1,true⟩,g1,⟨.inr (.inr (.inl ⟨rfl,rfl⟩)),classG_eq HG.out rfl,rfl⟩,hmk,hbl⟩
 ·obtain ⟨hfb,hmk,hbl⟩:=HD.out.fin (.string ⟨#[110,101,101,100]⟩) (.int .i64 6) (.int .i64 x.need) (.int .i64 0) (.int .i64 1) (.bool false)
  have gg:=hfb.cell
  unfold finG at gg hbl hmk
  exact bodyPost_ret (v:=.agg #[.string ⟨#[110,101,101,100]⟩,.int .i64 6,.int .i64 x.need,.int .i64 0,.int .i64 1,.bool false]) (by simp[results,Tryz.results63,go_sem,gg]) rfl ⟨⟨#[110,101,101,100]⟩,⟨x.need,0,1,false⟩,g1,⟨.inr (.inr (.inr (.inl ⟨rfl,rfl,rfl⟩))),classG_eq HG.out rfl,rfl⟩,hmk,hbl⟩
 ·obtain ⟨hfb,hmk,hbl⟩:=HD.out.fin (.string ⟨#[104,97,115]⟩) (.int .i64 6) (.int .i64 y.has) (.int .i64 0) (.int .i64 1) (.bool false)
  have gg:=hfb.cell
  unfold finG at gg hbl hmk
  exact bodyPost_ret (v:=.agg #[.string ⟨#[104,97,115]⟩,.int .i64 6,.int .i64 y.has,.int .i64 0,.int .i64 1,.bool false]) (by simp[results,Tryz.results63,go_sem,gg]) rfl ⟨⟨#[104,97,115]⟩,⟨y.has,0,1,false⟩,g1,⟨.inr (.inr (.inr (.inr ⟨rfl,rfl,rfl⟩))),classG_eq HG.out rfl,rfl⟩,hmk,hbl⟩
theorem classG_any(mb fb:Nat)(x:Itm)(y:Bn)(l0 l1 l2 l3 l4 l5:Value)(st:Bool)(g:Fd)(w:World)(h:MakG w mb fb x y l0 l1 l2 l3 l4 l5 st g) :
  Calls Tryz.prog 63 #[.pointer (some ⟨mb,0,none⟩)] w fun e w'=>∃ t k g',(ClassP st x y t k∧classG st g=(t,6,g')∧e=.returned (pcV t 6 k))∧MakG w' mb fb x y l0 l1 l2 l3 l4 l5 st g'∧But fb w w':=by
 cases st with
 | true=>exact classG_still mb fb x y l0 l1 l2 l3 l4 l5 g w h
 | false=>exact classG_free mb fb x y l0 l1 l2 l3 l4 l5 g w h
def numL(k:Int)(lt:ByteArray):ByteArray:=if k=0 then ⟨#[48]⟩ else if k=1 then ⟨#[49]⟩ else if k=2 then ⟨#[50]⟩ else if k=3 then ⟨#[55]⟩ else if k=4 then ⟨#[49,50]⟩ else if k=5 then ⟨#[49,48,48]⟩ else if k=6 then ⟨#[52,48,48,48,48,48,48,48,48,48]⟩ else if k=7 then ⟨#[48,48,55]⟩ else if k=8 then (if lt.size=0 then ⟨#[115,105,122,101]⟩ else lt) else if k=9 then ⟨#[115,105,122,101]⟩ else if k=10 then ⟨#[115,112,101,101,100]⟩ else if k=11 then ⟨#[122,111,110,101]⟩ else if k=12 then ⟨#[99,97,112]⟩ else ⟨#[117,115,101,100]⟩
def numG(st:Bool)(lt:ByteArray)(g:Fd):PT:=(numL (if st then (nx 14 g).1 % 8 else (nx 14 g).1) lt,6,(nx 14 g).2)
theorem numG_eq{st:Bool}{lt:ByteArray}{g g':Fd}{r:Int}{t:ByteArray}(h:nx 14 g=(r,g'))(ht:numL (if st then r % 8 else r) lt=t):numG st lt g=(t,6,g'):=by
 unfold numG
 rw[h,ht]
theorem numL_let{lt:ByteArray}(h:¬ lt.size=0):numL (if false=true then (8:Int) % 8 else 8) lt=lt:=by
 show (if lt.size=0 then _ else lt)=lt
 rw[if_neg h]
def lsAG:Array Value:=#[.string ⟨#[48]⟩,.string ⟨#[49]⟩,.string ⟨#[50]⟩,.string ⟨#[55]⟩,.string ⟨#[49,50]⟩,.string ⟨#[49,48,48]⟩,.string ⟨#[52,48,48,48,48,48,48,48,48,48]⟩,.string ⟨#[48,48,55]⟩]
def vsAG:Array Value:=#[.int .i64 0,.int .i64 1,.int .i64 2,.int .i64 7,.int .i64 12,.int .i64 100,.int .i64 4000000000,.int .i64 7]
structure OutNG(w wx:World)(mb fb:Nat)(x:Itm)(y:Bn)(l0 l1 l2 l3 l4 l5:Value)(st:Bool)(g:Fd)(c:Array Value):Prop where
 om:OutG w wx mb fb x y l0 l1 l2 l3 l4 l5 st g c
 ls:Blk wx (w.heap.size+1) lsAG 9
 vs:Blk wx (w.heap.size+1+1) vsAG 3
theorem outNG_start{w:World}{mb fb:Nat}{x:Itm}{y:Bn}{l0 l1 l2 l3 l4 l5:Value}{st:Bool}{g:Fd}(h:MakG w mb fb x y l0 l1 l2 l3 l4 l5 st g)(c:Array Value):OutNG w (((w.alloc (.cells c 62)).alloc (.cells #[.string ⟨#[48]⟩,.string ⟨#[49]⟩,.string ⟨#[50]⟩,.string ⟨#[55]⟩,.string ⟨#[49,50]⟩,.string ⟨#[49,48,48]⟩,.string ⟨#[52,48,48,48,48,48,48,48,48,48]⟩,.string ⟨#[48,48,55]⟩] 9)).alloc (.cells #[.int .i64 0,.int .i64 1,.int .i64 2,.int .i64 7,.int .i64 12,.int .i64 100,.int .i64 4000000000,.int .i64 7] 3)) mb fb x y l0 l1 l2 l3 l4 l5 st g c:=by
 have h0:=outG_start h c
 have hb:=((Below.refl (w.alloc (.cells c 62)).heap.size (w.alloc (.cells c 62))).alloc (Nat.le_refl _) (.cells #[.string ⟨#[48]⟩,.string ⟨#[49]⟩,.string ⟨#[50]⟩,.string ⟨#[55]⟩,.string ⟨#[49,50]⟩,.string ⟨#[49,48,48]⟩,.string ⟨#[52,48,48,48,48,48,48,48,48,48]⟩,.string ⟨#[48,48,55]⟩] 9)).alloc (by simp) (.cells #[.int .i64 0,.int .i64 1,.int .i64 2,.int .i64 7,.int .i64 12,.int .i64 100,.int .i64 4000000000,.int .i64 7] 3)
 refine ⟨⟨h0.mak.below hb,h0.res.below hb h0.res.lt,h0.bl.trans (But.of hb),h0.m,h0.f⟩, ?_, ?_⟩
 ·have:=(Blk.new (w.alloc (.cells c 62)) #[.string ⟨#[48]⟩,.string ⟨#[49]⟩,.string ⟨#[50]⟩,.string ⟨#[55]⟩,.string ⟨#[49,50]⟩,.string ⟨#[49,48,48]⟩,.string ⟨#[52,48,48,48,48,48,48,48,48,48]⟩,.string ⟨#[48,48,55]⟩] 9).alloc (.cells #[.int .i64 0,.int .i64 1,.int .i64 2,.int .i64 7,.int .i64 12,.int .i64 100,.int .i64 4000000000,.int .i64 7] 3)
  rw[show (w.alloc (.cells c 62)).heap.size=w.heap.size+1 by simp]at this
  exact this
 ·have:=Blk.new ((w.alloc (.cells c 62)).alloc (.cells #[.string ⟨#[48]⟩,.string ⟨#[49]⟩,.string ⟨#[50]⟩,.string ⟨#[55]⟩,.string ⟨#[49,50]⟩,.string ⟨#[49,48,48]⟩,.string ⟨#[52,48,48,48,48,48,48,48,48,48]⟩,.string ⟨#[48,48,55]⟩] 9)) #[.int .i64 0,.int .i64 1,.int .i64 2,.int .i64 7,.int .i64 12,.int .i64 100,.int .i64 4000000000,.int .i64 7] 3
  rw[show ((w.alloc (.cells c 62)).alloc (.cells #[.string ⟨#[48]⟩,.string ⟨#[49]⟩,.string ⟨#[50]⟩,.string ⟨#[55]⟩,.string ⟨#[49,50]⟩,.string ⟨#[49,48,48]⟩,.string ⟨#[52,48,48,48,48,48,48,48,48,48]⟩,.string ⟨#[48,48,55]⟩] 9)).heap.size=w.heap.size+1+1 by simp]at this
  exact this
theorem OutNG.next{w wx w':World}{mb fb:Nat}{x:Itm}{y:Bn}{l0 l1 l2 l3 l4 l5:Value}{st:Bool}{g g':Fd}{c:Array Value}(h:OutNG w wx mb fb x y l0 l1 l2 l3 l4 l5 st g c)(hF:FedAt w' fb g')(hB:But fb wx w'):OutNG w w' mb fb x y l0 l1 l2 l3 l4 l5 st g' c :=
 ⟨h.om.next hF hB,h.ls.but hB (by have:=h.om.f;omega),h.vs.but hB (by have:=h.om.f;omega)⟩
theorem OutNG.setO{w wx:World}{mb fb:Nat}{x:Itm}{y:Bn}{l0 l1 l2 l3 l4 l5:Value}{st:Bool}{g:Fd}{c:Array Value}(h:OutNG w wx mb fb x y l0 l1 l2 l3 l4 l5 st g c)(i:Nat)(v:Value):OutNG w (wx.setCell ⟨w.heap.size,i,none⟩ v) mb fb x y l0 l1 l2 l3 l4 l5 st g (c.setIfInBounds i v) :=
 ⟨h.om.setO i v,h.ls.other _ _ (by simp only;omega),h.vs.other _ _ (by simp only;omega)⟩
theorem OutNG.drew{w wx:World}{mb fb:Nat}{x:Itm}{y:Bn}{l0 l1 l2 l3 l4 l5:Value}{st:Bool}{g:Fd}{c:Array Value}(h:OutNG w wx mb fb x y l0 l1 l2 l3 l4 l5 st g c):OutNG w wx.drew mb fb x y l0 l1 l2 l3 l4 l5 st g c :=
 h.next (h.om.mak.fed.below (below_drewN (Below.refl _ _) 1)) (But.of (below_drewN (Below.refl _ _) 1))
theorem OutNG.pair{w wx:World}{mb fb:Nat}{x:Itm}{y:Bn}{l0 l1 l2 l3 l4 l5:Value}{st:Bool}{g:Fd}{c:Array Value}(h:OutNG w wx mb fb x y l0 l1 l2 l3 l4 l5 st g c){k:Nat}{a b:Value}(h1:lsAG[k]?=some a)(h2:vsAG[k]?=some b):wx.cell? ⟨w.heap.size+1,k,none⟩=some a∧wx.cell? ⟨w.heap.size+1+1,k,none⟩=some b :=
 ⟨(h.ls.cell k).trans h1,(h.vs.cell k).trans h2⟩
theorem eightG(k:Nat)(hk:k<8)(st:Bool)(x:Itm)(y:Bn)(lt:ByteArray)(lk:Wo):∃ tk vk,lsAG[k]?=some (.string tk)∧vsAG[k]?=some (.int .i64 vk)∧NumP st x y lt lk tk ⟨vk,0,1,true⟩∧numL (k:Int) lt=tk:=by
 obtain rfl | rfl | rfl | rfl | rfl | rfl | rfl | rfl:k=0∨k=1∨k=2∨k=3∨k=4∨k=5∨k=6∨k=7:=by omega
 ·exact ⟨⟨#[48]⟩,0,rfl,rfl,.inl (.inl ⟨rfl,rfl⟩),rfl⟩
 ·exact ⟨⟨#[49]⟩,1,rfl,rfl,.inl (.inr (.inl ⟨rfl,rfl⟩)),rfl⟩
 ·exact ⟨⟨#[50]⟩,2,rfl,rfl,.inl (.inr (.inr (.inl ⟨rfl,rfl⟩))),rfl⟩
 ·exact ⟨⟨#[55]⟩,7,rfl,rfl,.inl (.inr (.inr (.inr (.inl ⟨rfl,rfl⟩)))),rfl⟩
 ·exact ⟨⟨#[49,50]⟩,12,rfl,rfl,.inl (.inr (.inr (.inr (.inr (.inl ⟨rfl,rfl⟩))))),rfl⟩
 ·exact ⟨⟨#[49,48,48]⟩,100,rfl,rfl,.inl (.inr (.inr (.inr (.inr (.inr (.inl ⟨rfl,rfl⟩)))))),rfl⟩
 ·exact ⟨⟨#[52,48,48,48,48,48,48,48,48,48]⟩,4000000000,rfl,rfl,.inl (.inr (.inr (.inr (.inr (.inr (.inr (.inl ⟨rfl,rfl⟩))))))),rfl⟩
 ·exact ⟨⟨#[48,48,55]⟩,7,rfl,rfl,.inl (.inr (.inr (.inr (.inr (.inr (.inr (.inr (⟨rfl,rfl⟩)))))))),rfl⟩
set_option maxHeartbeats 4000000 in
set_option maxRecDepth 100000 in
theorem numberG_still(mb fb:Nat)(x:Itm)(y:Bn)(lt:ByteArray)(lb:Nat)(hlb:lt.size≠0→lb=6)(lk:Wo)(g:Fd)(w:World)(h:MakG w mb fb x y (.string lt) (.int .i64 lb) (.int .i64 lk.v) (.int .i64 lk.flt) (.int .i64 lk.steps) (.bool lk.fix) true g) :
  Calls Tryz.prog 36 #[.pointer (some ⟨mb,0,none⟩)] w fun e w'=>∃ t k g',(NumP true x y lt lk t k∧numG true lt g=(t,6,g')∧e=.returned (pcV t 6 k))∧MakG w' mb fb x y (.string lt) (.int .i64 lb) (.int .i64 lk.v) (.int .i64 lk.flt) (.int .i64 lk.steps) (.bool lk.fix) true g'∧But fb w w':=by
 have HD:=mH (outNG_start h ag0)
 have HLB:=mH hlb
 clear h hlb
 go_enter Tryz.func36,Tryz.ntmps36
 go_upto_region 3 with fail
 generalize ((w.alloc (.cells ag0 62)).alloc (.cells #[.string ⟨#[48]⟩,.string ⟨#[49]⟩,.string ⟨#[50]⟩,.string ⟨#[55]⟩,.string ⟨#[49,50]⟩,.string ⟨#[49,48,48]⟩,.string ⟨#[52,48,48,48,48,48,48,48,48,48]⟩,.string ⟨#[48,48,55]⟩] 9)).alloc (.cells #[.int .i64 0,.int .i64 1,.int .i64 2,.int .i64 7,.int .i64 12,.int .i64 100,.int .i64 4000000000,.int .i64 7] 3)=W at HD ⊢
 have c0:=HD.out.om.mak.blk.cell 0
 go_upto_region 4 with (go_at_call 19;refine (next_fed 14 (by omega) _ _ _ HD.out.om.mak.fed).mono ?_;rintro e w1 ⟨r,g1,⟨hg,hr0,hr5,rfl⟩,hF,hB⟩;have HG:=mH hg;replace HD:=mH (HD.out.next hF hB);clear hF hB hg c0;have c:=HD.out.om.mak.blk.cell;have oo:=HD.out.om.res.cell;have oq:=HD.out.om.res.free)
 obtain ⟨k,hk⟩:∃ k:Nat,(r % 8:Int)=k:=⟨(r % 8).toNat,by omega⟩
 have HKK:=mH hk
 have hk8:k<8:=by omega
 have hkt:Int.tmod r 8=k:=by rw[Int.tmod_eq_emod_of_nonneg hr0];exact hk
 obtain ⟨tk,vk,hl,hv,hnp,hnl⟩:=eightG k hk8 true x y lt lk
 have sk:w1.cell? ⟨w.heap.size+1,k,none⟩=some (.string tk):=(HD.out.ls.cell k).trans hl
 have vk':w1.cell? ⟨w.heap.size+1+1,k,none⟩=some (.int .i64 vk):=(HD.out.vs.cell k).trans hv
 have hk0:(0:Int)≤k:=by omega
 have hk8':(k:Int)<8:=by omega
 have hkd:decide ((k:Int)<8)=true:=by simp;omega
 have HNP:=mH hnp;have HNL:=mH hnl
 have HL:=mH hl
 have HV:=mH hv
 clear hl hv hnp hnl
 go_upto_region 7 with fail
 go_region_held3 (fun w'=>w'.cell? ⟨w.heap.size+1,k,none⟩=some (.string tk)∧w'.cell? ⟨w.heap.size+1+1,k,none⟩=some (.int .i64 vk)) (first | with_reducible exact HD.out.pair HL.out HV.out | with_reducible exact HD.out.drew.pair HL.out HV.out | with_reducible exact ((((((HD.out.setO _ _).setO _ _).setO _ _).setO _ _).setO _ _).setO _ _).pair HL.out HV.out | with_reducible exact ((((((HD.out.setO _ _).setO _ _).setO _ _).setO _ _).setO _ _).setO _ _).drew.pair HL.out HV.out) (fail)
 all_goals go_wp2
 have HF:=((((((HD.out.setO 0 (.string tk)).setO 1 (.int .i64 6)).setO 2 (.int .i64 vk)).setO 3 (.int .i64 0)).setO 4 (.int .i64 1)).setO 5 (.bool true)).drew
 have hfb:=HF.om.res
 have gg:=hfb.cell
 exact bodyPost_ret (v:=.agg #[.string tk,.int .i64 6,.int .i64 vk,.int .i64 0,.int .i64 1,.bool true]) (by simp[results,Tryz.results36,go_sem,gg]) rfl ⟨tk,⟨vk,0,1,true⟩,g1,⟨HNP.out,numG_eq HG.out (by rw[if_pos rfl,HKK.out];exact HNL.out),rfl⟩,HF.om.mak,HF.om.bl⟩
set_option maxHeartbeats 4000000 in
set_option maxRecDepth 100000 in
theorem numberG_free(mb fb:Nat)(x:Itm)(y:Bn)(lt:ByteArray)(lb:Nat)(hlb:lt.size≠0→lb=6)(lk:Wo)(g:Fd)(w:World)(h:MakG w mb fb x y (.string lt) (.int .i64 lb) (.int .i64 lk.v) (.int .i64 lk.flt) (.int .i64 lk.steps) (.bool lk.fix) false g) :
  Calls Tryz.prog 36 #[.pointer (some ⟨mb,0,none⟩)] w fun e w'=>∃ t k g',(NumP false x y lt lk t k∧numG false lt g=(t,6,g')∧e=.returned (pcV t 6 k))∧MakG w' mb fb x y (.string lt) (.int .i64 lb) (.int .i64 lk.v) (.int .i64 lk.flt) (.int .i64 lk.steps) (.bool lk.fix) false g'∧But fb w w':=by
 have HD:=mH (outNG_start h ag0)
 have HLB:=mH hlb
 clear h hlb
 go_enter Tryz.func36,Tryz.ntmps36
 go_upto_region 3 with fail
 generalize ((w.alloc (.cells ag0 62)).alloc (.cells #[.string ⟨#[48]⟩,.string ⟨#[49]⟩,.string ⟨#[50]⟩,.string ⟨#[55]⟩,.string ⟨#[49,50]⟩,.string ⟨#[49,48,48]⟩,.string ⟨#[52,48,48,48,48,48,48,48,48,48]⟩,.string ⟨#[48,48,55]⟩] 9)).alloc (.cells #[.int .i64 0,.int .i64 1,.int .i64 2,.int .i64 7,.int .i64 12,.int .i64 100,.int .i64 4000000000,.int .i64 7] 3)=W at HD ⊢
 have c0:=HD.out.om.mak.blk.cell 0
 go_upto_region 4 with (go_at_call 19;refine (next_fed 14 (by omega) _ _ _ HD.out.om.mak.fed).mono ?_;rintro e w1 ⟨r,g1,⟨hg,hr0,hr5,rfl⟩,hF,hB⟩;have HG:=mH hg;replace HD:=mH (HD.out.next hF hB);clear hF hB hg c0;have c:=HD.out.om.mak.blk.cell;have oo:=HD.out.om.res.cell;have oq:=HD.out.om.res.free)
 by_cases hr8:r<8
 case pos =>
  obtain ⟨k,rfl⟩:∃ k:Nat,r=k:=⟨r.toNat,by omega⟩
  have hk8:k<8:=by omega
  obtain ⟨tk,vk,hl,hv,hnp,hnl⟩:=eightG k hk8 false x y lt lk
  have sk:w1.cell? ⟨w.heap.size+1,k,none⟩=some (.string tk):=(HD.out.ls.cell k).trans hl
  have vk':w1.cell? ⟨w.heap.size+1+1,k,none⟩=some (.int .i64 vk):=(HD.out.vs.cell k).trans hv
  have hk0:(0:Int)≤k:=by omega
  have hk8':(k:Int)<8:=by omega
  have hkd:decide ((k:Int)<8)=true:=by simp;omega
  have HNP:=mH hnp;have HNL:=mH hnl
  have HL:=mH hl
  have HV:=mH hv
  clear hl hv hnp hnl
  go_upto_region 7 with fail
  go_region_held3 (fun w'=>w'.cell? ⟨w.heap.size+1,k,none⟩=some (.string tk)∧w'.cell? ⟨w.heap.size+1+1,k,none⟩=some (.int .i64 vk)) (first | with_reducible exact HD.out.pair HL.out HV.out | with_reducible exact HD.out.drew.pair HL.out HV.out | with_reducible exact ((((((HD.out.setO _ _).setO _ _).setO _ _).setO _ _).setO _ _).setO _ _).pair HL.out HV.out | with_reducible exact ((((((HD.out.setO _ _).setO _ _).setO _ _).setO _ _).setO _ _).setO _ _).drew.pair HL.out HV.out) (fail)
  all_goals go_wp2
  have HF:=((((((HD.out.setO 0 (.string tk)).setO 1 (.int .i64 6)).setO 2 (.int .i64 vk)).setO 3 (.int .i64 0)).setO 4 (.int .i64 1)).setO 5 (.bool true)).drew
  have hfb:=HF.om.res
  have gg:=hfb.cell
  exact bodyPost_ret (v:=.agg #[.string tk,.int .i64 6,.int .i64 vk,.int .i64 0,.int .i64 1,.bool true]) (by simp[results,Tryz.results36,go_sem,gg]) rfl ⟨tk,⟨vk,0,1,true⟩,g1,⟨HNP.out,numG_eq HG.out HNL.out,rfl⟩,HF.om.mak,HF.om.bl⟩
 case neg =>
  obtain rfl | rfl | rfl | rfl | rfl | rfl:r=8∨r=9∨r=10∨r=11∨r=12∨r=13:=by omega
  ·by_cases hlt:lt.size=0
   ·have hb:(lt=={ data:=#[] })=true:=by
     have:lt={ data:=#[] }:=by
      apply ByteArray.ext
      exact Array.eq_empty_of_size_eq_zero hlt
     rw[this];rfl
    have hlt':lt={ data:=#[] }:=by
     apply ByteArray.ext
     exact Array.eq_empty_of_size_eq_zero hlt
    subst hlt'
    go_wp2
    obtain ⟨hfb,hmk,hbl⟩:=HD.out.om.fin (.string ⟨#[115,105,122,101]⟩) (.int .i64 6) (.int .i64 x.size) (.int .i64 0) (.int .i64 1) (.bool false)
    have gg:=hfb.cell
    unfold finG at gg hbl hmk
    exact bodyPost_ret (v:=.agg #[.string ⟨#[115,105,122,101]⟩,.int .i64 6,.int .i64 x.size,.int .i64 0,.int .i64 1,.bool false]) (by simp[results,Tryz.results36,go_sem,gg]) rfl ⟨⟨#[115,105,122,101]⟩,⟨x.size,0,1,false⟩,g1,⟨.inr ⟨rfl,.inl ⟨rfl,rfl⟩⟩,numG_eq HG.out rfl,rfl⟩,hmk,hbl⟩
   ·have hne:(lt.toList != [])=true:=by
     have:lt.toList≠[]:=fun e=>hlt (by rw[← toList_length,e];rfl)
     simpa using this
    have hne2:lt.toList≠[]:=fun e=>hlt (by rw[← toList_length,e];rfl)
    have hne3:(lt.toList==[])=false:=by simpa using hne2
    obtain ⟨lv,lf,lss,lx⟩:=lk
    go_wp2
    obtain ⟨hfb,hmk,hbl⟩:=HD.out.om.fin (.string lt) (.int .i64 lb) (.int .i64 lv) (.int .i64 lf) (.int .i64 lss) (.bool lx)
    have gg:=hfb.cell
    unfold finG at gg hbl hmk
    exact bodyPost_ret (v:=.agg #[.string lt,.int .i64 lb,.int .i64 lv,.int .i64 lf,.int .i64 lss,.bool lx]) (by simp[results,Tryz.results36,go_sem,gg]) rfl ⟨lt,⟨lv,lf,lss,lx⟩,g1,⟨.inr ⟨rfl,.inr (.inr (.inr (.inr (.inr ⟨hlt,rfl,rfl⟩))))⟩,numG_eq HG.out (numL_let hlt),by rw[HLB.out hlt];rfl⟩,hmk,hbl⟩
  ·skip
   go_wp2
   obtain ⟨hfb,hmk,hbl⟩:=HD.out.om.fin (.string ⟨#[115,105,122,101]⟩) (.int .i64 6) (.int .i64 x.size) (.int .i64 0) (.int .i64 1) (.bool false)
   have gg:=hfb.cell
   unfold finG at gg hbl hmk
   exact bodyPost_ret (v:=.agg #[.string ⟨#[115,105,122,101]⟩,.int .i64 6,.int .i64 x.size,.int .i64 0,.int .i64 1,.bool false]) (by simp[results,Tryz.results36,go_sem,gg]) rfl ⟨⟨#[115,105,122,101]⟩,⟨x.size,0,1,false⟩,g1,⟨.inr ⟨rfl,.inl ⟨rfl,rfl⟩⟩,numG_eq HG.out rfl,rfl⟩,hmk,hbl⟩
  ·skip
   go_wp2
   obtain ⟨hfb,hmk,hbl⟩:=HD.out.om.fin (.string ⟨#[115,112,101,101,100]⟩) (.int .i64 6) (.int .i64 x.speed) (.int .i64 0) (.int .i64 1) (.bool false)
   have gg:=hfb.cell
   unfold finG at gg hbl hmk
   exact bodyPost_ret (v:=.agg #[.string ⟨#[115,112,101,101,100]⟩,.int .i64 6,.int .i64 x.speed,.int .i64 0,.int .i64 1,.bool false]) (by simp[results,Tryz.results36,go_sem,gg]) rfl ⟨⟨#[115,112,101,101,100]⟩,⟨x.speed,0,1,false⟩,g1,⟨.inr ⟨rfl,.inr (.inl ⟨rfl,rfl⟩)⟩,numG_eq HG.out rfl,rfl⟩,hmk,hbl⟩
  ·skip
   go_wp2
   obtain ⟨hfb,hmk,hbl⟩:=HD.out.om.fin (.string ⟨#[122,111,110,101]⟩) (.int .i64 6) (.int .i64 y.zone) (.int .i64 0) (.int .i64 1) (.bool false)
   have gg:=hfb.cell
   unfold finG at gg hbl hmk
   exact bodyPost_ret (v:=.agg #[.string ⟨#[122,111,110,101]⟩,.int .i64 6,.int .i64 y.zone,.int .i64 0,.int .i64 1,.bool false]) (by simp[results,Tryz.results36,go_sem,gg]) rfl ⟨⟨#[122,111,110,101]⟩,⟨y.zone,0,1,false⟩,g1,⟨.inr ⟨rfl,.inr (.inr (.inl ⟨rfl,rfl⟩))⟩,numG_eq HG.out rfl,rfl⟩,hmk,hbl⟩
  ·skip
   go_wp2
   obtain ⟨hfb,hmk,hbl⟩:=HD.out.om.fin (.string ⟨#[99,97,112]⟩) (.int .i64 6) (.int .i64 y.cap) (.int .i64 0) (.int .i64 1) (.bool false)
   have gg:=hfb.cell
   unfold finG at gg hbl hmk
   exact bodyPost_ret (v:=.agg #[.string ⟨#[99,97,112]⟩,.int .i64 6,.int .i64 y.cap,.int .i64 0,.int .i64 1,.bool false]) (by simp[results,Tryz.results36,go_sem,gg]) rfl ⟨⟨#[99,97,112]⟩,⟨y.cap,0,1,false⟩,g1,⟨.inr ⟨rfl,.inr (.inr (.inr (.inl ⟨rfl,rfl⟩)))⟩,numG_eq HG.out rfl,rfl⟩,hmk,hbl⟩
  ·skip
   go_wp2
   obtain ⟨hfb,hmk,hbl⟩:=HD.out.om.fin (.string ⟨#[117,115,101,100]⟩) (.int .i64 6) (.int .i64 y.used) (.int .i64 0) (.int .i64 1) (.bool false)
   have gg:=hfb.cell
   unfold finG at gg hbl hmk
   exact bodyPost_ret (v:=.agg #[.string ⟨#[117,115,101,100]⟩,.int .i64 6,.int .i64 y.used,.int .i64 0,.int .i64 1,.bool false]) (by simp[results,Tryz.results36,go_sem,gg]) rfl ⟨⟨#[117,115,101,100]⟩,⟨y.used,0,1,false⟩,g1,⟨.inr ⟨rfl,.inr (.inr (.inr (.inr (.inl ⟨rfl,rfl⟩))))⟩,numG_eq HG.out rfl,rfl⟩,hmk,hbl⟩
theorem numberG_any(mb fb:Nat)(x:Itm)(y:Bn)(lt:ByteArray)(lb:Nat)(hlb:lt.size≠0→lb=6)(lk:Wo)(st:Bool)(g:Fd)(w:World)(h:MakG w mb fb x y (.string lt) (.int .i64 lb) (.int .i64 lk.v) (.int .i64 lk.flt) (.int .i64 lk.steps) (.bool lk.fix) st g) :
  Calls Tryz.prog 36 #[.pointer (some ⟨mb,0,none⟩)] w fun e w'=>∃ t k g',(NumP st x y lt lk t k∧numG st lt g=(t,6,g')∧e=.returned (pcV t 6 k))∧MakG w' mb fb x y (.string lt) (.int .i64 lb) (.int .i64 lk.v) (.int .i64 lk.flt) (.int .i64 lk.steps) (.bool lk.fix) st g'∧But fb w w':=by
 cases st with
 | true=>exact numberG_still mb fb x y lt lb hlb lk g w h
 | false=>exact numberG_free mb fb x y lt lb hlb lk g w h
end Go.Proofs.YtpcjadaeolkngaaGreatDoor
