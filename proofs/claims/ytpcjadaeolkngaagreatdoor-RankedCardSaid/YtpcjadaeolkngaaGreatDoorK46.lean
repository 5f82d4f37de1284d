/-
  A leaf that is a number, with its feed's bytes.
-/
import Derived.Test.YtpcjadaeolkngaaGreatDoorK45
set_option linter.unusedVariables false
set_option linter.unusedSimpArgs false
namespace Go.Proofs.YtpcjadaeolkngaaGreatDoor
open Go.RowKit
def numL (k:Int) (lt:ByteArray):ByteArray:=if k=0 then ⟨#[48]⟩ else if k=1 then ⟨#[49]⟩ else if k=2 then ⟨#[50]⟩ else if k=3 then ⟨#[55]⟩ else if k=4 then ⟨#[49,50]⟩ else if k=5 then ⟨#[49,48,48]⟩ else if k=6 then ⟨#[52,48,48,48,48,48,48,48,48,48]⟩ else if k=7 then ⟨#[48,48,55]⟩ else if k=8 then (if lt.size=0 then ⟨#[115,105,122,101]⟩ else lt) else if k=9 then ⟨#[115,105,122,101]⟩ else if k=10 then ⟨#[115,112,101,101,100]⟩ else if k=11 then ⟨#[122,111,110,101]⟩ else if k=12 then ⟨#[99,97,112]⟩ else ⟨#[117,115,101,100]⟩
def numG (st:Bool) (lt:ByteArray) (g:Fd):PT:=(numL (if st then (nx 14 g).1 % 8 else (nx 14 g).1) lt,6,(nx 14 g).2)
theorem numG_eq {st:Bool} {lt:ByteArray} {g g':Fd} {r:Int} {t:ByteArray} (h:nx 14 g=(r,g')) (ht:numL (if st then r % 8 else r) lt=t):numG st lt g=(t,6,g'):=by
 unfold numG
 rw[h,ht]
theorem numL_let {lt:ByteArray} (h:¬ lt.size=0):numL (if false=true then (8:Int) % 8 else 8) lt=lt:=by
 show (if lt.size=0 then _ else lt)=lt
 rw[if_neg h]
def lsAG:Array Value:=#[.string ⟨#[48]⟩,.string ⟨#[49]⟩,.string ⟨#[50]⟩,.string ⟨#[55]⟩,.string ⟨#[49,50]⟩,.string ⟨#[49,48,48]⟩,.string ⟨#[52,48,48,48,48,48,48,48,48,48]⟩,.string ⟨#[48,48,55]⟩]
def vsAG:Array Value:=#[.int .i64 0,.int .i64 1,.int .i64 2,.int .i64 7,.int .i64 12,.int .i64 100,.int .i64 4000000000,.int .i64 7]
structure OutNG (w wx:World) (mb fb:Nat) (x:Itm) (y:Bn) (l0 l1 l2 l3 l4 l5:Value) (st:Bool) (g:Fd) (c:Array Value):Prop where
 om:OutG w wx mb fb x y l0 l1 l2 l3 l4 l5 st g c
 ls:Blk wx (w.heap.size+1) lsAG 9
 vs:Blk wx (w.heap.size+1+1) vsAG 3
theorem outNG_start {w:World} {mb fb:Nat} {x:Itm} {y:Bn} {l0 l1 l2 l3 l4 l5:Value} {st:Bool} {g:Fd} (h:MakG w mb fb x y l0 l1 l2 l3 l4 l5 st g) (c:Array Value):OutNG w (((w.alloc (.cells c 62)).alloc (.cells #[.string ⟨#[48]⟩,.string ⟨#[49]⟩,.string ⟨#[50]⟩,.string ⟨#[55]⟩,.string ⟨#[49,50]⟩,.string ⟨#[49,48,48]⟩,.string ⟨#[52,48,48,48,48,48,48,48,48,48]⟩,.string ⟨#[48,48,55]⟩] 9)).alloc (.cells #[.int .i64 0,.int .i64 1,.int .i64 2,.int .i64 7,.int .i64 12,.int .i64 100,.int .i64 4000000000,.int .i64 7] 3)) mb fb x y l0 l1 l2 l3 l4 l5 st g c:=by
 have h0:=outG_start h c
 have hb:=((Below.refl (w.alloc (.cells c 62)).heap.size (w.alloc (.cells c 62))).alloc (Nat.le_refl _) (.cells #[.string ⟨#[48]⟩,.string ⟨#[49]⟩,.string ⟨#[50]⟩,.string ⟨#[55]⟩,.string ⟨#[49,50]⟩,.string ⟨#[49,48,48]⟩,.string ⟨#[52,48,48,48,48,48,48,48,48,48]⟩,.string ⟨#[48,48,55]⟩] 9)).alloc (by simp) (.cells #[.int .i64 0,.int .i64 1,.int .i64 2,.int .i64 7,.int .i64 12,.int .i64 100,.int .i64 4000000000,.int .i64 7] 3)
 refine ⟨⟨h0.mak.below hb,h0.res.below hb h0.res.lt,h0.bl.trans (But.of hb),h0.m,h0.f⟩, ?_, ?_⟩
 ·have:=(Blk.new (w.alloc (.cells c 62)) #[.string ⟨#[48]⟩,.string ⟨#[49]⟩,.string ⟨#[50]⟩,.string ⟨#[55]⟩,.string ⟨#[49,50]⟩,.string ⟨#[49,48,48]⟩,.string ⟨#[52,48,48,48,48,48,48,48,48,48]⟩,.string ⟨#[48,48,55]⟩] 9).alloc (.cells #[.int .i64 0,.int .i64 1,.int .i64 2,.int .i64 7,.int .i64 12,.int .i64 100,.int .i64 4000000000,.int .i64 7] 3)
  rw[show (w.alloc (.cells c 62)).heap.size=w.heap.size+1 by simp] at this
  exact this
 ·have:=Blk.new ((w.alloc (.cells c 62)).alloc (.cells #[.string ⟨#[48]⟩,.string ⟨#[49]⟩,.string ⟨#[50]⟩,.string ⟨#[55]⟩,.string ⟨#[49,50]⟩,.string ⟨#[49,48,48]⟩,.string ⟨#[52,48,48,48,48,48,48,48,48,48]⟩,.string ⟨#[48,48,55]⟩] 9)) #[.int .i64 0,.int .i64 1,.int .i64 2,.int .i64 7,.int .i64 12,.int .i64 100,.int .i64 4000000000,.int .i64 7] 3
  rw[show ((w.alloc (.cells c 62)).alloc (.cells #[.string ⟨#[48]⟩,.string ⟨#[49]⟩,.string ⟨#[50]⟩,.string ⟨#[55]⟩,.string ⟨#[49,50]⟩,.string ⟨#[49,48,48]⟩,.string ⟨#[52,48,48,48,48,48,48,48,48,48]⟩,.string ⟨#[48,48,55]⟩] 9)).heap.size=w.heap.size+1+1 by simp] at this
  exact this
theorem OutNG.next {w wx w':World} {mb fb:Nat} {x:Itm} {y:Bn} {l0 l1 l2 l3 l4 l5:Value} {st:Bool} {g g':Fd} {c:Array Value} (h:OutNG w wx mb fb x y l0 l1 l2 l3 l4 l5 st g c) (hF:FedAt w' fb g') (hB:But fb wx w'):OutNG w w' mb fb x y l0 l1 l2 l3 l4 l5 st g' c :=
 ⟨h.om.next hF hB,h.ls.but hB (by have:=h.om.f;omega),h.vs.but hB (by have:=h.om.f;omega)⟩
theorem OutNG.setO {w wx:World} {mb fb:Nat} {x:Itm} {y:Bn} {l0 l1 l2 l3 l4 l5:Value} {st:Bool} {g:Fd} {c:Array Value} (h:OutNG w wx mb fb x y l0 l1 l2 l3 l4 l5 st g c) (i:Nat) (v:Value):OutNG w (wx.setCell ⟨w.heap.size,i,none⟩ v) mb fb x y l0 l1 l2 l3 l4 l5 st g (c.setIfInBounds i v) :=
 ⟨h.om.setO i v,h.ls.other _ _ (by simp only;omega),h.vs.other _ _ (by simp only;omega)⟩
theorem OutNG.drew {w wx:World} {mb fb:Nat} {x:Itm} {y:Bn} {l0 l1 l2 l3 l4 l5:Value} {st:Bool} {g:Fd} {c:Array Value} (h:OutNG w wx mb fb x y l0 l1 l2 l3 l4 l5 st g c):OutNG w wx.drew mb fb x y l0 l1 l2 l3 l4 l5 st g c :=
 h.next (h.om.mak.fed.below (below_drewN (Below.refl _ _) 1)) (But.of (below_drewN (Below.refl _ _) 1))
theorem OutNG.pair {w wx:World} {mb fb:Nat} {x:Itm} {y:Bn} {l0 l1 l2 l3 l4 l5:Value} {st:Bool} {g:Fd} {c:Array Value} (h:OutNG w wx mb fb x y l0 l1 l2 l3 l4 l5 st g c) {k:Nat} {a b:Value} (h1:lsAG[k]?=some a) (h2:vsAG[k]?=some b):wx.cell? ⟨w.heap.size+1,k,none⟩=some a∧wx.cell? ⟨w.heap.size+1+1,k,none⟩=some b :=
 ⟨(h.ls.cell k).trans h1,(h.vs.cell k).trans h2⟩
theorem eightG (k:Nat) (hk:k < 8) (st:Bool) (x:Itm) (y:Bn) (lt:ByteArray) (lk:Wo):∃ tk vk,lsAG[k]?=some (.string tk)∧vsAG[k]?=some (.int .i64 vk)∧NumP st x y lt lk tk ⟨vk,0,1,true⟩∧numL (k:Int) lt=tk:=by
 obtain rfl | rfl | rfl | rfl | rfl | rfl | rfl | rfl:k=0∨k=1∨k=2∨k=3∨k=4∨k=5∨k=6∨k=7:=by omega
 ·exact ⟨⟨#[48]⟩,0,rfl,rfl,.inl (.inl ⟨rfl,rfl⟩),rfl⟩
 ·exact ⟨⟨#[49]⟩,1,rfl,rfl,.inl (.inr (.inl ⟨rfl,rfl⟩)),rfl⟩
 ·exact ⟨⟨#[50]⟩,2,rfl,rfl,.inl (.inr (.inr (.inl ⟨rfl,rfl⟩))),rfl⟩
 ·exact ⟨⟨#[55]⟩,7,rfl,rfl,.inl (.inr (.inr (.inr (.inl ⟨rfl,rfl⟩)))),rfl⟩
 ·exact ⟨⟨#[49,50]⟩,12,rfl,rfl,.inl (.inr (.inr (.inr (.inr (.inl ⟨rfl,rfl⟩))))),rfl⟩
 ·exact ⟨⟨#[49,48,48]⟩,100,rfl,rfl,.inl (.inr (.inr (.inr (.inr (.inr (.inl ⟨rfl,rfl⟩)))))),rfl⟩
 ·exact ⟨⟨#[52,48,48,48,48,48,48,48,48,48]⟩,4000000000,rfl,rfl,.inl (.inr (.inr (.inr (.inr (.inr (.inr (.inl ⟨rfl,rfl⟩))))))),rfl⟩
 ·exact ⟨⟨#[48,48,55]⟩,7,rfl,rfl,.inl (.inr (.inr (.inr (.inr (.inr (.inr (.inr (⟨rfl,rfl⟩)))))))),rfl⟩
set_option maxHeartbeats 4000000 in
set_option maxRecDepth 100000 in
theorem numberG_still (mb fb:Nat) (x:Itm) (y:Bn) (lt:ByteArray) (lb:Nat) (hlb:lt.size≠0→lb=6) (lk:Wo) (g:Fd) (w:World) (h:MakG w mb fb x y (.string lt) (.int .i64 lb) (.int .i64 lk.v) (.int .i64 lk.flt) (.int .i64 lk.steps) (.bool lk.fix) true g) :
  Calls Tryz.prog 36 #[.pointer (some ⟨mb,0,none⟩)] w fun e w'=>∃ t k g',(NumP true x y lt lk t k∧numG true lt g=(t,6,g')∧e=.returned (pcV t 6 k))∧MakG w' mb fb x y (.string lt) (.int .i64 lb) (.int .i64 lk.v) (.int .i64 lk.flt) (.int .i64 lk.steps) (.bool lk.fix) true g'∧But fb w w':=by
 have HD:=Hid.mk2 (outNG_start h ag0)
 have HLB:=Hid.mk2 hlb
 clear h hlb
 go_enter Tryz.func36,Tryz.ntmps36
 go_upto_region 3 with fail
 generalize ((w.alloc (.cells ag0 62)).alloc (.cells #[.string ⟨#[48]⟩,.string ⟨#[49]⟩,.string ⟨#[50]⟩,.string ⟨#[55]⟩,.string ⟨#[49,50]⟩,.string ⟨#[49,48,48]⟩,.string ⟨#[52,48,48,48,48,48,48,48,48,48]⟩,.string ⟨#[48,48,55]⟩] 9)).alloc (.cells #[.int .i64 0,.int .i64 1,.int .i64 2,.int .i64 7,.int .i64 12,.int .i64 100,.int .i64 4000000000,.int .i64 7] 3)=W at HD ⊢
 have c0:=HD.out.om.mak.blk.cell 0
 go_upto_region 4 with (go_at_call 19;refine (next_fed 14 (by omega) _ _ _ HD.out.om.mak.fed).mono ?_;rintro e w1 ⟨r,g1,⟨hg,hr0,hr5,rfl⟩,hF,hB⟩;have HG:=Hid.mk2 hg;replace HD:=Hid.mk2 (HD.out.next hF hB);clear hF hB hg c0;have c:=HD.out.om.mak.blk.cell;have oo:=HD.out.om.res.cell;have oq:=HD.out.om.res.free)
 obtain ⟨k,hk⟩:∃ k:Nat,(r % 8:Int)=k:=⟨(r % 8).toNat,by omega⟩
 have HKK:=Hid.mk2 hk
 have hk8:k < 8:=by omega
 have hkt:Int.tmod r 8=k:=by rw[Int.tmod_eq_emod_of_nonneg hr0];exact hk
 obtain ⟨tk,vk,hl,hv,hnp,hnl⟩:=eightG k hk8 true x y lt lk
 have sk:w1.cell? ⟨w.heap.size+1,k,none⟩=some (.string tk):=(HD.out.ls.cell k).trans hl
 have vk':w1.cell? ⟨w.heap.size+1+1,k,none⟩=some (.int .i64 vk):=(HD.out.vs.cell k).trans hv
 have hk0:(0:Int)≤k:=by omega
 have hk8':(k:Int) < 8:=by omega
 have hkd:decide ((k:Int) < 8)=true:=by simp;omega
 have HNP:=Hid.mk2 hnp;have HNL:=Hid.mk2 hnl
 have HL:=Hid.mk2 hl
 have HV:=Hid.mk2 hv
 clear hl hv hnp hnl
 go_upto_region 7 with fail
 go_region_held3 (fun w'=>w'.cell? ⟨w.heap.size+1,k,none⟩=some (.string tk)∧w'.cell? ⟨w.heap.size+1+1,k,none⟩=some (.int .i64 vk)) (first | with_reducible exact HD.out.pair HL.out HV.out | with_reducible exact HD.out.drew.pair HL.out HV.out | with_reducible exact ((((((HD.out.setO _ _).setO _ _).setO _ _).setO _ _).setO _ _).setO _ _).pair HL.out HV.out | with_reducible exact ((((((HD.out.setO _ _).setO _ _).setO _ _).setO _ _).setO _ _).setO _ _).drew.pair HL.out HV.out) (fail)
 all_goals go_wp2
 have HF:=((((((HD.out.setO 0 (.string tk)).setO 1 (.int .i64 6)).setO 2 (.int .i64 vk)).setO 3 (.int .i64 0)).setO 4 (.int .i64 1)).setO 5 (.bool true)).drew
 have hfb:=HF.om.res
 have gg:=hfb.cell
 exact bodyPost_ret (v:=.agg #[.string tk,.int .i64 6,.int .i64 vk,.int .i64 0,.int .i64 1,.bool true]) (by simp[results,Tryz.results36,go_sem,gg]) rfl ⟨tk,⟨vk,0,1,true⟩,g1,⟨HNP.out,numG_eq HG.out (by rw[if_pos rfl,HKK.out];exact HNL.out),rfl⟩,HF.om.mak,HF.om.bl⟩
set_option maxHeartbeats 4000000 in
set_option maxRecDepth 100000 in
theorem numberG_free (mb fb:Nat) (x:Itm) (y:Bn) (lt:ByteArray) (lb:Nat) (hlb:lt.size≠0→lb=6) (lk:Wo) (g:Fd) (w:World) (h:MakG w mb fb x y (.string lt) (.int .i64 lb) (.int .i64 lk.v) (.int .i64 lk.flt) (.int .i64 lk.steps) (.bool lk.fix) false g) :
  Calls Tryz.prog 36 #[.pointer (some ⟨mb,0,none⟩)] w fun e w'=>∃ t k g',(NumP false x y lt lk t k∧numG false lt g=(t,6,g')∧e=.returned (pcV t 6 k))∧MakG w' mb fb x y (.string lt) (.int .i64 lb) (.int .i64 lk.v) (.int .i64 lk.flt) (.int .i64 lk.steps) (.bool lk.fix) false g'∧But fb w w':=by
 have HD:=Hid.mk2 (outNG_start h ag0)
 have HLB:=Hid.mk2 hlb
 clear h hlb
 go_enter Tryz.func36,Tryz.ntmps36
 go_upto_region 3 with fail
 generalize ((w.alloc (.cells ag0 62)).alloc (.cells #[.string ⟨#[48]⟩,.string ⟨#[49]⟩,.string ⟨#[50]⟩,.string ⟨#[55]⟩,.string ⟨#[49,50]⟩,.string ⟨#[49,48,48]⟩,.string ⟨#[52,48,48,48,48,48,48,48,48,48]⟩,.string ⟨#[48,48,55]⟩] 9)).alloc (.cells #[.int .i64 0,.int .i64 1,.int .i64 2,.int .i64 7,.int .i64 12,.int .i64 100,.int .i64 4000000000,.int .i64 7] 3)=W at HD ⊢
 have c0:=HD.out.om.mak.blk.cell 0
 go_upto_region 4 with (go_at_call 19;refine (next_fed 14 (by omega) _ _ _ HD.out.om.mak.fed).mono ?_;rintro e w1 ⟨r,g1,⟨hg,hr0,hr5,rfl⟩,hF,hB⟩;have HG:=Hid.mk2 hg;replace HD:=Hid.mk2 (HD.out.next hF hB);clear hF hB hg c0;have c:=HD.out.om.mak.blk.cell;have oo:=HD.out.om.res.cell;have oq:=HD.out.om.res.free)
 by_cases hr8:r < 8
 case pos =>
  obtain ⟨k,rfl⟩:∃ k:Nat,r=k:=⟨r.toNat,by omega⟩
  have hk8:k < 8:=by omega
  obtain ⟨tk,vk,hl,hv,hnp,hnl⟩:=eightG k hk8 false x y lt lk
  have sk:w1.cell? ⟨w.heap.size+1,k,none⟩=some (.string tk):=(HD.out.ls.cell k).trans hl
  have vk':w1.cell? ⟨w.heap.size+1+1,k,none⟩=some (.int .i64 vk):=(HD.out.vs.cell k).trans hv
  have hk0:(0:Int)≤k:=by omega
  have hk8':(k:Int) < 8:=by omega
  have hkd:decide ((k:Int) < 8)=true:=by simp;omega
  have HNP:=Hid.mk2 hnp;have HNL:=Hid.mk2 hnl
  have HL:=Hid.mk2 hl
  have HV:=Hid.mk2 hv
  clear hl hv hnp hnl
  go_upto_region 7 with fail
  go_region_held3 (fun w'=>w'.cell? ⟨w.heap.size+1,k,none⟩=some (.string tk)∧w'.cell? ⟨w.heap.size+1+1,k,none⟩=some (.int .i64 vk)) (first | with_reducible exact HD.out.pair HL.out HV.out | with_reducible exact HD.out.drew.pair HL.out HV.out | with_reducible exact ((((((HD.out.setO _ _).setO _ _).setO _ _).setO _ _).setO _ _).setO _ _).pair HL.out HV.out | with_reducible exact ((((((HD.out.setO _ _).setO _ _).setO _ _).setO _ _).setO _ _).setO _ _).drew.pair HL.out HV.out) (fail)
  all_goals go_wp2
  have HF:=((((((HD.out.setO 0 (.string tk)).setO 1 (.int .i64 6)).setO 2 (.int .i64 vk)).setO 3 (.int .i64 0)).setO 4 (.int .i64 1)).setO 5 (.bool true)).drew
  have hfb:=HF.om.res
  have gg:=hfb.cell
  exact bodyPost_ret (v:=.agg #[.string tk,.int .i64 6,.int .i64 vk,.int .i64 0,.int .i64 1,.bool true]) (by simp[results,Tryz.results36,go_sem,gg]) rfl ⟨tk,⟨vk,0,1,true⟩,g1,⟨HNP.out,numG_eq HG.out HNL.out,rfl⟩,HF.om.mak,HF.om.bl⟩
 case neg =>
  obtain rfl | rfl | rfl | rfl | rfl | rfl:r=8∨r=9∨r=10∨r=11∨r=12∨r=13:=by omega
  ·by_cases hlt:lt.size=0
   ·have hb:(lt=={ data:=#[] })=true:=by
     have:lt={ data:=#[] }:=by
      apply ByteArray.ext
      exact Array.eq_empty_of_size_eq_zero hlt
     rw[this];rfl
    have hlt':lt={ data:=#[] }:=by
     apply ByteArray.ext
     exact Array.eq_empty_of_size_eq_zero hlt
    subst hlt'
    go_wp2
    obtain ⟨hfb,hmk,hbl⟩:=HD.out.om.fin (.string ⟨#[115,105,122,101]⟩) (.int .i64 6) (.int .i64 x.size) (.int .i64 0) (.int .i64 1) (.bool false)
    have gg:=hfb.cell
    unfold finG at gg hbl hmk
    exact bodyPost_ret (v:=.agg #[.string ⟨#[115,105,122,101]⟩,.int .i64 6,.int .i64 x.size,.int .i64 0,.int .i64 1,.bool false]) (by simp[results,Tryz.results36,go_sem,gg]) rfl ⟨⟨#[115,105,122,101]⟩,⟨x.size,0,1,false⟩,g1,⟨.inr ⟨rfl,.inl ⟨rfl,rfl⟩⟩,numG_eq HG.out rfl,rfl⟩,hmk,hbl⟩
   ·have hne:(lt.toList != [])=true:=by
     have:lt.toList≠[]:=fun e=>hlt (by rw[← toList_length,e];rfl)
     simpa using this
    have hne2:lt.toList≠[]:=fun e=>hlt (by rw[← toList_length,e];rfl)
    have hne3:(lt.toList==[])=false:=by simpa using hne2
    obtain ⟨lv,lf,lss,lx⟩:=lk
    go_wp2
    obtain ⟨hfb,hmk,hbl⟩:=HD.out.om.fin (.string lt) (.int .i64 lb) (.int .i64 lv) (.int .i64 lf) (.int .i64 lss) (.bool lx)
    have gg:=hfb.cell
    unfold finG at gg hbl hmk
    exact bodyPost_ret (v:=.agg #[.string lt,.int .i64 lb,.int .i64 lv,.int .i64 lf,.int .i64 lss,.bool lx]) (by simp[results,Tryz.results36,go_sem,gg]) rfl ⟨lt,⟨lv,lf,lss,lx⟩,g1,⟨.inr ⟨rfl,.inr (.inr (.inr (.inr (.inr ⟨hlt,rfl,rfl⟩))))⟩,numG_eq HG.out (numL_let hlt),by rw[HLB.out hlt];rfl⟩,hmk,hbl⟩
  ·skip
   go_wp2
   obtain ⟨hfb,hmk,hbl⟩:=HD.out.om.fin (.string ⟨#[115,105,122,101]⟩) (.int .i64 6) (.int .i64 x.size) (.int .i64 0) (.int .i64 1) (.bool false)
   have gg:=hfb.cell
   unfold finG at gg hbl hmk
   exact bodyPost_ret (v:=.agg #[.string ⟨#[115,105,122,101]⟩,.int .i64 6,.int .i64 x.size,.int .i64 0,.int .i64 1,.bool false]) (by simp[results,Tryz.results36,go_sem,gg]) rfl ⟨⟨#[115,105,122,101]⟩,⟨x.size,0,1,false⟩,g1,⟨.inr ⟨rfl,.inl ⟨rfl,rfl⟩⟩,numG_eq HG.out rfl,rfl⟩,hmk,hbl⟩
  ·skip
   go_wp2
   obtain ⟨hfb,hmk,hbl⟩:=HD.out.om.fin (.string ⟨#[115,112,101,101,100]⟩) (.int .i64 6) (.int .i64 x.speed) (.int .i64 0) (.int .i64 1) (.bool false)
   have gg:=hfb.cell
   unfold finG at gg hbl hmk
   exact bodyPost_ret (v:=.agg #[.string ⟨#[115,112,101,101,100]⟩,.int .i64 6,.int .i64 x.speed,.int .i64 0,.int .i64 1,.bool false]) (by simp[results,Tryz.results36,go_sem,gg]) rfl ⟨⟨#[115,112,101,101,100]⟩,⟨x.speed,0,1,false⟩,g1,⟨.inr ⟨rfl,.inr (.inl ⟨rfl,rfl⟩)⟩,numG_eq HG.out rfl,rfl⟩,hmk,hbl⟩
  ·skip
   go_wp2
   obtain ⟨hfb,hmk,hbl⟩:=HD.out.om.fin (.string ⟨#[122,111,110,101]⟩) (.int .i64 6) (.int .i64 y.zone) (.int .i64 0) (.int .i64 1) (.bool false)
   have gg:=hfb.cell
   unfold finG at gg hbl hmk
   exact bodyPost_ret (v:=.agg #[.string ⟨#[122,111,110,101]⟩,.int .i64 6,.int .i64 y.zone,.int .i64 0,.int .i64 1,.bool false]) (by simp[results,Tryz.results36,go_sem,gg]) rfl ⟨⟨#[122,111,110,101]⟩,⟨y.zone,0,1,false⟩,g1,⟨.inr ⟨rfl,.inr (.inr (.inl ⟨rfl,rfl⟩))⟩,numG_eq HG.out rfl,rfl⟩,hmk,hbl⟩
  ·skip
   go_wp2
   obtain ⟨hfb,hmk,hbl⟩:=HD.out.om.fin (.string ⟨#[99,97,112]⟩) (.int .i64 6) (.int .i64 y.cap) (.int .i64 0) (.int .i64 1) (.bool false)
   have gg:=hfb.cell
   unfold finG at gg hbl hmk
   exact bodyPost_ret (v:=.agg #[.string ⟨#[99,97,112]⟩,.int .i64 6,.int .i64 y.cap,.int .i64 0,.int .i64 1,.bool false]) (by simp[results,Tryz.results36,go_sem,gg]) rfl ⟨⟨#[99,97,112]⟩,⟨y.cap,0,1,false⟩,g1,⟨.inr ⟨rfl,.inr (.inr (.inr (.inl ⟨rfl,rfl⟩)))⟩,numG_eq HG.out rfl,rfl⟩,hmk,hbl⟩
  ·skip
   go_wp2
   obtain ⟨hfb,hmk,hbl⟩:=HD.out.om.fin (.string ⟨#[117,115,101,100]⟩) (.int .i64 6) (.int .i64 y.used) (.int .i64 0) (.int .i64 1) (.bool false)
   have gg:=hfb.cell
   unfold finG at gg hbl hmk
   exact bodyPost_ret (v:=.agg #[.string ⟨#[117,115,101,100]⟩,.int .i64 6,.int .i64 y.used,.int .i64 0,.int .i64 1,.bool false]) (by simp[results,Tryz.results36,go_sem,gg]) rfl ⟨⟨#[117,115,101,100]⟩,⟨y.used,0,1,false⟩,g1,⟨.inr ⟨rfl,.inr (.inr (.inr (.inr (.inl ⟨rfl,rfl⟩))))⟩,numG_eq HG.out rfl,rfl⟩,hmk,hbl⟩
theorem numberG_any (mb fb:Nat) (x:Itm) (y:Bn) (lt:ByteArray) (lb:Nat) (hlb:lt.size≠0→lb=6) (lk:Wo) (st:Bool) (g:Fd) (w:World) (h:MakG w mb fb x y (.string lt) (.int .i64 lb) (.int .i64 lk.v) (.int .i64 lk.flt) (.int .i64 lk.steps) (.bool lk.fix) st g) :
  Calls Tryz.prog 36 #[.pointer (some ⟨mb,0,none⟩)] w fun e w'=>∃ t k g',(NumP st x y lt lk t k∧numG st lt g=(t,6,g')∧e=.returned (pcV t 6 k))∧MakG w' mb fb x y (.string lt) (.int .i64 lb) (.int .i64 lk.v) (.int .i64 lk.flt) (.int .i64 lk.steps) (.bool lk.fix) st g'∧But fb w w':=by
 cases st with
 | true=>exact numberG_still mb fb x y lt lb hlb lk g w h
 | false=>exact numberG_free mb fb x y lt lb hlb lk g w h
end Go.Proofs.YtpcjadaeolkngaaGreatDoor
