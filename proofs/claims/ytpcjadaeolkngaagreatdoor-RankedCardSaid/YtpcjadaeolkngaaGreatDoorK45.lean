/-
  Leaves: numbers, classes, attributes.
-/
import Derived.Test.YtpcjadaeolkngaaGreatDoorK40
import Derived.Test.YtpcjadaeolkngaaGreatDoorK44
set_option linter.unusedVariables false
set_option linter.unusedSimpArgs false
namespace Go.Proofs.YtpcjadaeolkngaaGreatDoor
open Go.Deep
theorem leaf_pc {C:Ctx→Prop} {x:Itm} {y:Bn} (hC:∀ E,C E→E.Ok∧E.x=x∧E.y=y) {t:ByteArray} {u:Txt} {kd len:Nat} {k:Wo} {fx:Bool} (hu:t.toList=u) (hlen:u.length≤len) (h0:u≠[]) (hbl:blankC (headC u)=false) (hl:runLen u=u.length) (hm:mayT u=true) (hs:singleT u=true) (ho:u≠cOpen) (hc:u≠cClose) (hun:unT u=false) (hb:bindsT u=0)
  (hn:nameT u=false) (hk:leafKindT u=kd) (hw:∀ env,leafW env x y ⟨u,0⟩=k) (hf:FitW k kd) (h1:k.steps=1) (hfx:fx=true→k.fix=true):Pc C t 6 k kd len 0 1 1 fx:=by
 refine ⟨⟨0,by simp[brB],fun E hE=>?_⟩, ?_,by omega,by omega,hf,by omega,by omega,hfx⟩
 ·obtain ⟨e1,e2,e3⟩:=hC E hE
  rw[hu]
  have:=IsP.leaf e1 h0 hbl hl hm hs ho hc hun hb hn hk
  rw[e2,e3,hw] at this
  exact this
 ·rw[← toList_length,hu]
  rw[brB6]
  omega
theorem fit_const (v:Int) (kd:Nat) (h:In64 v) (hk:kd≠2) (f:Bool):FitW ⟨v,0,1,f⟩ kd:=⟨⟨h,by simp,fun h=>absurd rfl h,fun h=>absurd h hk⟩,fun _ _=>rfl⟩
def NumP (st:Bool) (x:Itm) (y:Bn) (lt:ByteArray) (lk:Wo) (t:ByteArray) (k:Wo):Prop :=
 ((t=⟨#[48]⟩∧k=⟨0,0,1,true⟩)∨(t=⟨#[49]⟩∧k=⟨1,0,1,true⟩)∨(t=⟨#[50]⟩∧k=⟨2,0,1,true⟩)∨(t=⟨#[55]⟩∧k=⟨7,0,1,true⟩)∨(t=⟨#[49,50]⟩∧k=⟨12,0,1,true⟩)∨(t=⟨#[49,48,48]⟩∧k=⟨100,0,1,true⟩)∨(t=⟨#[52,48,48,48,48,48,48,48,48,48]⟩∧k=⟨4000000000,0,1,true⟩)∨(t=⟨#[48,48,55]⟩∧k=⟨7,0,1,true⟩))∨(st=false∧((t=⟨#[115,105,122,101]⟩∧k=⟨x.size,0,1,false⟩)∨(t=⟨#[115,112,101,101,100]⟩∧k=⟨x.speed,0,1,false⟩)∨(t=⟨#[122,111,110,101]⟩∧k=⟨y.zone,0,1,false⟩)∨(t=⟨#[99,97,112]⟩∧k=⟨y.cap,0,1,false⟩)∨(t=⟨#[117,115,101,100]⟩∧k=⟨y.used,0,1,false⟩)∨(lt.size≠0∧t=lt∧k=lk)))
theorem num_pc {C:Ctx→Prop} {x:Itm} {y:Bn} (hC:∀ E,C E→E.Ok∧E.x=x∧E.y=y) (hx:x.Ok) (hy:y.Ok) {st:Bool} {lt:ByteArray} {lk:Wo} {P S:Nat} (hP:1≤P) (hS:1≤S) (hlet:lt.size≠0→Pc C lt 6 lk 1 10 0 P S st) {t:ByteArray} {k:Wo} (h:NumP st x y lt lk t k):Pc C t 6 k 1 10 0 P S st:=by
 rcases h with h | ⟨rfl,h⟩
 ·rcases h with ⟨rfl,rfl⟩ | ⟨rfl,rfl⟩ | ⟨rfl,rfl⟩ | ⟨rfl,rfl⟩ | ⟨rfl,rfl⟩ | ⟨rfl,rfl⟩ | ⟨rfl,rfl⟩ | ⟨rfl,rfl⟩
  ·exact (leaf_pc hC (u:=[48]) (toL_mk _) (by simp) (by decide) (by decide) (by decide) (by decide) (by decide) (by decide) (by decide) (by decide) (by decide) (by decide) (by decide) (fun env=>by rfl) (fit_const _ _ ⟨by omega,by omega⟩ (by decide) _) rfl (fun _=>rfl)).mono (Nat.le_refl _) (Nat.le_refl _) hP hS
  ·exact (leaf_pc hC (u:=[49]) (toL_mk _) (by simp) (by decide) (by decide) (by decide) (by decide) (by decide) (by decide) (by decide) (by decide) (by decide) (by decide) (by decide) (fun env=>by rfl) (fit_const _ _ ⟨by omega,by omega⟩ (by decide) _) rfl (fun _=>rfl)).mono (Nat.le_refl _) (Nat.le_refl _) hP hS
  ·exact (leaf_pc hC (u:=[50]) (toL_mk _) (by simp) (by decide) (by decide) (by decide) (by decide) (by decide) (by decide) (by decide) (by decide) (by decide) (by decide) (by decide) (fun env=>by rfl) (fit_const _ _ ⟨by omega,by omega⟩ (by decide) _) rfl (fun _=>rfl)).mono (Nat.le_refl _) (Nat.le_refl _) hP hS
  ·exact (leaf_pc hC (u:=[55]) (toL_mk _) (by simp) (by decide) (by decide) (by decide) (by decide) (by decide) (by decide) (by decide) (by decide) (by decide) (by decide) (by decide) (fun env=>by rfl) (fit_const _ _ ⟨by omega,by omega⟩ (by decide) _) rfl (fun _=>rfl)).mono (Nat.le_refl _) (Nat.le_refl _) hP hS
  ·exact (leaf_pc hC (u:=[49,50]) (toL_mk _) (by simp) (by decide) (by decide) (by decide) (by decide) (by decide) (by decide) (by decide) (by decide) (by decide) (by decide) (by decide) (fun env=>by rfl) (fit_const _ _ ⟨by omega,by omega⟩ (by decide) _) rfl (fun _=>rfl)).mono (Nat.le_refl _) (Nat.le_refl _) hP hS
  ·exact (leaf_pc hC (u:=[49,48,48]) (toL_mk _) (by simp) (by decide) (by decide) (by decide) (by decide) (by decide) (by decide) (by decide) (by decide) (by decide) (by decide) (by decide) (fun env=>by rfl) (fit_const _ _ ⟨by omega,by omega⟩ (by decide) _) rfl (fun _=>rfl)).mono (Nat.le_refl _) (Nat.le_refl _) hP hS
  ·exact (leaf_pc hC (u:=[52,48,48,48,48,48,48,48,48,48]) (toL_mk _) (by simp) (by decide) (by decide) (by decide) (by decide) (by decide) (by decide) (by decide) (by decide) (by decide) (by decide) (by decide) (fun env=>by rfl) (fit_const _ _ ⟨by omega,by omega⟩ (by decide) _) rfl (fun _=>rfl)).mono (Nat.le_refl _) (Nat.le_refl _) hP hS
  ·exact (leaf_pc hC (u:=[48,48,55]) (toL_mk _) (by simp) (by decide) (by decide) (by decide) (by decide) (by decide) (by decide) (by decide) (by decide) (by decide) (by decide) (by decide) (fun env=>by rfl) (fit_const _ _ ⟨by omega,by omega⟩ (by decide) _) rfl (fun _=>rfl)).mono (Nat.le_refl _) (Nat.le_refl _) hP hS
 ·rcases h with ⟨rfl,rfl⟩ | ⟨rfl,rfl⟩ | ⟨rfl,rfl⟩ | ⟨rfl,rfl⟩ | ⟨rfl,rfl⟩ | ⟨h0,rfl,rfl⟩
  ·exact (leaf_pc hC (u:=[115,105,122,101]) (toL_mk _) (by simp) (by decide) (by decide) (by decide) (by decide) (by decide) (by decide) (by decide) (by decide) (by decide) (by decide) (by decide) (fun env=>by rfl) (fit_const _ _ (by unfold In64;have:=hx;have:=hy;unfold Itm.Ok Bn.Ok at *;omega) (by decide) _) rfl (fun h=>by cases h)).mono (Nat.le_refl _) (Nat.le_refl _) hP hS
  ·exact (leaf_pc hC (u:=[115,112,101,101,100]) (toL_mk _) (by simp) (by decide) (by decide) (by decide) (by decide) (by decide) (by decide) (by decide) (by decide) (by decide) (by decide) (by decide) (fun env=>by rfl) (fit_const _ _ (by unfold In64;have:=hx;have:=hy;unfold Itm.Ok Bn.Ok at *;omega) (by decide) _) rfl (fun h=>by cases h)).mono (Nat.le_refl _) (Nat.le_refl _) hP hS
  ·exact (leaf_pc hC (u:=[122,111,110,101]) (toL_mk _) (by simp) (by decide) (by decide) (by decide) (by decide) (by decide) (by decide) (by decide) (by decide) (by decide) (by decide) (by decide) (fun env=>by rfl) (fit_const _ _ (by unfold In64;have:=hx;have:=hy;unfold Itm.Ok Bn.Ok at *;omega) (by decide) _) rfl (fun h=>by cases h)).mono (Nat.le_refl _) (Nat.le_refl _) hP hS
  ·exact (leaf_pc hC (u:=[99,97,112]) (toL_mk _) (by simp) (by decide) (by decide) (by decide) (by decide) (by decide) (by decide) (by decide) (by decide) (by decide) (by decide) (by decide) (fun env=>by rfl) (fit_const _ _ (by unfold In64;have:=hx;have:=hy;unfold Itm.Ok Bn.Ok at *;omega) (by decide) _) rfl (fun h=>by cases h)).mono (Nat.le_refl _) (Nat.le_refl _) hP hS
  ·exact (leaf_pc hC (u:=[117,115,101,100]) (toL_mk _) (by simp) (by decide) (by decide) (by decide) (by decide) (by decide) (by decide) (by decide) (by decide) (by decide) (by decide) (by decide) (fun env=>by rfl) (fit_const _ _ (by unfold In64;have:=hx;have:=hy;unfold Itm.Ok Bn.Ok at *;omega) (by decide) _) rfl (fun h=>by cases h)).mono (Nat.le_refl _) (Nat.le_refl _) hP hS
  ·exact hlet h0
def ClassP (st:Bool) (x:Itm) (y:Bn) (t:ByteArray) (k:Wo):Prop :=
 (t=⟨#[100,114,121]⟩∧k=⟨0,0,1,true⟩)∨(t=⟨#[99,111,108,100]⟩∧k=⟨1,0,1,true⟩)∨(t=⟨#[115,97,102,101]⟩∧k=⟨2,0,1,true⟩)∨(st=false∧t=⟨#[110,101,101,100]⟩∧k=⟨x.need,0,1,false⟩)∨(st=false∧t=⟨#[104,97,115]⟩∧k=⟨y.has,0,1,false⟩)
theorem class_pc {C:Ctx→Prop} {x:Itm} {y:Bn} (hC:∀ E,C E→E.Ok∧E.x=x∧E.y=y) (hx:x.Ok) (hy:y.Ok) {st:Bool} {t:ByteArray} {k:Wo} (h:ClassP st x y t k):Pc C t 6 k 3 4 0 1 1 st:=by
 rcases h with ⟨rfl,rfl⟩ | ⟨rfl,rfl⟩ | ⟨rfl,rfl⟩ | ⟨rfl,rfl,rfl⟩ | ⟨rfl,rfl,rfl⟩
 ·exact leaf_pc hC (u:=[100,114,121]) (toL_mk _) (by simp) (by decide) (by decide) (by decide) (by decide) (by decide) (by decide) (by decide) (by decide) (by decide) (by decide) (by decide) (fun env=>by rfl) (fit_const _ _ ⟨by omega,by omega⟩ (by decide) _) rfl (fun _=>rfl)
 ·exact leaf_pc hC (u:=[99,111,108,100]) (toL_mk _) (by simp) (by decide) (by decide) (by decide) (by decide) (by decide) (by decide) (by decide) (by decide) (by decide) (by decide) (by decide) (fun env=>by rfl) (fit_const _ _ ⟨by omega,by omega⟩ (by decide) _) rfl (fun _=>rfl)
 ·exact leaf_pc hC (u:=[115,97,102,101]) (toL_mk _) (by simp) (by decide) (by decide) (by decide) (by decide) (by decide) (by decide) (by decide) (by decide) (by decide) (by decide) (by decide) (fun env=>by rfl) (fit_const _ _ ⟨by omega,by omega⟩ (by decide) _) rfl (fun _=>rfl)
 ·exact leaf_pc hC (u:=[110,101,101,100]) (toL_mk _) (by simp) (by decide) (by decide) (by decide) (by decide) (by decide) (by decide) (by decide) (by decide) (by decide) (by decide) (by decide) (fun env=>by rfl) (fit_const _ _ (by unfold In64;have:=hx;have:=hy;unfold Itm.Ok Bn.Ok at *;omega) (by decide) _) rfl (fun h=>by cases h)
 ·exact leaf_pc hC (u:=[104,97,115]) (toL_mk _) (by simp) (by decide) (by decide) (by decide) (by decide) (by decide) (by decide) (by decide) (by decide) (by decide) (by decide) (by decide) (fun env=>by rfl) (fit_const _ _ (by unfold In64;have:=hx;have:=hy;unfold Itm.Ok Bn.Ok at *;omega) (by decide) _) rfl (fun h=>by cases h)
theorem true_pc {C:Ctx→Prop} {x:Itm} {y:Bn} (hC:∀ E,C E→E.Ok∧E.x=x∧E.y=y) (st:Bool):Pc C ⟨#[116,114,117,101]⟩ 6 ⟨1,0,1,true⟩ 2 5 0 1 1 st :=
 leaf_pc hC (u:=[116,114,117,101]) (toL_mk _) (by simp) (by decide) (by decide) (by decide) (by decide) (by decide) (by decide) (by decide) (by decide) (by decide) (by decide) (by decide) (fun env=>by rfl) ⟨⟨in64_1,by simp,fun h=>absurd rfl h,fun _=>.inr rfl⟩,fun _ _=>rfl⟩ rfl (fun _=>rfl)
theorem false_pc {C:Ctx→Prop} {x:Itm} {y:Bn} (hC:∀ E,C E→E.Ok∧E.x=x∧E.y=y) (st:Bool):Pc C ⟨#[102,97,108,115,101]⟩ 6 ⟨0,0,1,true⟩ 2 5 0 1 1 st :=
 leaf_pc hC (u:=[102,97,108,115,101]) (toL_mk _) (by simp) (by decide) (by decide) (by decide) (by decide) (by decide) (by decide) (by decide) (by decide) (by decide) (by decide) (by decide) (fun env=>by rfl) ⟨⟨in64_0,by simp,fun h=>absurd rfl h,fun _=>.inl rfl⟩,fun _ _=>rfl⟩ rfl (fun _=>rfl)
end Go.Proofs.YtpcjadaeolkngaaGreatDoor
namespace Go.Proofs.YtpcjadaeolkngaaGreatDoor
open Go.RowKit
def classL (k:Int):ByteArray:=if k=0 then ⟨#[100,114,121]⟩ else if k=1 then ⟨#[99,111,108,100]⟩ else if k=2 then ⟨#[115,97,102,101]⟩ else if k=3 then ⟨#[110,101,101,100]⟩ else ⟨#[104,97,115]⟩
def classG (st:Bool) (g:Fd):PT:=(classL (if st then (nx 5 g).1 % 3 else (nx 5 g).1),6,(nx 5 g).2)
theorem classG_eq {st:Bool} {g g':Fd} {r:Int} {t:ByteArray} (h:nx 5 g=(r,g')) (ht:classL (if st then r % 3 else r)=t):classG st g=(t,6,g'):=by
 unfold classG
 rw[h,ht]
structure MakG (w:World) (mb fb:Nat) (x:Itm) (y:Bn) (l0 l1 l2 l3 l4 l5:Value) (st:Bool) (g:Fd):Prop where
 blk:Blk w mb #[.pointer (some ⟨fb,0,none⟩),.int .i64 x.size,.int .i64 x.speed,.int .i64 x.need,.int .i64 y.id,.int .i64 y.zone,.int .i64 y.cap,.int .i64 y.used,.int .i64 y.has,l0,l1,l2,l3,l4,l5,.bool st] 64
 fed:FedAt w fb g
 ne:mb≠fb
theorem MakG.next {w w':World} {mb fb:Nat} {x:Itm} {y:Bn} {l0 l1 l2 l3 l4 l5:Value} {st:Bool} {g g':Fd} (h:MakG w mb fb x y l0 l1 l2 l3 l4 l5 st g) (hF:FedAt w' fb g') (hB:But fb w w'):MakG w' mb fb x y l0 l1 l2 l3 l4 l5 st g':=⟨h.blk.but hB h.ne,hF,h.ne⟩
theorem MakG.below {w w':World} {mb fb:Nat} {x:Itm} {y:Bn} {l0 l1 l2 l3 l4 l5:Value} {st:Bool} {g:Fd} (h:MakG w mb fb x y l0 l1 l2 l3 l4 l5 st g) (hb:Below w.heap.size w w'):MakG w' mb fb x y l0 l1 l2 l3 l4 l5 st g:=⟨h.blk.below hb h.blk.lt,h.fed.below hb,h.ne⟩
structure OutG (w wx:World) (mb fb:Nat) (x:Itm) (y:Bn) (l0 l1 l2 l3 l4 l5:Value) (st:Bool) (g:Fd) (c:Array Value):Prop where
 mak:MakG wx mb fb x y l0 l1 l2 l3 l4 l5 st g
 res:Blk wx w.heap.size c 62
 bl:But fb w wx
 m:mb < w.heap.size
 f:fb < w.heap.size
section
variable {w wx w':World} {mb fb:Nat} {x:Itm} {y:Bn} {l0 l1 l2 l3 l4 l5:Value} {st:Bool} {g g':Fd} {c:Array Value}
theorem outG_start (h:MakG w mb fb x y l0 l1 l2 l3 l4 l5 st g) (c:Array Value):OutG w (w.alloc (.cells c 62)) mb fb x y l0 l1 l2 l3 l4 l5 st g c :=
 ⟨h.below (box3 _ _),Blk.new w _ _,But.of (box3 _ _),h.blk.lt,h.fed.lt⟩
theorem OutG.next (h:OutG w wx mb fb x y l0 l1 l2 l3 l4 l5 st g c) (hF:FedAt w' fb g') (hB:But fb wx w'):OutG w w' mb fb x y l0 l1 l2 l3 l4 l5 st g' c :=
 ⟨h.mak.next hF hB,h.res.but hB (by have:=h.f;omega),h.bl.trans hB,h.m,h.f⟩
theorem OutG.setO (h:OutG w wx mb fb x y l0 l1 l2 l3 l4 l5 st g c) (i:Nat) (v:Value):OutG w (wx.setCell ⟨w.heap.size,i,none⟩ v) mb fb x y l0 l1 l2 l3 l4 l5 st g (c.setIfInBounds i v) :=
 ⟨⟨h.mak.blk.other _ _ (by have:=h.m;simp only;omega),h.mak.fed.other _ _ _ (by have:=h.f;omega),h.mak.ne⟩,h.res.set i v,h.bl.st _ _ (Nat.le_refl _) v,h.m,h.f⟩
def finG (w wx:World) (a b c d e f:Value):World :=
 (((((wx.setCell ⟨w.heap.size,0,none⟩ a).setCell ⟨w.heap.size,1,none⟩ b).setCell ⟨w.heap.size,2,none⟩ c).setCell ⟨w.heap.size,3,none⟩ d).setCell ⟨w.heap.size,4,none⟩ e).setCell ⟨w.heap.size,5,none⟩ f
theorem OutG.fin {z0 z1 z2 z3 z4 z5:Value} (h:OutG w wx mb fb x y l0 l1 l2 l3 l4 l5 st g #[z0,z1,z2,z3,z4,z5]) (a b c d e f:Value):Blk (finG w wx a b c d e f) w.heap.size #[a,b,c,d,e,f] 62∧MakG (finG w wx a b c d e f) mb fb x y l0 l1 l2 l3 l4 l5 st g∧But fb w (finG w wx a b c d e f):=by
 have g:=(((((h.setO 0 a).setO 1 b).setO 2 c).setO 3 d).setO 4 e).setO 5 f
 exact ⟨g.res,g.mak,g.bl⟩
end
set_option maxHeartbeats 4000000 in
set_option maxRecDepth 100000 in
theorem classG_still (mb fb:Nat) (x:Itm) (y:Bn) (l0 l1 l2 l3 l4 l5:Value) (g:Fd) (w:World) (h:MakG w mb fb x y l0 l1 l2 l3 l4 l5 true g) :
  Calls Tryz.prog 63 #[.pointer (some ⟨mb,0,none⟩)] w fun e w'=>∃ t k g',(ClassP true x y t k∧classG true g=(t,6,g')∧e=.returned (pcV t 6 k))∧MakG w' mb fb x y l0 l1 l2 l3 l4 l5 true g'∧But fb w w':=by
 have HD:=Hid.mk2 (outG_start h ag0)
 clear h
 go_enter Tryz.func63,Tryz.ntmps63
 go_upto_region 1 with fail
 generalize w.alloc (.cells ag0 62)=W at HD ⊢
 have c0:=HD.out.mak.blk.cell 0
 go_upto_region 2 with (go_at_call 19;refine (next_fed 5 (by omega) _ _ _ HD.out.mak.fed).mono ?_;rintro e w1 ⟨r,g1,⟨hg,hr0,hr5,rfl⟩,hF,hB⟩;have HG:=Hid.mk2 hg;replace HD:=Hid.mk2 (HD.out.next hF hB);clear hF hB hg c0;have c:=HD.out.mak.blk.cell;have oo:=HD.out.res.cell;have oq:=HD.out.res.free)
 obtain rfl | rfl | rfl | rfl | rfl:r=0∨r=1∨r=2∨r=3∨r=4:=by omega
 all_goals go_wp2
 ·obtain ⟨hfb,hmk,hbl⟩:=HD.out.fin (.string ⟨#[100,114,121]⟩) (.int .i64 6) (.int .i64 0) (.int .i64 0) (.int .i64 1) (.bool true)
  have gg:=hfb.cell
  unfold finG at gg hbl hmk
  exact bodyPost_ret (v:=.agg #[.string ⟨#[100,114,121]⟩,.int .i64 6,.int .i64 0,.int .i64 0,.int .i64 1,.bool true]) (by simp[results,Tryz.results63,go_sem,gg]) rfl ⟨⟨#[100,114,121]⟩,⟨0,0,1,true⟩,g1,⟨.inl ⟨rfl,rfl⟩,classG_eq HG.out rfl,rfl⟩,hmk,hbl⟩
 ·obtain ⟨hfb,hmk,hbl⟩:=HD.out.fin (.string ⟨#[99,111,108,100]⟩) (.int .i64 6) (.int .i64 1) (.int .i64 0) (.int .i64 1) (.bool true)
  have gg:=hfb.cell
  unfold finG at gg hbl hmk
  exact bodyPost_ret (v:=.agg #[.string ⟨#[99,111,108,100]⟩,.int .i64 6,.int .i64 1,.int .i64 0,.int .i64 1,.bool true]) (by simp[results,Tryz.results63,go_sem,gg]) rfl ⟨⟨#[99,111,108,100]⟩,⟨1,0,1,true⟩,g1,⟨.inr (.inl ⟨rfl,rfl⟩),classG_eq HG.out rfl,rfl⟩,hmk,hbl⟩
 ·obtain ⟨hfb,hmk,hbl⟩:=HD.out.fin (.string ⟨#[115,97,102,101]⟩) (.int .i64 6) (.int .i64 2) (.int .i64 0) (.int .i64 1) (.bool true)
  have gg:=hfb.cell
  unfold finG at gg hbl hmk
  exact bodyPost_ret (v:=.agg #[.string ⟨#[115,97,102,101]⟩,.int .i64 6,.int .i64 2,.int .i64 0,.int .i64 1,.bool true]) (by simp[results,Tryz.results63,go_sem,gg]) rfl ⟨⟨#[115,97,102,101]⟩,⟨2,0,1,true⟩,g1,⟨.inr (.inr (.inl ⟨rfl,rfl⟩)),classG_eq HG.out rfl,rfl⟩,hmk,hbl⟩
 ·obtain ⟨hfb,hmk,hbl⟩:=HD.out.fin (.string ⟨#[100,114,121]⟩) (.int .i64 6) (.int .i64 0) (.int .i64 0) (.int .i64 1) (.bool true)
  have gg:=hfb.cell
  unfold finG at gg hbl hmk
  exact bodyPost_ret (v:=.agg #[.string ⟨#[100,114,121]⟩,.int .i64 6,.int .i64 0,.int .i64 0,.int .i64 1,.bool true]) (by simp[results,Tryz.results63,go_sem,gg]) rfl ⟨⟨#[100,114,121]⟩,⟨0,0,1,true⟩,g1,⟨.inl ⟨rfl,rfl⟩,classG_eq HG.out rfl,rfl⟩,hmk,hbl⟩
 ·obtain ⟨hfb,hmk,hbl⟩:=HD.out.fin (.string ⟨#[99,111,108,100]⟩) (.int .i64 6) (.int .i64 1) (.int .i64 0) (.int .i64 1) (.bool true)
  have gg:=hfb.cell
  unfold finG at gg hbl hmk
  exact bodyPost_ret (v:=.agg #[.string ⟨#[99,111,108,100]⟩,.int .i64 6,.int .i64 1,.int .i64 0,.int .i64 1,.bool true]) (by simp[results,Tryz.results63,go_sem,gg]) rfl ⟨⟨#[99,111,108,100]⟩,⟨1,0,1,true⟩,g1,⟨.inr (.inl ⟨rfl,rfl⟩),classG_eq HG.out rfl,rfl⟩,hmk,hbl⟩
set_option maxHeartbeats 4000000 in
set_option maxRecDepth 100000 in
theorem classG_free (mb fb:Nat) (x:Itm) (y:Bn) (l0 l1 l2 l3 l4 l5:Value) (g:Fd) (w:World) (h:MakG w mb fb x y l0 l1 l2 l3 l4 l5 false g) :
  Calls Tryz.prog 63 #[.pointer (some ⟨mb,0,none⟩)] w fun e w'=>∃ t k g',(ClassP false x y t k∧classG false g=(t,6,g')∧e=.returned (pcV t 6 k))∧MakG w' mb fb x y l0 l1 l2 l3 l4 l5 false g'∧But fb w w':=by
 have HD:=Hid.mk2 (outG_start h ag0)
 clear h
 go_enter Tryz.func63,Tryz.ntmps63
 go_upto_region 1 with fail
 generalize w.alloc (.cells ag0 62)=W at HD ⊢
 have c0:=HD.out.mak.blk.cell 0
 go_upto_region 2 with (go_at_call 19;refine (next_fed 5 (by omega) _ _ _ HD.out.mak.fed).mono ?_;rintro e w1 ⟨r,g1,⟨hg,hr0,hr5,rfl⟩,hF,hB⟩;have HG:=Hid.mk2 hg;replace HD:=Hid.mk2 (HD.out.next hF hB);clear hF hB hg c0;have c:=HD.out.mak.blk.cell;have oo:=HD.out.res.cell;have oq:=HD.out.res.free)
 obtain rfl | rfl | rfl | rfl | rfl:r=0∨r=1∨r=2∨r=3∨r=4:=by omega
 all_goals go_wp2
 ·obtain ⟨hfb,hmk,hbl⟩:=HD.out.fin (.string ⟨#[100,114,121]⟩) (.int .i64 6) (.int .i64 0) (.int .i64 0) (.int .i64 1) (.bool true)
  have gg:=hfb.cell
  unfold finG at gg hbl hmk
  exact bodyPost_ret (v:=.agg #[.string ⟨#[100,114,121]⟩,.int .i64 6,.int .i64 0,.int .i64 0,.int .i64 1,.bool true]) (by simp[results,Tryz.results63,go_sem,gg]) rfl ⟨⟨#[100,114,121]⟩,⟨0,0,1,true⟩,g1,⟨.inl ⟨rfl,rfl⟩,classG_eq HG.out rfl,rfl⟩,hmk,hbl⟩
 ·obtain ⟨hfb,hmk,hbl⟩:=HD.out.fin (.string ⟨#[99,111,108,100]⟩) (.int .i64 6) (.int .i64 1) (.int .i64 0) (.int .i64 1) (.bool true)
  have gg:=hfb.cell
  unfold finG at gg hbl hmk
  exact bodyPost_ret (v:=.agg #[.string ⟨#[99,111,108,100]⟩,.int .i64 6,.int .i64 1,.int .i64 0,.int .i64 1,.bool true]) (by simp[results,Tryz.results63,go_sem,gg]) rfl ⟨⟨#[99,111,108,100]⟩,⟨1,0,1,true⟩,g1,⟨.inr (.inl ⟨rfl,rfl⟩),classG_eq HG.out rfl,rfl⟩,hmk,hbl⟩
 ·obtain ⟨hfb,hmk,hbl⟩:=HD.out.fin (.string ⟨#[115,97,102,101]⟩) (.int .i64 6) (.int .i64 2) (.int .i64 0) (.int .i64 1) (.bool true)
  have gg:=hfb.cell
  unfold finG at gg hbl hmk
  exact bodyPost_ret (v:=.agg #[.string ⟨#[115,97,102,101]⟩,.int .i64 6,.int .i64 2,.int .i64 0,.int .i64 1,.bool true]) (by simp[results,Tryz.results63,go_sem,gg]) rfl ⟨⟨#[115,97,102,101]⟩,⟨2,0,1,true⟩,g1,⟨.inr (.inr (.inl ⟨rfl,rfl⟩)),classG_eq HG.out rfl,rfl⟩,hmk,hbl⟩
 ·obtain ⟨hfb,hmk,hbl⟩:=HD.out.fin (.string ⟨#[110,101,101,100]⟩) (.int .i64 6) (.int .i64 x.need) (.int .i64 0) (.int .i64 1) (.bool false)
  have gg:=hfb.cell
  unfold finG at gg hbl hmk
  exact bodyPost_ret (v:=.agg #[.string ⟨#[110,101,101,100]⟩,.int .i64 6,.int .i64 x.need,.int .i64 0,.int .i64 1,.bool false]) (by simp[results,Tryz.results63,go_sem,gg]) rfl ⟨⟨#[110,101,101,100]⟩,⟨x.need,0,1,false⟩,g1,⟨.inr (.inr (.inr (.inl ⟨rfl,rfl,rfl⟩))),classG_eq HG.out rfl,rfl⟩,hmk,hbl⟩
 ·obtain ⟨hfb,hmk,hbl⟩:=HD.out.fin (.string ⟨#[104,97,115]⟩) (.int .i64 6) (.int .i64 y.has) (.int .i64 0) (.int .i64 1) (.bool false)
  have gg:=hfb.cell
  unfold finG at gg hbl hmk
  exact bodyPost_ret (v:=.agg #[.string ⟨#[104,97,115]⟩,.int .i64 6,.int .i64 y.has,.int .i64 0,.int .i64 1,.bool false]) (by simp[results,Tryz.results63,go_sem,gg]) rfl ⟨⟨#[104,97,115]⟩,⟨y.has,0,1,false⟩,g1,⟨.inr (.inr (.inr (.inr ⟨rfl,rfl,rfl⟩))),classG_eq HG.out rfl,rfl⟩,hmk,hbl⟩
theorem classG_any (mb fb:Nat) (x:Itm) (y:Bn) (l0 l1 l2 l3 l4 l5:Value) (st:Bool) (g:Fd) (w:World) (h:MakG w mb fb x y l0 l1 l2 l3 l4 l5 st g) :
  Calls Tryz.prog 63 #[.pointer (some ⟨mb,0,none⟩)] w fun e w'=>∃ t k g',(ClassP st x y t k∧classG st g=(t,6,g')∧e=.returned (pcV t 6 k))∧MakG w' mb fb x y l0 l1 l2 l3 l4 l5 st g'∧But fb w w':=by
 cases st with
 | true=>exact classG_still mb fb x y l0 l1 l2 l3 l4 l5 g w h
 | false=>exact classG_free mb fb x y l0 l1 l2 l3 l4 l5 g w h
end Go.Proofs.YtpcjadaeolkngaaGreatDoor
