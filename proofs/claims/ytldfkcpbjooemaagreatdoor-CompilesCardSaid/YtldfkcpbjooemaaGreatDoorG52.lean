/-
  The program's IsImage and Verify: are some bytes an image?
-/
import Derived.Test.YtldfkcpbjooemaaGreatDoorG41
import Derived.Deep.LoopGhost
import Derived.Test.YtldfkcpbjooemaaGreatDoorG50
import Derived.Test.YtldfkcpbjooemaaGreatDoorG51
import Derived.Test.YtldfkcpbjooemaaGreatDoorG01
import Derived.Test.YtldfkcpbjooemaaGreatDoorG02
import Derived.Test.YtldfkcpbjooemaaGreatDoorG29
import Derived.Test.YtldfkcpbjooemaaGreatDoorG15
import Derived.Test.YtldfkcpbjooemaaGreatDoorG18
import Derived.Test.YtldfkcpbjooemaaGreatDoorG39
import Derived.Test.YtldfkcpbjooemaaGreatDoorRows
import Derived.ProofKit
import Derived.LaidMore
import Derived.OpenShut
import Derived.Stop.Joined
import Derived.Test.YtldfkcpbjooemaaGreatDoorProg
import Derived.Test.YtldfkcpbjooemaaGreatDoorG00
import Derived.Test.YtldfkcpbjooemaaGreatDoorG07
set_option linter.unusedVariables false
set_option linter.unusedSimpArgs false
namespace Go.Proofs.YtldfkcpbjooemaaGreatDoor
open Go.RowKit
end Go.Proofs.YtldfkcpbjooemaaGreatDoor
namespace Go.Proofs.YtldfkcpbjooemaaGreatDoor
open Go.RowKit
theorem img_run {s:ByteArray} (h:IsImg s):∃ l G,Chain s 3 l s.size∧Lawful l (bt s 2) G∧3 < s.size∧s.size≤4000:=by
 obtain ⟨hh,l,hc,G,hl⟩:=h
 exact ⟨l,G,hc,hl,hh.1,hh.2.1⟩
end Go.Proofs.YtldfkcpbjooemaaGreatDoor
namespace Go.Proofs.YtldfkcpbjooemaaGreatDoor
open Go.RowKit
end Go.Proofs.YtldfkcpbjooemaaGreatDoor
namespace Go.Proofs.YtldfkcpbjooemaaGreatDoor
open Go.Deep
end Go.Proofs.YtldfkcpbjooemaaGreatDoor
namespace Go.Proofs.YtldfkcpbjooemaaGreatDoor
open Go.RowKit Go.Deep
def Pinned (s:Txt) (c:Int) (p:Nat):Prop:=∀ c' p',SoundAs s c' p'→c'=c∧p'=p
set_option maxHeartbeats 1000000 in
theorem Compile_pin (s:ByteArray) (w:World) (hg:GlobT w) (hz:s.size≤maxLen) {c:Int} {p:Nat} (h:Pinned s.toList c p) (hc:c≠0) :
  Calls Tryz.prog 20 #[.string s] w fun e w'=>Below w.heap.size w w'∧e=.returned (.tuple #[.string { data:=#[] },.int .i64 c,.int .i64 (p:Nat)]):=by
 have HG:=hideP hg
 have HSZ:=hideP hz
 have HTK:=hideP h
 clear hg hz h
 go_enter Tryz.func20,Tryz.ntmps20
 go_wp2_with (go_at_call 32;refine (readSound_any s _ HG.out HSZ.out).mono ?_;rintro e w1 ⟨hb1,c',p',hs,a1,l1,c1,a2,l2,c2,a3,l3,c3,rfl⟩;obtain ⟨rfl,rfl⟩:=HTK.out _ _ hs;have HB1:=hideP hb1;clear hb1 hs)
 go_ret3
 exact ⟨HB1.out.trans ((new_below w1 _).mono HB1.out.size),rfl⟩
end Go.Proofs.YtldfkcpbjooemaaGreatDoor
namespace Go.Proofs.YtldfkcpbjooemaaGreatDoor
open Go.RowKit Go.Deep
theorem errs_nil {N:List PNode} {ls:List PLet} {rs:List PRule} {p:Nat} (h:errsOf N ls rs=(0,p)):errsOf N ls rs=(0,0):=by
 unfold errsOf at *
 split at h
 ·cases h
 ·split at h
  ·cases h
  ·split at h
   ·cases h
   ·rename_i h6
    rw[if_neg h6]
theorem pin_of {s:Txt} {c:Int} {p:Nat} (h:SoundAs s c p):Pinned s c p:=fun c' p' h'=>by
 rcases h with ⟨h1,h2⟩ | ⟨L,R,n,hp,he,hc⟩
 ·rcases h' with ⟨g1,_⟩ | ⟨L',R',n',hp',_⟩
  ·rw[h1] at g1;cases g1;exact ⟨rfl,rfl⟩
  ·have:=hp'.fine;rw[h1] at this;cases this
 ·rcases h' with ⟨g1,_⟩ | ⟨L',R',n',hp',he',hc'⟩
  ·have:=hp.fine;rw[g1] at this;cases this
  ·obtain ⟨rfl,rfl⟩:=hp.uniq hp'
   rw[he] at he'
   cases he'
   exact ⟨by rw[hc,hc'],rfl⟩
theorem sound_cases {s:Txt} {c:Int} {p:Nat} (h:SoundAs s c p):c≠0∨∃ L R,FineQ s L R:=by
 rcases h with ⟨_,h2⟩ | ⟨L,R,n,hp,he,hc⟩
 ·exact .inl h2
 ·by_cases h0:n=0
  ·subst h0
   exact .inr ⟨L,R,hp,num_of hp,errs_nil he⟩
  ·exact .inl (by rw[hc];omega)
theorem sound_ex (s:ByteArray) (w:World) (hg:GlobT w) (hz:s.size≤maxLen):∃ c p,SoundAs s.toList c p:=by
 obtain ⟨e,w',fr,⟨_,c,p,hs,_⟩,_⟩:=readSound_any s w hg hz []
 exact ⟨c,p,hs⟩
def imgP (L R:List RSt):ByteArray:=bsN (imageC (nodesS 0 (L++R)) (letsS 0 (L++R)) (rulesS 0 (L++R)))
theorem imgP_is {s:Txt} {L R:List RSt} (h:FineQ s L R):IsImg (imgP L R):=(policy_image h.pol h.num h.errs item_one bin_one).img
theorem imgP_run {s:Txt} {L R:List RSt} (h:FineQ s L R) {x:Itm} {y:Bn} (hx:x.Ok) (hy:y.Ok):AtMost (runM (imgP L R) x y ((imgP L R).size+1) 3 [] 0) (saysP x y L R):=policy_runs h.pol h.num h.errs hx hy
theorem Compile_fine (s:ByteArray) (hz:s.size≤maxLen) {L R:List RSt} (h:FineQ s.toList L R) (w:World) (hg:GlobT w) (hp:GlobB w) :
  Calls Tryz.prog 20 #[.string s] w fun e w'=>e=.returned (.tuple #[.string (imgP L R),.int .i64 0,.int .i64 0])∧Below w.heap.size w w':=Compile_known s hz (known_of h.pol h.num h.errs) w hg hp
theorem fine_pos {s:Txt} {L R:List RSt} (h:PolicyOf s L R):0 < (toksL (L++R)).length:=by
 cases hR:R with
 | nil=>exact absurd hR h.ne
 | cons a r=>rw[toksL_append,toksL_cons,List.length_append,List.length_append,RSt.toks_length];omega
structure Bx2 (w wx:World) (x:Itm) (y:Bn):Prop where
 it:Blk wx w.heap.size #[.int .i64 x.size,.int .i64 x.speed,.int .i64 x.need] 26
 bn:Blk wx (w.heap.size+1) #[.int .i64 y.id,.int .i64 y.zone,.int .i64 y.cap,.int .i64 y.used,.int .i64 y.has] 28
 bl:Below w.heap.size w wx
theorem Bx2.below {w wx w':World} {x:Itm} {y:Bn} (h:Bx2 w wx x y) (hb:Below wx.heap.size wx w'):Bx2 w w' x y :=
 ⟨h.it.below hb h.it.lt,h.bn.below hb h.bn.lt,h.bl.trans (hb.mono h.bl.size)⟩
theorem Bx2.start (w:World) (x:Itm) (y:Bn):Bx2 w ((w.alloc (.cells #[.int .i64 x.size,.int .i64 x.speed,.int .i64 x.need] 26)).alloc (.cells #[.int .i64 y.id,.int .i64 y.zone,.int .i64 y.cap,.int .i64 y.used,.int .i64 y.has] 28)) x y:=by
 have a2:=Blk.new (w.alloc (.cells #[.int .i64 x.size,.int .i64 x.speed,.int .i64 x.need] 26)) #[.int .i64 y.id,.int .i64 y.zone,.int .i64 y.cap,.int .i64 y.used,.int .i64 y.has] 28
 rw[show (w.alloc (.cells #[.int .i64 x.size,.int .i64 x.speed,.int .i64 x.need] 26)).heap.size=w.heap.size+1 by simp] at a2
 exact ⟨(Blk.new w _ _).alloc _,a2,((Below.refl _ w).alloc (Nat.le_refl _) _).alloc (by simp) _⟩
set_option maxHeartbeats 2000000 in
set_option maxRecDepth 100000 in
theorem compiled_bad (s:ByteArray) (hz:s.size≤maxLen) (x:Itm) (y:Bn) {c:Int} {p:Nat} (hs:SoundAs s.toList c p) (hc:c≠0) (w:World) (hg:GlobT w) :
  Calls Tryz.prog 10 #[.string s,itmA x,bnA y] w fun e w'=>Below w.heap.size w w'∧e=.returned (.bool true):=by
 have HG:=Hid.mk2 hg
 have HSZ:=Hid.mk2 hz
 have HS:=Hid.mk2 hs
 have HC:=Hid.mk2 hc
 have HX:=Hid.mk2 (Bx2.start w x y)
 have hcb:(c != 0)=true:=by simpa using hc
 have hcc:(c != c)=false:=by simp
 clear hg hz hs hc
 unfold itmA bnA
 go_enter Tryz.func10,Tryz.ntmps10
 go_upto_region 1 with fail
 generalize (w.alloc (.cells #[.int .i64 x.size,.int .i64 x.speed,.int .i64 x.need] 26)).alloc (.cells #[.int .i64 y.id,.int .i64 y.zone,.int .i64 y.cap,.int .i64 y.used,.int .i64 y.has] 28)=W0 at HX ⊢
 go_wp2_with (first
  | (go_at_call 20;refine (Compile_pin s _ (HG.out.below HX.out.bl) HSZ.out (pin_of HS.out) HC.out).mono ?_;rintro e' w1 ⟨hb1,rfl⟩;replace HX:=Hid.mk2 (HX.out.below hb1);clear hb1)
  | (go_at_call 14;refine (Check_ref s _ HS.out).mono ?_;rintro e' w2 ⟨⟨a1,l1,c1,a2,l2,c2,a3,l3,c3,rfl⟩,hb2⟩;replace HX:=Hid.mk2 ((HX.out.below hb2).below (one_al w2 (.cells #[.slice a1 l1 c1,.slice a2 l2 c2,.slice a3 l3 c3] 44)));clear hb2))
 go_ret
 exact ⟨HX.out.bl,rfl⟩
set_option maxHeartbeats 4000000 in
set_option maxRecDepth 100000 in
theorem compiled_fine (s:ByteArray) (hz:s.size≤maxLen) (x:Itm) (y:Bn) {L R:List RSt} (h:FineQ s.toList L R) (w:World) (hg:GlobT w) (hp:GlobB w) :
  Calls Tryz.prog 10 #[.string s,itmA x,bnA y] w fun e w'=>Below w.heap.size w w'∧e=.returned (.bool true):=by
 have HG:=Hid.mk2 hg
 have HP:=Hid.mk2 hp
 have HX:=Hid.mk2 (Bx2.start w x y)
 have HF:=Hid.mk2 h
 have HI:Hid (IsImg (imgP L R)):=imgP_is h
 have HRUN:Hid (x.Ok→y.Ok→AtMost (runM (imgP L R) x y ((imgP L R).size+1) 3 [] 0) (saysP x y L R)):=imgP_run h
 have HCM:Hid (∀ wx,GlobT wx→GlobB wx→Calls Tryz.prog 20 #[.string s] wx fun e w'=>e=.returned (.tuple #[.string (imgP L R),.int .i64 0,.int .i64 0])∧Below wx.heap.size wx w'):=fun wx h1 h2=>Compile_fine s hz h wx h1 h2
 have HCK:Hid (∀ wx,Calls Tryz.prog 14 #[.string s] wx fun e w'=>∃ ls rs la lc ra rc,e=.returned (.tuple #[.agg #[.slice la ls.length lc,.slice none 0 0,.slice ra rs.length rc],.int .i64 0,.int .i64 0])∧Below wx.heap.size wx w'∧PolS (wx.heap.size+1) w' (.slice la ls.length lc) (.slice ra rs.length rc) ls rs L R):=fun wx=>Check_pol s wx L R ⟨h.pol.fine,h.pol.lets,h.pol.rules,h.pol.wf⟩ (fine_pos h.pol) (fine_check h)
 generalize imgP L R=bi at HI HRUN HCM
 obtain ⟨l0,G0,hch0,hlw0,h30,hs40⟩:=img_run HI.out
 have HC0:=Hid.mk2 hch0
 have HL0:=Hid.mk2 hlw0
 have H30:=Hid.mk2 h30
 have HS40:=Hid.mk2 hs40
 have hbb:(bi.toList==bi.toList)=true:=by simp
 clear hg hp h hch0 hlw0 h30 hs40
 obtain ⟨ib,hib⟩:∃ b,itmB x=b:=⟨_,rfl⟩
 obtain ⟨yb,hyb⟩:∃ b,bnB y=b:=⟨_,rfl⟩
 have HIB:=Hid.mk2 hib
 have HYB:=Hid.mk2 hyb
 clear hib hyb
 unfold itmA bnA
 go_enter Tryz.func10,Tryz.ntmps10
 go_upto_region 1 with fail
 generalize (w.alloc (.cells #[.int .i64 x.size,.int .i64 x.speed,.int .i64 x.need] 26)).alloc (.cells #[.int .i64 y.id,.int .i64 y.zone,.int .i64 y.cap,.int .i64 y.used,.int .i64 y.has] 28)=W0 at HX ⊢
 go_upto_region 4 with (first
  | (go_at_call 20;refine (HCM.out _ (HG.out.below HX.out.bl) (HP.out.below HX.out.bl)).mono ?_;rintro e' w1 ⟨rfl,hb1⟩;replace HX:=Hid.mk2 (HX.out.below hb1);clear hb1)
  | (go_at_call 14;refine (HCK.out _).mono ?_;rintro e' w2 ⟨ls,rs,la,lc,ra,rc,rfl,hb2,hps⟩;have hbo:=one_al w2 (.cells #[.slice la ls.length lc,.slice none 0 0,.slice ra rs.length rc] 44);have HPB:=Hid.mk2 (Blk.new w2 #[.slice la ls.length lc,.slice none 0 0,.slice ra rs.length rc] 44);have HPS:=Hid.mk2 (hps.on (KeepAb.of hbo));replace HX:=Hid.mk2 ((HX.out.below hb2).below hbo);clear hb2 hps hbo))
 generalize hW2:w2.alloc (.cells #[.slice la ls.length lc,.slice none 0 0,.slice ra rs.length rc] 44)=W2 at HX HPB HPS ⊢
 generalize hzb:w2.heap.size=zp at HPB ⊢
 clear hW2 hzb
 have i0:=HX.out.it.cell;have b0:=HX.out.bn.cell
 have HPR:Hid (PolD W2 (.slice la ls.length lc) (.slice ra rs.length rc) ls rs L R):=HPS.out W2 (KeepAb.refl _ _)
 cases ib with
 | false =>
  go_wp2_with (first
   | (go_at_call 16;refine (Sound_any bi _).mono ?_;rintro e' w3 ⟨hb3,hor⟩;obtain ⟨_,l',v,hch,hl4,rfl,hrd⟩:=hor.resolve_right (fun h=>h.1 HI.out);replace HX:=Hid.mk2 (HX.out.below hb3);clear hb3 hor hrd hch hl4 i0 b0;have i0:=HX.out.it.cell;have b0:=HX.out.bn.cell)
   | (go_at_call 21;refine (rIsItem_any x _).mono ?_;rintro e' w4 ⟨rfl,hb4⟩;rw[HIB.out];replace HX:=Hid.mk2 (HX.out.below hb4);clear hb4 i0 b0;have i0:=HX.out.it.cell;have b0:=HX.out.bn.cell)
   | (go_at_call 22;refine (rIsBin_any y _).mono ?_;rintro e' w5 ⟨rfl,hb5⟩;rw[HYB.out];replace HX:=Hid.mk2 (HX.out.below hb5);clear hb5 i0 b0;have i0:=HX.out.it.cell;have b0:=HX.out.bn.cell))
  go_ret
  exact ⟨HX.out.bl,rfl⟩
 | true =>
 cases yb with
 | false =>
  go_wp2_with (first
   | (go_at_call 16;refine (Sound_any bi _).mono ?_;rintro e' w3 ⟨hb3,hor⟩;obtain ⟨_,l',v,hch,hl4,rfl,hrd⟩:=hor.resolve_right (fun h=>h.1 HI.out);replace HX:=Hid.mk2 (HX.out.below hb3);clear hb3 hor hrd hch hl4 i0 b0;have i0:=HX.out.it.cell;have b0:=HX.out.bn.cell)
   | (go_at_call 21;refine (rIsItem_any x _).mono ?_;rintro e' w4 ⟨rfl,hb4⟩;rw[HIB.out];replace HX:=Hid.mk2 (HX.out.below hb4);clear hb4 i0 b0;have i0:=HX.out.it.cell;have b0:=HX.out.bn.cell)
   | (go_at_call 22;refine (rIsBin_any y _).mono ?_;rintro e' w5 ⟨rfl,hb5⟩;rw[HYB.out];replace HX:=Hid.mk2 (HX.out.below hb5);clear hb5 i0 b0;have i0:=HX.out.it.cell;have b0:=HX.out.bn.cell))
  go_ret
  exact ⟨HX.out.bl,rfl⟩
 | true =>
  have HXO:Hid (x.Ok∧y.Ok):=⟨(itmB_iff x).1 HIB.out,(bnB_iff y).1 HYB.out⟩
  have HAM:=Hid.mk2 (HRUN.out HXO.out.1 HXO.out.2)
  obtain ⟨⟨rk,rv,r3⟩,hr⟩:∃ r,runM bi x y (bi.size+1) 3 [] 0=r:=⟨_,rfl⟩
  obtain ⟨⟨sk,sv,s3⟩,hs⟩:∃ r,saysP x y L R=r:=⟨_,rfl⟩
  rw[hr,hs] at HAM
  have hk:rk=sk:=HAM.out.kind
  have hv:rv=sv:=HAM.out.val
  have hle:r3≤s3:=HAM.out.le
  subst hk hv
  have HR:=Hid.mk2 hr
  have HSY:=Hid.mk2 hs
  have hleb:decide ((r3:Int)≤(s3:Int))=true:=by simpa using hle
  clear hr hs HAM HRUN
  go_upto_region 16 with (first
   | (go_at_call 16;refine (Sound_any bi _).mono ?_;rintro e' w3 ⟨hb3,hor⟩;obtain ⟨_,l',v,hch,hl4,rfl,hrd⟩:=hor.resolve_right (fun h=>h.1 HI.out);obtain rfl:=chain_same HC0.out hch;have HRD:=Hid.mk2 hrd;have HL4:=Hid.mk2 hl4;replace HX:=Hid.mk2 (HX.out.below hb3);replace HPB:=Hid.mk2 (HPB.out.below hb3 HPB.out.lt);replace HPS:=Hid.mk2 (HPS.out.on (KeepAb.of hb3));clear hb3 hor hrd hch hl4 i0 b0;have i0:=HX.out.it.cell;have b0:=HX.out.bn.cell)
   | (go_at_call 21;refine (rIsItem_any x _).mono ?_;rintro e' w4 ⟨rfl,hb4⟩;rw[HIB.out];replace HX:=Hid.mk2 (HX.out.below hb4);replace HPB:=Hid.mk2 (HPB.out.below hb4 HPB.out.lt);replace HPS:=Hid.mk2 (HPS.out.on (KeepAb.of hb4));replace HRD:=Hid.mk2 (HRD.out.below hb4);clear hb4 i0 b0;have i0:=HX.out.it.cell;have b0:=HX.out.bn.cell)
   | (go_at_call 22;refine (rIsBin_any y _).mono ?_;rintro e' w5 ⟨rfl,hb5⟩;rw[HYB.out];replace HX:=Hid.mk2 (HX.out.below hb5);replace HPB:=Hid.mk2 (HPB.out.below hb5 HPB.out.lt);replace HPS:=Hid.mk2 (HPS.out.on (KeepAb.of hb5));replace HRD:=Hid.mk2 (HRD.out.below hb5);clear hb5 i0 b0;have i0:=HX.out.it.cell;have b0:=HX.out.bn.cell)
   | (go_at_call 23;refine (Machine_any bi HS40.out l0 HL4.out (bt bi 2) (bt_lt bi 2) G0 HC0.out HL0.out H30.out x y HXO.out _ _ HRD.out).mono ?_;rintro e' w6 ⟨hb6,rfl⟩;rw[HR.out];unfold resA;simp only;have hbo:=one_al w6 (.cells #[.int .i64 rk,.int .i64 rv,.int .i64 r3] 52);have HRB:=Hid.mk2 (Blk.new w6 #[.int .i64 rk,.int .i64 rv,.int .i64 r3] 52);replace HX:=Hid.mk2 ((HX.out.below hb6).below hbo);replace HPB:=Hid.mk2 ((HPB.out.below hb6 HPB.out.lt).alloc (.cells #[.int .i64 rk,.int .i64 rv,.int .i64 r3] 52));replace HPS:=Hid.mk2 ((HPS.out.on (KeepAb.of hb6)).on (KeepAb.of hbo));clear hb6 hbo i0 b0))
  generalize hW6:w6.alloc (.cells #[.int .i64 rk,.int .i64 rv,.int .i64 r3] 52)=W6 at HX HPB HPS HRB ⊢
  generalize hzr:w6.heap.size=zr at HRB ⊢
  clear hW6 hzr
  have i0:=HX.out.it.cell;have b0:=HX.out.bn.cell
  have p0:=HPB.out.cell
  go_upto_region 17 with (go_at_call 24;refine (Says_pol atoi_ok HF.out x y HXO.out _ _ _ _ (HPS.out _ (KeepAb.refl _ _))).mono ?_;rintro e' w7 ⟨rfl,hb7⟩;rw[HSY.out];unfold resA;simp only;have hbo:=one_al w7 (.cells #[.int .i64 rk,.int .i64 rv,.int .i64 s3] 52);have HSB:=Hid.mk2 (Blk.new w7 #[.int .i64 rk,.int .i64 rv,.int .i64 s3] 52);replace HX:=Hid.mk2 ((HX.out.below hb7).below hbo);replace HRB:=Hid.mk2 ((HRB.out.below hb7 HRB.out.lt).alloc (.cells #[.int .i64 rk,.int .i64 rv,.int .i64 s3] 52));clear hb7 hbo i0 b0 p0)
  generalize hW7:w7.alloc (.cells #[.int .i64 rk,.int .i64 rv,.int .i64 s3] 52)=W7 at HX HRB HSB ⊢
  generalize hzs:w7.heap.size=zs at HSB ⊢
  clear hW7 hzs
  have r0:=HRB.out.cell
  have s0:=HSB.out.cell
  go_wp2
  go_ret
  exact ⟨HX.out.bl,rfl⟩
theorem compiled_any (s:ByteArray) (hz:s.size≤maxLen) (x:Itm) (y:Bn) (w:World) (hg:GlobT w) (hp:GlobB w) :
  Calls Tryz.prog 10 #[.string s,itmA x,bnA y] w fun e w'=>Below w.heap.size w w'∧e=.returned (.bool true):=by
 obtain ⟨c,p,hs⟩:=sound_ex s w hg hz
 rcases sound_cases hs with hc | ⟨L,R,h⟩
 ·exact compiled_bad s hz x y hs hc w hg
 ·exact compiled_fine s hz x y h w hg hp
end Go.Proofs.YtldfkcpbjooemaaGreatDoor
namespace Go.Proofs.YtldfkcpbjooemaaGreatDoor
open Go.RowKit Go.ChangeShapes Go.WideShapes Go.ChangeAt
theorem ints_of_trod {H:Type} {enc:TypeId × Value→H} {P:Program} {W:World} {sp:Nat→Bool} {hd:Bool} {t e:TypeId} {m fuel:Nat} {cs:List Value} {zs:List Int} {q:List MemPlace} (ht:P.underlying t=some (.array m e)) (he:P.underlying e=some (.int .i64)) (hc:P.cellsOf e=1)
  (hd':DataW.trod enc P W 0 sp hd fuel t cs=some (.agg (zs.map fun z=>.lit (.int .i64 z)),q)):∀ (i:Nat) (z:Int),zs[i]?=some z→cs[i]?=some (Value.int .i64 z):=by
 obtain ⟨xs,m1,rfl,hx,hlen,hxm,hel⟩:=DataW.trod_array ht hd'
 intro i z hz
 simp only[Prod.mk.injEq,DataW.agg.injEq] at hx
 have hl:zs.length=xs.length:=by have:=congrArg List.length hx.1;simpa using this
 have hi:i < zs.length:=(List.getElem?_eq_some_iff.1 hz).1
 have h1:=hel i (by omega)
 rw[hc,List.getElem?_eq_getElem (by omega:i < xs.length)] at h1
 obtain ⟨k,e1,e2,_⟩:=DataW.trod_int he h1
 have h2:(zs.map fun z=>(DataW.lit (.int .i64 z):DataW H))[i]?=(xs.map (·.1))[i]?:=by rw[hx.1]
 rw[List.getElem?_map,List.getElem?_map,hz,List.getElem?_eq_getElem (by omega:i < xs.length),Option.map_some,Option.map_some,e2] at h2
 have hk:k=z:=by simpa using h2.symm
 subst hk
 have h3:((cs.drop (i * 1)).take 1)[0]?=some (.int .i64 k):=by rw[e1];rfl
 rw[List.getElem?_take,if_pos (by omega),List.getElem?_drop] at h3
 simpa using h3
def tabBytes:List Int:=[8,1,0,0,0,0,0,0,0,0,0,0,0,2,2,2,0,0]
def tabTakes:List Int:=[0,0,1,1,2,2,2,2,2,2,2,2,2,0,1,1,1,0]
def tabLays:List Int:=[1,1,1,1,1,1,1,1,1,1,1,1,1,0,0,0,0,0]
theorem tabBytes_eq:∀ c,c < 18→tabBytes[c]?=some ((behindN c:Nat):Int):=by decide
theorem tabTakes_eq:∀ c,c < 18→tabTakes[c]?=some ((takesN c:Nat):Int):=by decide
theorem tabLays_eq:∀ c,c < 18→tabLays[c]?=some ((laysN c:Nat):Int):=by decide
theorem dBytes:(Rows.laid_slots_program_bytesBehind:DataW Unit)=.agg (tabBytes.map fun z=>.lit (.int .i64 z)):=rfl
theorem dTakes:(Rows.laid_slots_program_takes:DataW Unit)=.agg (tabTakes.map fun z=>.lit (.int .i64 z)):=rfl
theorem dLays:(Rows.laid_slots_program_lays:DataW Unit)=.agg (tabLays.map fun z=>.lit (.int .i64 z)):=rfl
def laidName (i:Nat):String:=((Rows.compilesRow.laid[i]?).map (·.1)).getD default
theorem gBytes:Tryz.prog.globalNamed (laidName 3)=some 0:=by kernel_rfl
theorem gTakes:Tryz.prog.globalNamed (laidName 4)=some 1:=by kernel_rfl
theorem gLays:Tryz.prog.globalNamed (laidName 5)=some 2:=by kernel_rfl
theorem tyBytes:(Tryz.prog.globals[0]?).map (·.type)=some 166:=by kernel_rfl
theorem tyTakes:(Tryz.prog.globals[1]?).map (·.type)=some 166:=by kernel_rfl
theorem tyLays:(Tryz.prog.globals[2]?).map (·.type)=some 166:=by kernel_rfl
theorem cellsInt:Tryz.prog.cellsOf 3=1:=by kernel_rfl
theorem table_of {W:World} {nm:String} {g t:Nat} {cs:Array Value} {fuel:Nat} {p:List MemPlace} {zs:List Int} {d:DataW Unit} (k:Nat) (hgk:Tryz.prog.globalNamed nm=some k) (htk:(Tryz.prog.globals[k]?).map (·.type)=some 166) (hd0:d=.agg (zs.map fun z=>.lit (.int .i64 z)))
  (hg:Tryz.prog.globalNamed nm=some g) (ht:(Tryz.prog.globals[g]?).map (·.type)=some t) (hv:W.var? Tryz.prog nm=some cs) (hd:DataW.trod (fun _=>()) Tryz.prog W 0 (fun _=>true) false fuel t cs.toList=some (d,p)) :
  ∀ (i:Nat) (z:Int),zs[i]?=some z→W.cell? ⟨k,i,none⟩=some (.int .i64 z):=by
 obtain rfl:=Option.some.inj (hgk.symm.trans hg)
 obtain rfl:=Option.some.inj (htk.symm.trans ht)
 subst hd0
 intro i z hz
 have h1:=ints_of_trod Tryz.underlying166 Tryz.underlying3 cellsInt hd i z hz
 rw[World.var?_cell hgk hv i]
 simpa using h1
end Go.Proofs.YtldfkcpbjooemaaGreatDoor
namespace Go.Proofs.YtldfkcpbjooemaaGreatDoor
open Go.RowKit Go.ChangeShapes Go.WideShapes Go.ChangeAt
theorem strs_of_trod {H:Type} {enc:TypeId × Value→H} {P:Program} {W:World} {sp:Nat→Bool} {hd:Bool} {t e:TypeId} {m fuel:Nat} {cs:List Value} {zs:List Txt} {q:List MemPlace} (ht:P.underlying t=some (.array m e)) (he:P.underlying e=some .string) (hc:P.cellsOf e=1)
  (hd':DataW.trod enc P W 0 sp hd fuel t cs=some (.agg (zs.map fun z=>.lit (.string z)),q)):∀ (i:Nat) (z:Txt),zs[i]?=some z→cs[i]?=some (Value.string (bsOf z)):=by
 obtain ⟨xs,m1,rfl,hx,hlen,hxm,hel⟩:=DataW.trod_array ht hd'
 intro i z hz
 simp only[Prod.mk.injEq,DataW.agg.injEq] at hx
 have hl:zs.length=xs.length:=by have:=congrArg List.length hx.1;simpa using this
 have hi:i < zs.length:=(List.getElem?_eq_some_iff.1 hz).1
 have h1:=hel i (by omega)
 rw[hc,List.getElem?_eq_getElem (by omega:i < xs.length)] at h1
 obtain ⟨k,e1,e2,_⟩:=DataW.trod_string he h1
 have h2:(zs.map fun z=>(DataW.lit (.string z):DataW H))[i]?=(xs.map (·.1))[i]?:=by rw[hx.1]
 rw[List.getElem?_map,List.getElem?_map,hz,List.getElem?_eq_getElem (by omega:i < xs.length),Option.map_some,Option.map_some,e2] at h2
 have hk:z=k.data.toList:=by simpa using h2
 have hkb:bsOf z=k:=by rw[hk];cases k;simp[bsOf]
 rw[hkb]
 have h3:((cs.drop (i * 1)).take 1)[0]?=some (.string k):=by rw[e1];rfl
 rw[List.getElem?_take,if_pos (by omega),List.getElem?_drop] at h3
 simpa using h3
theorem dWords:(Rows.laid_slots_token_words:DataW Unit)=.agg (tWords.map fun z=>.lit (.string z)):=rfl
theorem dSigns:(Rows.laid_slots_token_signs:DataW Unit)=.agg (tSign.map fun z=>.lit (.string z)):=rfl
def laidNameC (i:Nat):String:=((Rows.compilesRow.laid[i]?).map (·.1)).getD default
theorem gWords:Tryz.prog.globalNamed (laidNameC 6)=some 3:=by kernel_rfl
theorem gSigns:Tryz.prog.globalNamed (laidNameC 7)=some 4:=by kernel_rfl
theorem tyWords:(Tryz.prog.globals[3]?).map (·.type)=some 210:=by kernel_rfl
theorem tySigns:(Tryz.prog.globals[4]?).map (·.type)=some 211:=by kernel_rfl
theorem undWords:Tryz.prog.underlying 210=some (.array 19 9):=by kernel_rfl
theorem undSigns:Tryz.prog.underlying 211=some (.array 12 9):=by kernel_rfl
theorem cellsStr':Tryz.prog.cellsOf 9=1:=by kernel_rfl
theorem table_str {W:World} {nm:String} {g t ty m:Nat} {cs:Array Value} {fuel:Nat} {p:List MemPlace} {zs:List Txt} {d:DataW Unit} (k:Nat) (hgk:Tryz.prog.globalNamed nm=some k) (htk:(Tryz.prog.globals[k]?).map (·.type)=some ty) (hu:Tryz.prog.underlying ty=some (.array m 9)) (hd0:d=.agg (zs.map fun z=>.lit (.string z)))
  (hg:Tryz.prog.globalNamed nm=some g) (ht:(Tryz.prog.globals[g]?).map (·.type)=some t) (hv:W.var? Tryz.prog nm=some cs) (hd:DataW.trod (fun _=>()) Tryz.prog W 0 (fun _=>true) false fuel t cs.toList=some (d,p)) :
  ∀ (i:Nat) (z:Txt),zs[i]?=some z→W.cell? ⟨k,i,none⟩=some (.string (bsOf z)):=by
 obtain rfl:=Option.some.inj (hgk.symm.trans hg)
 obtain rfl:=Option.some.inj (htk.symm.trans ht)
 subst hd0
 intro i z hz
 have h1:=strs_of_trod hu Tryz.underlying9 cellsStr' hd i z hz
 rw[World.var?_cell hgk hv i]
 simpa using h1
def laidAllC:List (String × DataW Unit):=Rows.compilesRow.laid
theorem Tryz.ownC:ownKnob Tryz.prog.godebug=none:=by kernel_rfl
theorem Tryz.laidOutC:laidOutB Tryz.prog=true:=by kernel_rfl
theorem door_metC (os:Os) (args:Array Value):laidMetH Tryz.prog laidAllC ((World.doorLaid Tryz.prog 87 os).forCall (fun _ _=>0) ⟨#[],args,[]⟩).memory :=
 laidMetH_of_parts3 (fuel:=8) (laidMet_of_run' 8 (by kernel_rfl) (by kernel_rfl)) (by kernel_rfl) (by kernel_rfl)
theorem globs_of_laid {W:World} (h:laidMetH Tryz.prog laidAllC W):GlobP W∧GlobT W:=by
 rw[MakeChecks.laidMetH_plain _ _ _ (by kernel_rfl)] at h
 obtain ⟨ps,⟨g0,t0,cs0,f0,p0,q0,hg0,ht0,hv0,hd0,⟨g1,t1,cs1,f1,p1,q1,hg1,ht1,hv1,hd1,⟨g2,t2,cs2,f2,p2,q2,hg2,ht2,hv2,hd2,⟨g3,t3,cs3,f3,p3,q3,hg3,ht3,hv3,hd3,⟨g4,t4,cs4,f4,p4,q4,hg4,ht4,hv4,hd4,⟨g5,t5,cs5,f5,p5,q5,hg5,ht5,hv5,hd5,⟨g6,t6,cs6,f6,p6,q6,hg6,ht6,hv6,hd6,⟨g7,t7,cs7,f7,p7,q7,hg7,ht7,hv7,hd7,_,_⟩,_⟩,_⟩,_⟩,_⟩,_⟩,_⟩,_⟩,_,_⟩:=h
 have hb:=table_of 0 gBytes tyBytes dBytes hg3 ht3 hv3 hd3
 have hk:=table_of 1 gTakes tyTakes dTakes hg4 ht4 hv4 hd4
 have hl:=table_of 2 gLays tyLays dLays hg5 ht5 hv5 hd5
 have hw:=table_str 3 gWords tyWords undWords dWords hg6 ht6 hv6 hd6
 have ht:=table_str 4 gSigns tySigns undSigns dSigns hg7 ht7 hv7 hd7
 have hlt:∀ (k:Nat) (v:Value),W.cell? ⟨k,0,none⟩=some v→k < W.heap.size:=fun k v hc=>by
  by_cases h:k < W.heap.size
  ·exact h
  ·simp[World.cell?,Array.getElem?_eq_none (by omega:W.heap.size≤k)] at hc
 exact ⟨⟨fun c hc=>hb c _ (tabBytes_eq c hc),fun c hc=>hk c _ (tabTakes_eq c hc),fun c hc=>hl c _ (tabLays_eq c hc),⟨hlt _ _ (hb 0 _ (tabBytes_eq 0 (by omega))),hlt _ _ (hk 0 _ (tabTakes_eq 0 (by omega))),hlt _ _ (hl 0 _ (tabLays_eq 0 (by omega)))⟩⟩,⟨fun i hi=>hw i _ (List.getElem?_eq_getElem hi),fun i hi=>ht i _ (List.getElem?_eq_getElem hi),hlt _ _ (hw 0 _ rfl),hlt _ _ (ht 0 _ rfl)⟩⟩
end Go.Proofs.YtldfkcpbjooemaaGreatDoor
namespace Go.Proofs.YtldfkcpbjooemaaGreatDoor
open Go.RowKit
structure Opr where
 kind:Int
 at':Int
 a:Int
 b:Int
 s:ByteArray
 x:Itm
 y:Bn
def oprV (o:Opr):Value:=.agg #[.int .i64 o.kind,.int .i64 o.at',.int .i64 o.a,.int .i64 o.b,.string o.s,.int .i64 o.x.size,.int .i64 o.x.speed,.int .i64 o.x.need,.int .i64 o.y.id,.int .i64 o.y.zone,.int .i64 o.y.cap,.int .i64 o.y.used,.int .i64 o.y.has]
def oprCells (o:Opr):List Value:=[.int .i64 o.kind,.int .i64 o.at',.int .i64 o.a,.int .i64 o.b,.string o.s,.int .i64 o.x.size,.int .i64 o.x.speed,.int .i64 o.x.need,.int .i64 o.y.id,.int .i64 o.y.zone,.int .i64 o.y.cap,.int .i64 o.y.used,.int .i64 o.y.has]
def Opr.Fit (o:Opr):Prop:=o.s.size≤maxLen
def Script (w:World) (v:Value) (n:Nat) (os:Nat→Opr):Prop :=
 ((∃ a c,v=.slice a 0 c)∧n=0)∨∃ b off cap,v=.slice (some ⟨b,off,none⟩) n cap∧b < w.heap.size∧∀ i,i < n→(os i).Fit∧∀ j u,(oprCells (os i))[j]?=some u→w.cell? ⟨b,off+i * 13+j,none⟩=some u
set_option maxHeartbeats 1000000 in
set_option maxRecDepth 10000 in
theorem each_any (G:World→Prop) (hG:∀ w w',G w→Below w.heap.size w w'→G w') (K:Int) (n:Nat) (hn:n≤maxLen) (v:Value) (os:Nat→Opr) (w:World) (hs:Script w v n os) (hg:G w)
  (hal:∀ o:Opr,o.Fit→o.kind=K→∀ w,G w→Calls Tryz.prog 5 #[oprV o] w fun e w'=>Below w.heap.size w w'∧e=.returned (.bool true)) :
  Calls Tryz.prog 4 #[v,.int .i64 K] w fun e w'=>Below w.heap.size w w'∧e=.returned (.bool true):=by
 have hn':(n:Int)≤9223372036854775807:=by have h:=hn;simp[maxLen] at h;omega
 rcases hs with ⟨⟨a0,c0,rfl⟩,rfl⟩ | ⟨b,off,cap,rfl,hlt,hc⟩
 ·go_enter Tryz.func4,Tryz.ntmps4
  go_wp2
  refine wp_loop_rounds 1 ?_;rw[rounds_succ]
  go_wp2
  go_ret
  exact ⟨Below.refl _ _,rfl⟩
 have HC:Hid (∀ i,i < n→(os i).Fit∧∀ j u,(oprCells (os i))[j]?=some u→w.cell? ⟨b,off+i * 13+j,none⟩=some u):=hc
 have HG:Hid (G w):=hg
 have HA:Hid (∀ o:Opr,o.Fit→o.kind=K→∀ w,G w→Calls Tryz.prog 5 #[oprV o] w fun e w'=>Below w.heap.size w w'∧e=.returned (.bool true)):=hal
 clear hc hg hal hn
 go_enter Tryz.func4,Tryz.ntmps4
 go_wp2
 go_loopw [5] (fun vi wx=>∃ i:Nat,i≤n∧vi=.int .i64 i∧Below w.heap.size w wx) (fun i _=>n - (intOf i).toNat)
 case atStart=>exact ⟨0,Nat.zero_le _,rfl,Below.refl _ _⟩
 case round =>
  obtain ⟨i,hil,rfl,hbl⟩:=hrel
  by_cases hi:i < n
  case neg =>
   go_wp2
   go_ret
   exact ⟨hbl,rfl⟩
  obtain ⟨hfit,hcell⟩:=HC.out i hi
  have hx:∀ j u,(oprCells (os i))[j]?=some u→wr.cell? ⟨b,off+i * 13+j,none⟩=some u:=fun j u h=>(hbl.cell (p:=⟨b,off+i * 13+j,none⟩) hlt).trans (hcell j u h)
  obtain ⟨o,ho⟩:∃ o,o=os i:=⟨_,rfl⟩
  rw[← ho] at hx hfit
  have HF:Hid o.Fit:=hfit
  have c0:wr.cell? ⟨b,off+i * 13,none⟩=some (.int .i64 o.kind):=hx 0 _ rfl
  have c1:wr.cell? ⟨b,off+i * 13+1,none⟩=some (.int .i64 o.at'):=hx 1 _ rfl
  have c2:wr.cell? ⟨b,off+i * 13+2,none⟩=some (.int .i64 o.a):=hx 2 _ rfl
  have c3:wr.cell? ⟨b,off+i * 13+3,none⟩=some (.int .i64 o.b):=hx 3 _ rfl
  have c4:wr.cell? ⟨b,off+i * 13+4,none⟩=some (.string o.s):=hx 4 _ rfl
  have c5:wr.cell? ⟨b,off+i * 13+5,none⟩=some (.int .i64 o.x.size):=hx 5 _ rfl
  have c6:wr.cell? ⟨b,off+i * 13+6,none⟩=some (.int .i64 o.x.speed):=hx 6 _ rfl
  have c7:wr.cell? ⟨b,off+i * 13+7,none⟩=some (.int .i64 o.x.need):=hx 7 _ rfl
  have c8:wr.cell? ⟨b,off+i * 13+8,none⟩=some (.int .i64 o.y.id):=hx 8 _ rfl
  have c9:wr.cell? ⟨b,off+i * 13+9,none⟩=some (.int .i64 o.y.zone):=hx 9 _ rfl
  have c10:wr.cell? ⟨b,off+i * 13+10,none⟩=some (.int .i64 o.y.cap):=hx 10 _ rfl
  have c11:wr.cell? ⟨b,off+i * 13+11,none⟩=some (.int .i64 o.y.used):=hx 11 _ rfl
  have c12:wr.cell? ⟨b,off+i * 13+12,none⟩=some (.int .i64 o.y.has):=hx 12 _ rfl
  clear hx hcell ho hfit
  by_cases hk:o.kind=K
  ·have HK:Hid (o.kind=K):=hk
   have hkb:(o.kind==K)=true:=by simpa using hk
   clear hk
   go_wp2_with (go_at_call 5;refine (HA.out o HF.out HK.out _ (hG _ _ HG.out hbl)).mono ?_;rintro e w1 ⟨hb1,rfl⟩)
   go_roundw
   case rel=>exact ⟨i+1,by omega,by go_num,hbl.trans (hb1.mono hbl.size)⟩
   case measure=>simp[intOf];omega
  ·have hkb:(o.kind==K)=false:=by simpa using hk
   clear hk
   go_wp2
   go_roundw
   case rel=>exact ⟨i+1,by omega,by go_num,hbl⟩
   case measure=>simp[intOf];omega
end Go.Proofs.YtldfkcpbjooemaaGreatDoor
