/-
  The program's Best and Rank, whatever the image does with each bin.
-/
import Derived.Test.YtpcjadaeolkngaaGreatDoorK29
set_option linter.unusedVariables false
set_option linter.unusedSimpArgs false
namespace Go.Proofs.YtpcjadaeolkngaaGreatDoor
open Go.RowKit Go.Deep
def RunsAt (s:ByteArray) (x:Itm) (r:SayB) (y:Bn):Prop:=∀ wx,GlobY wx→Calls Tryz.prog 29 #[.string s,itmA x,bnA y] wx fun e w'=>Below wx.heap.size wx w'∧∃ n:Nat,e=.returned (.agg #[.int .i64 ((r y).1:Nat),.int .i64 (r y).2,.int .i64 n])
theorem sets4' {B rb:Nat} {w w1:World} (h:Below B w w1) (hB:B≤rb) (a b c d:Value):Below B w ((((w1.setCell ⟨rb,0,none⟩ a).setCell ⟨rb,1,none⟩ b).setCell ⟨rb,2,none⟩ c).setCell ⟨rb,3,none⟩ d):=sets4 h hB a b c d
theorem fold_len:∀ (l acc:List Plc),(l.foldl withL acc).length=acc.length+l.length
 | [],acc=>by simp
 | p :: l,acc=>by rw[List.foldl_cons,fold_len l,withL_length,List.length_cons];omega
theorem sort_len (r:SayB) (bs:List Bn):(sortQ (scoredL r bs)).length≤bs.length:=by
 unfold sortQ
 rw[fold_len]
 have:=scoredL_len r bs
 simpa using this
theorem fault_none {r:SayB} {bs:List Bn} (h:∀ b∈bs,(r b).1≠2):faultB r bs=none:=by
 unfold faultB
 rw[List.find?_eq_none]
 intro b hb
 simpa using h b hb
theorem fault_at {r:SayB} {bs:List Bn} {i:Nat} (hi:i < bs.length) (h2:(r bs[i]).1=2) (h:∀ b∈bs.take i,(r b).1≠2):faultB r bs=some bs[i]:=by
 unfold faultB
 rw[List.find?_eq_some_iff_getElem]
 refine ⟨by simpa using h2,i,hi,rfl,fun j hj=>?_⟩
 have:=h (bs[j]'(by omega)) (by rw[List.mem_take_iff_getElem];exact ⟨j,by omega,rfl⟩)
 simpa using this
set_option maxHeartbeats 4000000 in
set_option maxRecDepth 100000 in
theorem Best_gen (s:ByteArray) (x:Itm) (r:SayB) (bs:List Bn) (hbl:bs.length≤100) (hs:∀ y∈bs,RunsAt s x r y) (hr3:∀ y∈bs,(r y).1=0∨(r y).1=1∨(r y).1=2) (bv:Value) (k:Int) (hk:In64 k) (w:World) (hr:Reads w bv bs.length (cellsB bs)) (hg:GlobY w) :
  Calls Tryz.prog 33 #[.string s,itmA x,bv,.int .i64 k] w fun e w'=>Below w.heap.size w w'∧((∃ b,faultB r bs=some b∧e=.returned (.agg #[.int .i64 0,.int .i64 (r b).2,.int .i64 b.id,.slice none 0 0]))∨(faultB r bs=none∧∃ v',e=.returned (.agg #[.int .i64 0,.int .i64 0,.int .i64 0,v'])∧w'.ownsRow (w.heap.size+2) 89 2 v' ((sortQ (scoredL r bs)).take k.toNat).length (cellsQ ((sortQ (scoredL r bs)).take k.toNat)))):=by
 have HS:=Hid.mk2 hs
 have hb2:=two_below w (.cells #[.int .i64 x.size,.int .i64 x.speed,.int .i64 x.need] 23) (.cells #[.int .i64 0,.int .i64 0,.int .i64 0,.slice none 0 0] 51)
 have HM:Hid (BSt w (((w.alloc (.cells #[.int .i64 x.size,.int .i64 x.speed,.int .i64 x.need] 23)).alloc (.cells #[.int .i64 0,.int .i64 0,.int .i64 0,.slice none 0 0] 51)).alloc (.cells #[] 89)) x bv (.slice (some ⟨w.heap.size+1+1,0,none⟩) 0 0) bs (sortQ (scoredL r (bs.take 0)))):=by
  have e:=own_nilQ ((w.alloc (.cells #[.int .i64 x.size,.int .i64 x.speed,.int .i64 x.need] 23)).alloc (.cells #[.int .i64 0,.int .i64 0,.int .i64 0,.slice none 0 0] 51)) (w.heap.size+2) (by simp)
  have e2:((w.alloc (.cells #[.int .i64 x.size,.int .i64 x.speed,.int .i64 x.need] 23)).alloc (.cells #[.int .i64 0,.int .i64 0,.int .i64 0,.slice none 0 0] 51)).heap.size=w.heap.size+1+1:=by simp
  rw[e2] at e
  have hrk:=Blk.new (w.alloc (.cells #[.int .i64 x.size,.int .i64 x.speed,.int .i64 x.need] 23)) #[.int .i64 0,.int .i64 0,.int .i64 0,.slice none 0 0] 51
  have e3:(w.alloc (.cells #[.int .i64 x.size,.int .i64 x.speed,.int .i64 x.need] 23)).heap.size=w.heap.size+1:=by simp
  rw[e3] at hrk
  exact ⟨((Blk.new w _ _).alloc _).alloc _,hrk.alloc _,e,(hr.below hb2).alloc _,(hg.below hb2).below (box3 _ _),three_below w _ _ _⟩
 obtain ⟨a,c,rfl⟩:=hr.shape
 obtain ⟨lk,hlk⟩:∃ lk,(sortQ (scoredL r bs)).take k.toNat=lk:=⟨_,rfl⟩
 rw[hlk]
 have HLK:=Hid.mk2 hlk
 have HR3:=Hid.mk2 hr3
 clear hlk hs hr hg hb2 hr3
 unfold itmA
 go_enter Tryz.func33,Tryz.ntmps33
 go_wp2
 generalize ((w.alloc (.cells #[.int .i64 x.size,.int .i64 x.speed,.int .i64 x.need] 23)).alloc (.cells #[.int .i64 0,.int .i64 0,.int .i64 0,.slice none 0 0] 51)).alloc (.cells #[] 89)=w0 at HM ⊢
 go_loopw [9,10] (fun v vi wr=>∃ i:Nat,i≤bs.length∧vi=.int .i64 i∧BSt w wr x (.slice a bs.length c) v bs (sortQ (scoredL r (bs.take i)))∧∀ b∈bs.take i,(r b).1≠2) (fun _ i _=>1000 - (intOf i).toNat)
 case atStart=>exact ⟨0,Nat.zero_le _,rfl,HM.out,fun b hb=>by simp at hb⟩
 case round =>
  obtain ⟨i,hi,rfl,hm,hno⟩:=hrel
  have HNO:=Hid.mk2 hno
  clear hno
  clear HM
  have HQ:=Hid.mk2 hm
  by_cases hlt:i < bs.length
  ·obtain ⟨g,o,cap,hcut,hcap,hg,hc⟩:=hm.rd.pos (by omega)
   cases hcut
   obtain ⟨d0,d1,d2,d3,d4⟩:=bin_cells hc i hlt
   have HYS:=Hid.mk2 (HS.out bs[i] (List.getElem_mem hlt))
   have HTK:Hid (bs.take (i+1)=bs.take i++[bs[i]]):=(List.take_succ_eq_append_getElem hlt:_=_)
   have HR3Y:=Hid.mk2 (HR3.out bs[i] (List.getElem_mem hlt))
   have HFY:Hid ((r bs[i]).1=2→faultB r bs=some bs[i]):=fun h2=>fault_at hlt h2 HNO.out
   obtain ⟨y,hy⟩:∃ y,bs[i]=y:=⟨_,rfl⟩
   rw[hy] at d0 d1 d2 d3 d4 HYS HTK HR3Y HFY
   have HYD:Hid (∀ wx,BSt w wx x (.slice (some ⟨g,o,none⟩) bs.length c) u9 bs (sortQ (scoredL r (bs.take i)))→g < wx.heap.size∧wx.cell? ⟨g,o+i * 5,none⟩=some (.int .i64 y.id)):=by
    intro wx hx
    obtain ⟨g',o',cap',hcut',_,hg',hc'⟩:=hx.rd.pos (by omega)
    cases hcut'
    have:=(bin_cells hc' i hlt).1
    rw[hy] at this
    exact ⟨hg',this⟩
   have hit:=hm.it.lt
   have hrk:=hm.rk.lt
   have i0:=hm.it.cell 0
   have i1:=hm.it.cell 1
   have i2:=hm.it.cell 2
   simp only[List.getElem?_toArray,List.getElem?_cons_zero,List.getElem?_cons_succ] at i0 i1 i2
   have hll:(sortQ (scoredL r (bs.take i))).length≤1000:=by have:=sort_len r (bs.take i);simp at this;omega
   have HTS:Hid (sortQ (scoredL r (bs.take (i+1)))=if (r y).1=1 then withL (sortQ (scoredL r (bs.take i))) ⟨y.id,(r y).2⟩ else sortQ (scoredL r (bs.take i))):=(by rw[HTK.out];exact sort_snoc r _ y:_=_)
   have HNN:Hid ((r y).1≠2→∀ b∈bs.take (i+1),(r b).1≠2):=(fun h b hb=>by
    rw[HTK.out] at hb
    rcases List.mem_append.1 hb with h1 | h1
    ·exact HNO.out b h1
    ·simp at h1;rw[h1];exact h:_→_)
   obtain ⟨acc,hacc⟩:∃ acc,sortQ (scoredL r (bs.take i))=acc:=⟨_,rfl⟩
   rw[hacc] at HQ HTS hll HYD
   obtain ⟨⟨rk,rv⟩,hry⟩:∃ q,r y=q:=⟨_,rfl⟩
   have HRY:=Hid.mk2 hry
   unfold RunsAt at HYS
   rw[hry] at HYS HTS HNN HR3Y HFY
   clear hm hc hy hacc hry HTK
   go_upto_region 5 with fail
   go_cut [11] from 13 to 49 (fun s11 wx=>∃ zb n,s11=.pointer (some ⟨zb,0,none⟩)∧Blk wx zb #[.int .i64 (rk:Nat),.int .i64 rv,.int .i64 (n:Nat)] 29∧BSt w wx x (.slice (some ⟨g,o,none⟩) bs.length c) u9 bs acc)
   case first =>
    go_region_with (go_at_call 29;refine (HYS.out _ (by first | with_reducible exact HQ.out.dr.gp | with_reducible exact (HQ.out.al (.cells #[.int .i64 0,.int .i64 0,.int .i64 0] 29)).dr.gp)).mono ?_;rintro e w8 ⟨hb8,n,rfl⟩;(first | (have hb9:Below wr.drew.heap.size wr.drew w8:=(by with_reducible exact hb8);have HBX:Hid (Below wr.heap.size wr w8):=(below_drewN (Below.refl _ wr) 1).trans hb9;clear hb9) | (have hb9:Below (wr.alloc (.cells #[.int .i64 0,.int .i64 0,.int .i64 0] 29)).drew.heap.size (wr.alloc (.cells #[.int .i64 0,.int .i64 0,.int .i64 0] 29)).drew w8:=(by with_reducible exact hb8);have hZ:=(Blk.new wr #[.int .i64 0,.int .i64 0,.int .i64 0] 29).drew.below hb9 (by simp);have HBX:Hid (Below wr.heap.size wr w8):=(below_drewN (box3 wr (.cells #[.int .i64 0,.int .i64 0,.int .i64 0] 29)) 1).trans (hb9.mono (by simp));clear hb9));clear hb8;try (have q0:=hZ.cell 0;have q1:=hZ.cell 1;have q2:=hZ.cell 2;have z0:=hZ.free 0;have z1:=hZ.free 1;have z2:=hZ.free 2))
    all_goals
     go_wp2_with fail
     go_meet
     case rel=>first | (have hZ1:=hZ;exact ⟨_,n,rfl,((hZ.set 0 _).set 1 _).set 2 _,HQ.out.below (((HBX.out.setCell (p:=⟨wr.heap.size,0,none⟩) (Nat.le_refl _) _).setCell (p:=⟨wr.heap.size,1,none⟩) (Nat.le_refl _) _).setCell (p:=⟨wr.heap.size,2,none⟩) (Nat.le_refl _) _)⟩) | exact ⟨_,n,rfl,Blk.new w8 _ _,(HQ.out.below HBX.out).al _⟩
   case rest =>
    obtain ⟨zb,n,rfl,hz,hq⟩:=hcut
    clear HQ i0 i1 i2 hit hrk d0 d1 d2 d3 d4
    have HQ:=Hid.mk2 hq
    have HZ:=Hid.mk2 hz
    have z0:=hz.cell 0
    have z1:=hz.cell 1
    have hzl:=hz.lt
    simp only[List.getElem?_toArray,List.getElem?_cons_zero,List.getElem?_cons_succ] at z0 z1
    obtain ⟨hgl,d0⟩:=HYD.out _ hq
    clear hz hq
    rcases HR3Y.out with h0 | h0 | h0
    ·have h0':rk=0:=h0
     subst h0'
     have HNX:Hid (sortQ (scoredL r (bs.take (i+1)))=acc):=(by rw[HTS.out];rfl:_=_)
     have HN2:=Hid.mk2 (HNN.out (by simp))
     go_wp2
     go_roundw
     case rel=>exact ⟨i+1,by omega,by go_num,by rw[HNX.out];exact HQ.out,HN2.out⟩
     case measure=>simp[intOf];omega
    ·have h0':rk=1:=h0
     subst h0'
     have HNX:Hid (sortQ (scoredL r (bs.take (i+1)))=withL acc ⟨y.id,rv⟩):=(by rw[HTS.out];rfl:_=_)
     have HN2:=Hid.mk2 (HNN.out (by simp))
     go_upto_region 10 with fail
     go_region_with (go_at_call 58;refine (rwith_any acc hll ⟨y.id,rv⟩ _ _ (by first | with_reducible exact reads_of_own HQ.out.dr.own | with_reducible exact reads_of_own HQ.out.own)).mono ?_;rintro e w9 ⟨hb9,v',rfl,ho9⟩;have HQ2:=Hid.mk2 (by first | with_reducible exact HQ.out.dr.more hb9 ho9 | with_reducible exact HQ.out.more hb9 ho9);clear hb9 ho9)
     all_goals
      go_wp2
      go_roundw
      case rel=>exact ⟨i+1,by omega,by go_num,by rw[HNX.out];exact HQ2.out,HN2.out⟩
      case measure=>simp[intOf];omega
    ·have h0':rk=2:=h0
     subst h0'
     have HFB:=Hid.mk2 (HFY.out rfl)
     have r0:=HQ.out.rk.cell
     have rf:=HQ.out.rk.free
     have hrl:=HQ.out.rk.lt
     go_upto_region 8 with fail
     go_region
     all_goals
      go_wp2
      have hfb:=(((HQ.out.rk.set 0 (.int .i64 0)).set 1 (.int .i64 rv)).set 2 (.int .i64 y.id)).set 3 (.slice none 0 0)
      have g0:=hfb.cell 0
      have g1:=hfb.cell 1
      have g2:=hfb.cell 2
      have g3:=hfb.cell 3
      refine bodyPost_ret (v:=.agg #[.int .i64 0,.int .i64 rv,.int .i64 y.id,.slice none 0 0]) (by simp[results,Tryz.results33,go_sem,g0,g1,g2,g3]) rfl ⟨?_,.inl ⟨y,HFB.out,by rw[HRY.out]⟩⟩
      first | exact sets4' HQ.out.bl (by omega) _ _ _ _ | exact below_drewN (sets4' HQ.out.bl (by omega) _ _ _ _) 1
  ·have hin:i=bs.length:=by omega
   subst hin
   rw[List.take_length] at hm HQ
   have hll:(sortQ (scoredL r bs)).length≤1000:=by have:=sort_len r bs;omega
   have HFN:Hid (faultB r bs=none):=(fault_none (by have:=HNO.out;rwa [List.take_length] at this):_=_)
   have hrk:=hm.rk.lt
   have r0:=hm.rk.cell 0
   clear hm r0
   go_wp2_with (go_at_call 59;refine (rfirst_any _ hll k hk _ _ (reads_of_own HQ.out.own)).mono ?_;rintro e w9 ⟨hb9,v',rfl,ho9⟩;rw[HLK.out] at ho9;obtain ⟨va,vc,hvs⟩:=(reads_of_own ho9).shape;subst hvs;have HO:=Hid.mk2 (own_low (base':=w.heap.size+2) ho9 (by omega));replace HQ:=Hid.mk2 (HQ.out.below hb9);clear hb9 ho9;have r0:=HQ.out.rk.cell 0;have r1:=HQ.out.rk.cell 1;have r2:=HQ.out.rk.cell 2;have r3:=HQ.out.rk.cell 3;have fr0:=HQ.out.rk.free 0;have fr1:=HQ.out.rk.free 1;have fr2:=HQ.out.rk.free 2;have fr3:=HQ.out.rk.free 3;have hrl:=HQ.out.rk.lt;simp only[List.getElem?_toArray,List.getElem?_cons_zero,List.getElem?_cons_succ] at r0 r1 r2 r3)
   have hfb:=(((HQ.out.rk.set 0 (.int .i64 0)).set 1 (.int .i64 0)).set 2 (.int .i64 0)).set 3 (.slice va lk.length vc)
   have g0:=hfb.cell 0
   have g1:=hfb.cell 1
   have g2:=hfb.cell 2
   have g3:=hfb.cell 3
   refine bodyPost_ret (v:=.agg #[.int .i64 0,.int .i64 0,.int .i64 0,(.slice va lk.length vc)]) (by simp[results,Tryz.results33,go_sem,g0,g1,g2,g3]) rfl ⟨?_,.inr ⟨HFN.out,_,rfl, ?_⟩⟩
   ·exact (((HQ.out.bl.setCell (p:=⟨w.heap.size+1,0,none⟩) (by simp only;omega) _).setCell (p:=⟨w.heap.size+1,1,none⟩) (by simp only;omega) _).setCell (p:=⟨w.heap.size+1,2,none⟩) (by simp only;omega) _).setCell (p:=⟨w.heap.size+1,3,none⟩) (by simp only;omega) _
   ·exact own_setCell (own_setCell (own_setCell (own_setCell HO.out _ _ (by simp only;omega)) _ _ (by simp only;omega)) _ _ (by simp only;omega)) _ _ (by simp only;omega)
set_option maxHeartbeats 4000000 in
set_option maxRecDepth 100000 in
theorem Rank_gen (x:Itm) (hx:x.Ok) (r:SayB) (sb:Nat) (bs:List Bn) (im:ByteArray) (him:im.toList.isEmpty=false) (hbl:bs.length≤100) (hs:∀ y∈bs,RunsAt im x r y) (hr3:∀ y∈bs,(r y).1=0∨(r y).1=1∨(r y).1=2) (k:Int) (hk:In64 k) (hk0:0≤k) (w:World) (h:StoreAt w sb bs im) (hg:GlobY w) :
  Calls Tryz.prog 15 #[.pointer (some ⟨sb,0,none⟩),itmA x,.int .i64 k] w fun e w'=>Below w.heap.size w w'∧((∃ b,faultB r bs=some b∧e=.returned (.agg #[.int .i64 0,.int .i64 (r b).2,.int .i64 b.id,.slice none 0 0]))∨(faultB r bs=none∧∃ v',e=.returned (.agg #[.int .i64 0,.int .i64 0,.int .i64 0,v'])∧w'.ownsRow (w.heap.size+2) 89 2 v' ((sortQ (scoredL r bs)).take k.toNat).length (cellsQ ((sortQ (scoredL r bs)).take k.toNat)))):=by
 have HM:=Hid.mk2 (RSt2.start h hg x)
 have HS:=Hid.mk2 hs
 obtain ⟨a,c,h1,h2⟩:=h.ok
 have c0:=h1.cell 0
 have c1:=h1.cell 1
 have hlt:=h1.lt
 simp only[List.getElem?_toArray,List.getElem?_cons_zero,List.getElem?_cons_succ] at c0 c1
 have HXB:Hid (itmB x=true):=(itmB_iff x).2 hx
 have ek:decide (k < 0)=false:=decide_eq_false (by omega)
 obtain ⟨lk,hlk⟩:∃ lk,(sortQ (scoredL r bs)).take k.toNat=lk:=⟨_,rfl⟩
 rw[hlk]
 have HLK:=Hid.mk2 hlk
 have HRV:Hid (∀ wx,StoreAt wx sb bs im→∀ a' c',wx.cell? ⟨sb,0,none⟩=some (.slice a' bs.length c')→Reads wx (.slice a' bs.length c') bs.length (cellsB bs)):=by
  intro wx hx2 a' c' hc
  obtain ⟨a2,c2,g1,g2⟩:=hx2.ok
  have:=g1.cell 0
  simp only[List.getElem?_toArray,List.getElem?_cons_zero] at this
  rw[hc] at this
  cases this
  exact reads_of_own g2
 have HR3:=Hid.mk2 hr3
 clear hs h hg h1 h2 hlk hr3
 unfold itmA
 go_enter Tryz.func15,Tryz.ntmps15
 go_upto_region 7 with (go_at_call 27;refine (pIsItem_any x _).mono ?_;rintro e w1 ⟨rfl,hb1⟩;rw[HXB.out];replace HM:=Hid.mk2 (HM.out.below hb1);clear hb1 c0 c1;obtain ⟨a1,c1,g1,_⟩:=HM.out.st.ok;have s0:=g1.cell 0;have s1:=g1.cell 1;have hls:=g1.lt;have i0:=HM.out.it.cell 0;have i1:=HM.out.it.cell 1;have i2:=HM.out.it.cell 2;have hli:=HM.out.it.lt;have hlr:=HM.out.rk.lt;simp only[List.getElem?_toArray,List.getElem?_cons_zero,List.getElem?_cons_succ] at s0 s1 i0 i1 i2;have HRD:=Hid.mk2 (HRV.out _ HM.out.st _ _ s0);clear g1)
 cases hfo:faultB r bs with
 | none =>
  have HF:=Hid.mk2 hfo
  clear hfo
  go_region_with (go_at_call 33;refine (Best_gen im x r bs hbl HS.out HR3.out _ k hk _ (by first | with_reducible exact HRD.out.drew | with_reducible exact HRD.out) (by first | with_reducible exact HM.out.dr.gp | with_reducible exact HM.out.gp)).mono ?_;rintro e w2 ⟨hb2,hor⟩;obtain ⟨_,v',rfl,ho2⟩:=hor.resolve_left (fun ⟨b,hb,_⟩=>by rw[HF.out] at hb;cases hb);clear hor;rw[HLK.out] at ho2;obtain ⟨va,vc,hvs⟩:=(reads_of_own ho2).shape;subst hvs;have HO:=Hid.mk2 (own_low (base':=w.heap.size+2) ho2 (by first | omega | (simp;omega)));replace HM:=Hid.mk2 (by first | with_reducible exact HM.out.dr.below hb2 | with_reducible exact HM.out.below hb2);clear hb2 ho2;have r0:=HM.out.rk.cell 0;have r1:=HM.out.rk.cell 1;have r2:=HM.out.rk.cell 2;have r3:=HM.out.rk.cell 3;have fr0:=HM.out.rk.free 0;have fr1:=HM.out.rk.free 1;have fr2:=HM.out.rk.free 2;have fr3:=HM.out.rk.free 3;have hrl:=HM.out.rk.lt;simp only[List.getElem?_toArray,List.getElem?_cons_zero,List.getElem?_cons_succ] at r0 r1 r2 r3)
  all_goals
   go_wp2
   have hfb:=(((HM.out.rk.set 0 (.int .i64 0)).set 1 (.int .i64 0)).set 2 (.int .i64 0)).set 3 (.slice va lk.length vc)
   have g0:=hfb.cell 0
   have g1:=hfb.cell 1
   have g2:=hfb.cell 2
   have g3:=hfb.cell 3
   refine bodyPost_ret (v:=.agg #[.int .i64 0,.int .i64 0,.int .i64 0,(.slice va lk.length vc)]) (by simp[results,Tryz.results15,go_sem,g0,g1,g2,g3]) rfl ⟨?_,.inr ⟨HF.out,_,rfl, ?_⟩⟩
   ·exact sets4 HM.out.bl (by omega) _ _ _ _
   ·exact own_setCell (own_setCell (own_setCell (own_setCell HO.out _ _ (by simp only;omega)) _ _ (by simp only;omega)) _ _ (by simp only;omega)) _ _ (by simp only;omega)
 | some b =>
  have HF:=Hid.mk2 hfo
  clear hfo
  go_region_with (go_at_call 33;refine (Best_gen im x r bs hbl HS.out HR3.out _ k hk _ (by first | with_reducible exact HRD.out.drew | with_reducible exact HRD.out) (by first | with_reducible exact HM.out.dr.gp | with_reducible exact HM.out.gp)).mono ?_;rintro e w2 ⟨hb2,hor⟩;obtain ⟨b',hb',rfl⟩:=hor.resolve_right (fun h=>by rw[HF.out] at h;cases h.1);clear hor;obtain rfl:=Option.some.inj (HF.out.symm.trans hb');clear hb';replace HM:=Hid.mk2 (by first | with_reducible exact HM.out.dr.below hb2 | with_reducible exact HM.out.below hb2);clear hb2;have r0:=HM.out.rk.cell 0;have r1:=HM.out.rk.cell 1;have r2:=HM.out.rk.cell 2;have r3:=HM.out.rk.cell 3;have fr0:=HM.out.rk.free 0;have fr1:=HM.out.rk.free 1;have fr2:=HM.out.rk.free 2;have fr3:=HM.out.rk.free 3;have hrl:=HM.out.rk.lt;simp only[List.getElem?_toArray,List.getElem?_cons_zero,List.getElem?_cons_succ] at r0 r1 r2 r3)
  all_goals
   go_wp2
   have hfb:=(((HM.out.rk.set 0 (.int .i64 0)).set 1 (.int .i64 (r b).2)).set 2 (.int .i64 b.id)).set 3 (.slice none 0 0)
   have g0:=hfb.cell 0
   have g1:=hfb.cell 1
   have g2:=hfb.cell 2
   have g3:=hfb.cell 3
   refine bodyPost_ret (v:=.agg #[.int .i64 0,.int .i64 (r b).2,.int .i64 b.id,.slice none 0 0]) (by simp[results,Tryz.results15,go_sem,g0,g1,g2,g3]) rfl ⟨?_,.inl ⟨b,HF.out,rfl⟩⟩
   exact sets4 HM.out.bl (by omega) _ _ _ _
end Go.Proofs.YtpcjadaeolkngaaGreatDoor
namespace Go.Proofs.YtpcjadaeolkngaaGreatDoor
open Go.RowKit Go.Deep
theorem rq_step {w wx w':World} (h:Below w.heap.size w wx) (hb:Below wx.heap.size wx w'):Below w.heap.size w w':=h.trans (hb.mono h.size)
theorem rq_dr {w wx:World} (h:Below w.heap.size w wx):Below w.heap.size w wx.drew:=below_drewN h 1
theorem rq_al {w wx:World} (h:Below w.heap.size w wx) (o:Obj):Below w.heap.size w (wx.alloc o):=h.alloc h.size o
theorem rq_set {w wx:World} {b:Nat} (h:Below w.heap.size w wx) (i:Nat) (v:Value) (hb:w.heap.size≤b):Below w.heap.size w (wx.setCell ⟨b,i,none⟩ v):=h.setCell (p:=⟨b,i,none⟩) hb v
abbrev Rs:=Nat × Int × Nat
def cellS (p:Rs):List Value:=[.int .i64 p.1,.int .i64 p.2.1,.int .i64 p.2.2]
def cellsS (l:List Rs):List Value:=l.flatMap cellS
theorem cellsS_append (a b:List Rs):cellsS (a++b)=cellsS a++cellsS b:=by simp[cellsS,List.flatMap_append]
theorem res_cells {w:World} {v:Value} {l:List Rs} (h:Reads w v l.length (cellsS l)) {i:Nat} (hi:i < l.length):∃ g o cap,v=.slice (some ⟨g,o,none⟩) l.length cap∧l.length≤cap∧g < w.heap.size∧w.cell? ⟨g,o+i * 3,none⟩=some (.int .i64 l[i].1)∧w.cell? ⟨g,o+i * 3+1,none⟩=some (.int .i64 l[i].2.1):=by
 obtain ⟨g,o,cap,hv,hcap,hg,hc⟩:=h.pos (by omega)
 have f:=fun j (hj:j < 3) u (hu:(cellS l[i])[j]?=some u)=>hc (i * 3+j) u ((flat_get cellS 3 (fun _=>rfl) l i hi j hj).trans hu)
 refine ⟨g,o,cap,hv,hcap,hg,f 0 (by omega) _ rfl, ?_⟩
 rw[Nat.add_assoc];exact f 1 (by omega) _ rfl
def inQ (q:List Plc) (b:Bn):Bool:=q.any (fun p=>p.id==b.id)
def toldC (q:List Plc) (l:List Bn):Nat:=l.countP (inQ q)
theorem cnt_split {f g:Bn→Bool}:∀ (l:List Bn),(∀ b∈l,f b=true→g b=false)→l.countP (fun b=>f b||g b)=l.countP f+l.countP g
 | [],_=>rfl
 | a :: r,h=>by
  have ih:=cnt_split r (fun b hb=>h b (List.mem_cons_of_mem _ hb))
  have ha:=h a List.mem_cons_self
  rw[List.countP_cons,List.countP_cons,List.countP_cons,ih]
  cases hf:f a <;> cases hg:g a
  ·simp
  ·simp;omega
  ·simp;omega
  ·rw[ha hf] at hg;cases hg
theorem cnt_none {f:Bn→Bool}:∀ (l:List Bn),(∀ b∈l,f b=false)→l.countP f=0
 | [],_=>rfl
 | a :: r,h=>by
  rw[List.countP_cons,cnt_none r (fun b hb=>h b (List.mem_cons_of_mem _ hb)),h a List.mem_cons_self]
  simp
theorem cnt_one (n:Int):∀ (l:List Bn),l.Pairwise (fun a b=>a.id < b.id)→(∃ b∈l,n=b.id)→l.countP (fun b=>n==b.id)=1
 | [],_,h=>by obtain ⟨b,hb,_⟩:=h;cases hb
 | a :: r,hp,h=>by
  rw[List.pairwise_cons] at hp
  rw[List.countP_cons]
  by_cases ha:n=a.id
  ·rw[cnt_none r (fun b hb=>by have:=hp.1 b hb;simp;omega)]
   simp[ha]
  ·have:∃ b∈r,n=b.id:=by
    obtain ⟨b,hb,e⟩:=h
    rcases List.mem_cons.1 hb with rfl | hb
    ·exact absurd e ha
    ·exact ⟨b,hb,e⟩
   rw[cnt_one n r hp.2 this]
   simp[ha]
theorem told_all:∀ (q:List Plc) (l:List Bn),q.Pairwise (fun a b=>a.id≠b.id)→l.Pairwise (fun a b=>a.id < b.id)→(∀ p∈q,∃ b∈l,p.id=b.id)→toldC q l=q.length
 | [],l,_,_,_=>cnt_none l (fun b _=>rfl)
 | p :: q,l,hq,hl,hm=>by
  rw[List.pairwise_cons] at hq
  have ih:=told_all q l hq.2 hl (fun x hx=>hm x (List.mem_cons_of_mem _ hx))
  have h1:=cnt_one p.id l hl (hm p List.mem_cons_self)
  have h2:=cnt_split (f:=fun b=>p.id==b.id) (g:=inQ q) l (fun b hb h=>by
   unfold inQ
   rw[List.any_eq_false]
   intro x hx
   have:=hq.1 x hx
   simp at h ⊢
   omega)
  have e:toldC (p :: q) l=l.countP (fun b=>(p.id==b.id)||inQ q b):=by
   unfold toldC inQ
   rfl
  rw[e,h2,h1,List.length_cons]
  unfold toldC at ih
  omega
structure BestQ (r:SayB) (l:List Bn) (n:Nat) (q:List Plc):Prop where
 ord:q.Pairwise Bet
 len:q.length=if n < (scoredL r l).length then n else (scoredL r l).length
 mem:∀ p∈q,∀ b∈l,p.id=b.id→(r b).1=1∧p.score=(r b).2
 out:∀ b∈l,(r b).1=1→(∀ p∈q,p.id≠b.id)→∀ p,q.getLast?=some p→¬ Bet ⟨b.id,(r b).2⟩ p
 all:toldC q l=q.length
theorem scored_mem {r:SayB} {l:List Bn} {p:Plc}:p∈scoredL r l ↔ ∃ b∈l,(r b).1=1∧p=⟨b.id,(r b).2⟩:=by
 unfold scoredL
 rw[List.mem_flatMap]
 constructor
 ·rintro ⟨b,hb,h⟩
  unfold plcO at h
  split at h
  ·rename_i h1
   simp at h
   exact ⟨b,hb,h1,h⟩
  ·cases h
 ·rintro ⟨b,hb,h1,rfl⟩
  refine ⟨b,hb, ?_⟩
  unfold plcO
  rw[if_pos h1]
  simp
theorem id_uniq:∀ {l:List Bn},l.Pairwise (fun a b=>a.id < b.id)→∀ a∈l,∀ b∈l,a.id=b.id→a=b
 | [],_,a,ha,_,_,_=>by cases ha
 | x :: r,h,a,ha,b,hb,e=>by
  rw[List.pairwise_cons] at h
  rcases List.mem_cons.1 ha with e1 | ha2 <;> rcases List.mem_cons.1 hb with e2 | hb2
  ·rw[e1,e2]
  ·have:=h.1 b hb2;rw[← e1] at this;omega
  ·have:=h.1 a ha2;rw[← e2] at this;omega
  ·exact id_uniq h.2 a ha2 b hb2 e
theorem best_of (r:SayB) {l:List Bn} (hl:l.Pairwise (fun a b=>a.id < b.id)) (n:Nat):BestQ r l n ((sortQ (scoredL r l)).take n):=by
 have hu:=scored_up r hl
 obtain ⟨s1,s2⟩:=sortQ_sorted hu
 have hm:∀ p∈(sortQ (scoredL r l)).take n,∃ b∈l,(r b).1=1∧p=⟨b.id,(r b).2⟩:=fun p hp=>scored_mem.1 (s2.mem_iff.1 (List.mem_of_mem_take hp))
 have hne:(sortQ (scoredL r l)).Pairwise (fun a b=>a.id≠b.id):=(s2.pairwise_iff (fun h=>Ne.symm h)).2 (hu.imp (fun h=>by omega))
 refine ⟨s1.sublist (List.take_sublist _ _), ?_,fun p hp b hb e=>?_,fun b hb h1 hno p hp=>?_, ?_⟩
 ·rw[List.length_take,s2.length_eq]
  split <;> omega
 ·obtain ⟨c,hc,h1,rfl⟩:=hm p hp
  obtain rfl:=id_uniq hl c hc b hb e
  exact ⟨h1,rfl⟩
 ·intro hb2
  have hin:(⟨b.id,(r b).2⟩:Plc)∈sortQ (scoredL r l):=s2.mem_iff.2 (scored_mem.2 ⟨b,hb,h1,rfl⟩)
  have hsp:=List.take_append_drop n (sortQ (scoredL r l))
  rw[← hsp] at hin s1
  rw[List.pairwise_append] at s1
  rcases List.mem_append.1 hin with h | h
  ·exact hno _ h rfl
  ·exact bet_asym (s1.2.2 p (List.mem_of_getLast? hp) _ h) hb2
 ·exact told_all _ l (hne.sublist (List.take_sublist _ _)) hl (fun p hp=>by obtain ⟨b,hb,_,rfl⟩:=hm p hp;exact ⟨b,hb,rfl⟩)
theorem told_snoc (q:List Plc) (l:List Bn) {i:Nat} (hi:i < l.length):toldC q (l.take (i+1))=toldC q (l.take i)+(if inQ q l[i] then 1 else 0):=by
 unfold toldC
 rw[List.take_succ_eq_append_getElem hi,List.countP_append]
 simp[List.countP_cons]
theorem told_le (q:List Plc) (l:List Bn):toldC q l≤l.length:=List.countP_le_length
theorem scored_snoc (r:SayB) (l:List Bn) {i:Nat} (hi:i < l.length):(scoredL r (l.take (i+1))).length=(scoredL r (l.take i)).length+(if (r l[i]).1=1 then 1 else 0):=by
 rw[List.take_succ_eq_append_getElem hi,scoredL_snoc,List.length_append]
 unfold plcO
 split <;> rfl
theorem inQ_yes {q:List Plc} {b:Bn} {j:Nat} (hj:j < q.length) (h:q[j].id=b.id):inQ q b=true:=by
 unfold inQ
 rw[List.any_eq_true]
 exact ⟨q[j],List.getElem_mem hj,by simpa using h⟩
theorem inQ_no {q:List Plc} {b:Bn} (h:∀ p∈q,p.id≠b.id):inQ q b=false:=by
 unfold inQ
 rw[List.any_eq_false]
 intro p hp
 simpa using h p hp
end Go.Proofs.YtpcjadaeolkngaaGreatDoor
namespace Go.Proofs.YtpcjadaeolkngaaGreatDoor
open Go.RowKit Go.Deep
set_option maxHeartbeats 4000000 in
set_option maxRecDepth 100000 in
theorem order_any (q:List Plc) (hq:q.Pairwise Bet) (hl:q.length≤1000) (v:Value) (w:World) (h:Reads w v q.length (cellsQ q)) :
  Calls Tryz.prog 34 #[v] w fun e w'=>e=.returned (.bool true)∧Below w.heap.size w w':=by
 obtain ⟨a,c,rfl⟩:=h.shape
 have HA:=Hid.mk2 h
 have HQ:=Hid.mk2 hq
 clear h hq
 go_enter Tryz.func34,Tryz.ntmps34
 go_wp2
 go_loopw [3] (fun vi wr=>∃ j:Nat,j≤q.length∧vi=.int .i64 ((j+1:Nat):Int)∧Below w.heap.size w wr) (fun i _=>q.length+1 - (intOf i).toNat)
 case atStart=>exact ⟨0,Nat.zero_le _,rfl,Below.refl _ _⟩
 case round =>
  obtain ⟨j,hj,rfl,hbel⟩:=hrel
  by_cases hlt:j+1 < q.length
  ·obtain ⟨g,o,cap,hcut,hcap,hg,d0,d1⟩:=plc_cells HA.out (i:=j) (by omega)
   cases hcut
   obtain ⟨g2,o2,cap2,hcut2,hcap2,hg2,d2,d3⟩:=plc_cells HA.out hlt
   cases hcut2
   have hb2:Bet q[j] q[j+1]:=List.pairwise_iff_getElem.1 HQ.out j (j+1) (by omega) hlt (by omega)
   rw[bet_iff] at hb2
   have e0:=(hbel.cell (p:=⟨g,o+j * 2,none⟩) hg).trans d0
   have e1:=(hbel.cell (p:=⟨g,o+j * 2+1,none⟩) hg).trans d1
   have e2:=(hbel.cell (p:=⟨g,o+(j+1) * 2,none⟩) hg).trans d2
   have e3:=(hbel.cell (p:=⟨g,o+(j+1) * 2+1,none⟩) hg).trans d3
   generalize hx:q[j]=x at *
   generalize hy:q[j+1]=y at *
   have hgw:g < wr.heap.size:=Nat.lt_of_lt_of_le hg hbel.size
   have hnw:g≠wr.heap.size:=by omega
   have hnw2:g≠wr.heap.size+1:=by omega
   have HBL:=Hid.mk2 hbel
   have hsub:((j+1:Nat):Int) - 1=(j:Int):=by simp
   have hs1:decide (x.score < y.score)=false:=by simp;omega
   have hj1:decide (((j+1:Nat):Int) < (q.length:Int))=true:=by simp;omega
   clear d0 d1 d2 d3 hx hy hbel
   rcases hb2 with hb2 | ⟨hb2,hb3⟩
   ·have hs2:(x.score==y.score)=false:=by simp;omega
    clear hb2
    go_wp2
    go_roundw
    case rel=>exact ⟨j+1,by omega,by go_num,rq_al (rq_al HBL.out _) _⟩
    case measure=>simp[intOf];omega
   ·have hs2:(x.score==y.score)=true:=by simp;omega
    have hs3:decide (y.id≤x.id)=false:=by simp;omega
    clear hb2 hb3
    go_wp2
    go_roundw
    case rel=>exact ⟨j+1,by omega,by go_num,rq_al (rq_al HBL.out _) _⟩
    case measure=>simp[intOf];omega
  ·have hj1:decide (((j+1:Nat):Int) < (q.length:Int))=false:=by simp;omega
   go_wp2
   go_ret
   exact ⟨rfl,hbel⟩
def placeI (q:List Plc) (n:Int):Int:=match q.findIdx? (fun p=>p.id==n) with
 | some j=>(j:Int)
 | none=>-1
theorem placeI_at {q:List Plc} {n:Int} {i:Nat} (hi:i < q.length) (h1:q[i].id=n) (h2:∀ p∈q.take i,p.id≠n):placeI q n=i:=by
 have:q.findIdx? (fun p=>p.id==n)=some i:=by
  rw[List.findIdx?_eq_some_iff_getElem]
  refine ⟨hi,by simpa using h1,fun j hj=>?_⟩
  have:=h2 (q[j]'(by omega)) (by rw[List.mem_take_iff_getElem];exact ⟨j,by omega,rfl⟩)
  simpa using this
 unfold placeI
 rw[this]
theorem placeI_no {q:List Plc} {n:Int} (h:∀ p∈q,p.id≠n):placeI q n=-1:=by
 have:q.findIdx? (fun p=>p.id==n)=none:=by
  rw[List.findIdx?_eq_none_iff]
  intro p hp
  simpa using h p hp
 unfold placeI
 rw[this]
theorem placeI_or (q:List Plc) (n:Int):(∃ (j:Nat) (hj:j < q.length),q[j].id=n∧placeI q n=j)∨((∀ p∈q,p.id≠n)∧placeI q n=-1):=by
 cases h:q.findIdx? (fun p=>p.id==n) with
 | none =>
  right
  rw[List.findIdx?_eq_none_iff] at h
  have h':∀ p∈q,p.id≠n:=fun p hp=>by simpa using h p hp
  exact ⟨h',placeI_no h'⟩
 | some j =>
  left
  have h0:=h
  rw[List.findIdx?_eq_some_iff_getElem] at h
  obtain ⟨hj,h1,_⟩:=h
  refine ⟨j,hj,by simpa using h1, ?_⟩
  unfold placeI
  rw[h0]
set_option maxHeartbeats 4000000 in
set_option maxRecDepth 100000 in
theorem place_any (q:List Plc) (hl:q.length≤1000) (n:Int) (v:Value) (w:World) (h:Reads w v q.length (cellsQ q)) :
  Calls Tryz.prog 35 #[v,.int .i64 n] w fun e w'=>e=.returned (.int .i64 (placeI q n))∧w'=w:=by
 obtain ⟨a,c,rfl⟩:=h.shape
 have HA:=Hid.mk2 h
 clear h
 go_enter Tryz.func35,Tryz.ntmps35
 go_wp2
 go_loopw [5] (fun vi wr=>∃ i:Nat,i≤q.length∧vi=.int .i64 i∧wr=w∧∀ p∈q.take i,p.id≠n) (fun i _=>q.length - (intOf i).toNat)
 case atStart=>exact ⟨0,Nat.zero_le _,rfl,rfl,fun p hp=>by simp at hp⟩
 case round =>
  obtain ⟨i,hi,rfl,rfl,hno⟩:=hrel
  have HNO:=Hid.mk2 hno
  clear hno
  by_cases hlt:i < q.length
  ·obtain ⟨g,o,cap,hcut,hcap,hg,d0,d1⟩:=plc_cells HA.out hlt
   cases hcut
   have HTK:Hid (q.take (i+1)=q.take i++[q[i]]):=List.take_succ_eq_append_getElem hlt
   clear d1
   by_cases hx:q[i].id=n
   ·have hx1:(q[i].id==n)=true:=by simpa using hx
    have HX:=Hid.mk2 hx
    clear hx
    go_wp2
    go_ret
    exact ⟨by rw[placeI_at hlt HX.out HNO.out];rfl,rfl⟩
   ·have hx1:(q[i].id==n)=false:=by simpa using hx
    have HX:=Hid.mk2 hx
    clear hx
    go_wp2
    go_roundw
    case rel =>
     refine ⟨i+1,by omega,by go_num,trivial,fun p hp=>?_⟩
     rw[HTK.out,List.mem_append] at hp
     rcases hp with hp | hp
     ·exact HNO.out p hp
     ·rw[List.mem_singleton] at hp
      subst hp
      exact HX.out
    case measure=>simp[intOf];omega
  ·have hi1:decide ((i:Int) < (q.length:Int))=false:=by simp;omega
   go_wp2
   go_ret
   exact ⟨by rw[placeI_no (fun p hp=>HNO.out p (by rw[List.take_of_length_le (by omega)];exact hp))];rfl,rfl⟩
end Go.Proofs.YtpcjadaeolkngaaGreatDoor
