/-
  Ranked, for all arguments.
-/
import Derived.Test.YtpcjadaeolkngaaGreatDoorK41
import Derived.Test.YtpcjadaeolkngaaGreatDoorK51
import Derived.Test.YtpcjadaeolkngaaGreatDoorK26
import Derived.Test.YtpcjadaeolkngaaGreatDoorRows
import Derived.ProofKit
import Derived.LaidMore
import Derived.OpenShut
import Derived.Stop.Joined
set_option linter.unusedVariables false
set_option linter.unusedSimpArgs false
namespace Go.Proofs.YtpcjadaeolkngaaGreatDoor
open Go.RowKit Go.Deep
theorem Tryz.infoRes:(Tryz.prog.info? 29).map (fun i=>(i.zero,i.size,i.bytes))=some (some (.agg #[.int .i64 0,.int .i64 0,.int .i64 0]),3,24):=by kernel_rfl
theorem one_res (a b c:Int):∀ u∈[Value.int .i64 a,.int .i64 b,.int .i64 c],u.oneCell'=true:=by
 intro u hu
 simp at hu
 rcases hu with rfl | rfl | rfl <;> rfl
theorem cell_three_at (w:World) (x y z:Value) (e:TypeId) (b:Nat) (hb:b=w.heap.size):∀ j v,[x,y,z][j]?=some v→(w.alloc (.cells #[x,y,z] e)).cell? ((⟨b,0,none⟩:Addr).add j)=some v:=by
 subst hb
 intro j v hj
 have:=(Blk.new w #[x,y,z] e).cell j
 rw[show (⟨w.heap.size,0,none⟩:Addr).add j=⟨w.heap.size,j,none⟩ by unfold Addr.add;split <;> simp_all,this]
 simpa using hj
structure RqM (wS wr:World) (sv:Value) (ss:List Rs):Prop where
 own:wr.ownsRow wS.heap.size 29 3 sv ss.length (cellsS ss)
 bl:Below wS.heap.size wS wr
theorem RqM.below {wS wr w':World} {sv:Value} {ss:List Rs} (h:RqM wS wr sv ss) (hb:Below wr.heap.size wr w'):RqM wS w' sv ss:=⟨own_below h.own hb,rq_step h.bl hb⟩
theorem RqM.snoc {wS wr w2:World} {sv v':Value} {ss:List Rs} {o:Obj} {K V S:Int} {p:Rs} (h:RqM wS wr sv ss) (hp:cellS p=[.int .i64 K,.int .i64 V,.int .i64 S])
  (hown2:w2.ownsRow wS.heap.size 29 3 v' (ss.length+1) (cellsS ss++[.int .i64 K,.int .i64 V,.int .i64 S])) (hg:(wr.alloc o).grownBy w2 sv.ownBlock):RqM wS w2 v' (ss++[p]):=by
 have hb:Below wS.heap.size wr w2:=((Below.refl wS.heap.size wr).alloc h.bl.size o).grown hg (by have:=h.bl.size;simp;omega) (fun k hk=>(h.own.lt k hk).1)
 refine ⟨?_,h.bl.trans hb⟩
 have e:cellsS (ss++[p])=cellsS ss++[.int .i64 K,.int .i64 V,.int .i64 S]:=by rw[cellsS_append,← hp];simp[cellsS]
 rw[e]
 simpa using hown2
theorem blk_grown {w w':World} {b:Nat} {cs:Array Value} {t:TypeId} {row:Option Nat} (h:Blk w b cs t) (hg:w.grownBy w' row) (hne:some b≠row):Blk w' b cs t:=by unfold Blk;rw[hg.block b h.lt hne];exact h
structure RqN (w wx:World) (xb:Nat) (x:Itm) (lv sv:Value) (l:List Bn) (ss:List Rs):Prop where
 it:Blk wx xb #[.int .i64 x.size,.int .i64 x.speed,.int .i64 x.need] 23
 lv:Reads wx lv l.length (cellsB l)
 sv:Reads wx sv ss.length (cellsS ss)
 bl:Below w.heap.size w wx
theorem RqN.below {w wx w':World} {xb:Nat} {x:Itm} {lv sv:Value} {l:List Bn} {ss:List Rs} (h:RqN w wx xb x lv sv l ss) (hb:Below wx.heap.size wx w'):RqN w w' xb x lv sv l ss:=⟨h.it.below hb h.it.lt,h.lv.below hb,h.sv.below hb,rq_step h.bl hb⟩
theorem RqN.al {w wx:World} {xb:Nat} {x:Itm} {lv sv:Value} {l:List Bn} {ss:List Rs} (h:RqN w wx xb x lv sv l ss) (o:Obj):RqN w (wx.alloc o) xb x lv sv l ss:=h.below (box3 wx o)
theorem RqN.set {w wx:World} {xb:Nat} {x:Itm} {lv sv:Value} {l:List Bn} {ss:List Rs} (h:RqN w wx xb x lv sv l ss) {b:Nat} (hx:xb≠b) (hl:lv.ownBlock≠some b) (hs:sv.ownBlock≠some b) (hw:w.heap.size≤b) (i:Nat) (v:Value):RqN w (wx.setCell ⟨b,i,none⟩ v) xb x lv sv l ss:=⟨h.it.other _ _ (by simp only;omega),h.lv.set hl,h.sv.set hs,rq_set h.bl i v hw⟩
theorem RankV.set {f:Bn→Rs} {l:List Bn} {n:Nat} {w:World} {a0 a1 a2 a3:Value} {b:Nat} (h:RankV f l n w a0 a1 a2 a3) (hne:a3.ownBlock≠some b) (i:Nat) (v:Value):RankV f l n (w.setCell ⟨b,i,none⟩ v) a0 a1 a2 a3:=by
 rcases h with h | ⟨h1,h2,h3,h4,q,h5,h6,h7⟩
 ·exact .inl h
 ·exact .inr ⟨h1,h2,h3,h4,q,h5,h6,h7.set hne⟩
theorem load_store {I:ByteArray} (hI:IsImg I) (sb:Nat) (l:List Bn) (im:ByteArray) (w:World) (hg:GlobP w) (h:StoreAt w sb l im) :
  Calls Tryz.prog 17 #[.pointer (some ⟨sb,0,none⟩),.string I] w fun e w'=>e=.returned (.int .i64 0)∧StoreAt w' sb l I∧But sb w w':=by
 obtain ⟨a,c,h1,h2⟩:=h.ok
 refine (LoadImage_any I sb _ im w hg h1).mono ?_
 rintro e w' (⟨_,he,hb,hbut⟩ | ⟨hno,_⟩)
 ·exact ⟨he,⟨a,c,hb,own_but h2 hbut (fun k hk=>by have:=(h2.lt k hk).1;omega)⟩,hbut⟩
 ·exact absurd hI hno
theorem says_all (T:ByteArray) (x:Itm):∃ f:Bn→Rs,∀ (y:Bn) (say:Rs) (L R:List RSt),FineP T.toList x y say L R→f y=say∧f=fun y=>saysP x y L R:=by
 by_cases h:∃ L R,PolicyOf T.toList L R
 ·obtain ⟨L,R,hp⟩:=h
  refine ⟨fun y=>saysP x y L R,fun y say L' R' hf=>?_⟩
  obtain ⟨rfl,rfl⟩:=hp.uniq hf.pol
  exact ⟨hf.says,rfl⟩
 ·exact ⟨fun _=>(0,0,0),fun y say L R hf=>absurd ⟨L,R,hf.pol⟩ h⟩
set_option maxHeartbeats 16000000 in
set_option maxRecDepth 100000 in
theorem Ranked_any (s t:ByteArray) (hs:s.size≤maxLen) (ht:t.size≤maxLen) (a b c k:Int) (ha:In64 a) (hb:In64 b) (hc:In64 c) (hk:In64 k) (w:World) (hg:GlobP w) (hgt:GlobT w) :
  Calls Tryz.prog 4 #[.string s,.string t,.int .i64 a,.int .i64 b,.int .i64 c,.int .i64 k] w fun e w'=>Below w.heap.size w w'∧e=.returned (.bool true):=by
 have HA:=Hid.mk2 ha
 have HB:=Hid.mk2 hb
 have HC:=Hid.mk2 hc
 have HK:=Hid.mk2 hk
 have HS:=Hid.mk2 hs
 have HTT:=Hid.mk2 ht
 have HG:=Hid.mk2 hg
 have HGT:=Hid.mk2 hgt
 clear ha hb hc hk hs ht hg hgt
 obtain ⟨i0,hi0,hz0,hz1,hz2⟩:=info_parts Tryz.infoRes
 go_enter Tryz.func4,Tryz.ntmps4
 go_upto_region 4 with (first
  | (go_at_call 11;refine (shelf_any t HTT.out _).mono ?_;rintro e w1 ⟨hb1,l,al,cl,hsh,hl1,hl12,rfl,hown⟩;have HSH:=Hid.mk2 hsh;have HLV:=Hid.mk2 (reads_of_own hown);have HBL:=Hid.mk2 hb1;clear hb1 hsh hown)
  | (go_at_call 12;refine (item_any a b c HA.out HB.out HC.out _).mono ?_;rintro e w2 ⟨⟨x,hx,rfl⟩,hb2⟩;unfold itmA;have HX:=Hid.mk2 hx;replace HLV:=Hid.mk2 ((HLV.out.below hb2).alloc (.cells #[.int .i64 x.size,.int .i64 x.speed,.int .i64 x.need] 23));replace HBL:=Hid.mk2 (rq_al (rq_step HBL.out hb2) (.cells #[.int .i64 x.size,.int .i64 x.speed,.int .i64 x.need] 23));have HI:=Hid.mk2 (Blk.new w2 #[.int .i64 x.size,.int .i64 x.speed,.int .i64 x.need] 23);clear hx hb2)
  | (go_at_call 13;refine (pick_any k 14 HK.out (by omega) _).mono ?_;rintro e _ ⟨⟨n,hn0,hn1,rfl⟩,rfl⟩))
 obtain ⟨m,rfl⟩:∃ m:Nat,n=m:=⟨n.toNat,by omega⟩
 have hm:m≤1000:=by omega
 obtain ⟨f,hf⟩:=says_all (polT s) x
 have HF:=Hid.mk2 hf
 clear hf
 have hxlt:=HI.out.lt
 generalize w2.heap.size=xb at HI hxlt ⊢
 generalize w2.alloc (.cells #[.int .i64 x.size,.int .i64 x.speed,.int .i64 x.need] 23)=wS at HI HLV HBL hxlt ⊢
 go_wp2
 go_loopw [16,17,18] (fun v16 v17 vi wr=>∃ i:Nat,i≤l.length∧vi=.int .i64 i∧RqM wS wr v16 ((l.take i).map f)∧∃ tt:ByteArray,v17=.string tt∧(i=0∨(tt=polT s∧(∃ y say L R,FineP (polT s).toList x y say L R)∧(polT s).size≤390))) (fun _ _ i _=>1000 - (intOf i).toNat)
 case atStart=>exact ⟨0,Nat.zero_le _,rfl,⟨World.ownsRow_nil _ _ _ _,Below.refl _ _⟩,_,rfl,.inl rfl⟩
 case round =>
  obtain ⟨i,hi,rfl,hq,tt,rfl,htt⟩:=hrel
  have HM:=Hid.mk2 hq
  have HTX:=Hid.mk2 htt
  clear hq htt
  have hsz:=HM.out.bl.size
  by_cases hlt:i < l.length
  ·have hi1:decide ((i:Int) < (l.length:Int))=true:=by simp;omega
   obtain ⟨g,o,cap,hcut,hcap,hgl,hc⟩:=HLV.out.pos (by omega)
   cases hcut
   obtain ⟨d0,d1,d2,d3,d4⟩:=bin_cells hc i hlt
   have HY:=Hid.mk2 (HSH.out.ok _ (List.getElem_mem hlt))
   have HTK:Hid ((l.take (i+1)).map f=(l.take i).map f++[f l[i]]):=by rw[Hid,List.take_succ_eq_append_getElem hlt,List.map_append];rfl
   obtain ⟨y,hy⟩:∃ y,l[i]=y:=⟨_,rfl⟩
   rw[hy] at d0 d1 d2 d3 d4 HY HTK
   have HCELL:Hid (∀ wx,Below wr.heap.size wr wx→wx.cell? ⟨xb,0,none⟩=some (.int .i64 x.size)∧wx.cell? ⟨xb,1,none⟩=some (.int .i64 x.speed)∧wx.cell? ⟨xb,2,none⟩=some (.int .i64 x.need)∧wx.cell? ⟨g,o+i * 5,none⟩=some (.int .i64 y.id)∧wx.cell? ⟨g,o+i * 5+1,none⟩=some (.int .i64 y.zone)∧wx.cell? ⟨g,o+i * 5+2,none⟩=some (.int .i64 y.cap)∧wx.cell? ⟨g,o+i * 5+3,none⟩=some (.int .i64 y.used)∧wx.cell? ⟨g,o+i * 5+4,none⟩=some (.int .i64 y.has)):=fun wx h0=>by
    have h:=rq_step HM.out.bl h0
    exact ⟨(h.cell (p:=⟨xb,0,none⟩) hxlt).trans (HI.out.cell 0),(h.cell (p:=⟨xb,1,none⟩) hxlt).trans (HI.out.cell 1),(h.cell (p:=⟨xb,2,none⟩) hxlt).trans (HI.out.cell 2),(h.cell (p:=⟨g,o+i * 5,none⟩) hgl).trans d0,(h.cell (p:=⟨g,o+i * 5+1,none⟩) hgl).trans d1,(h.cell (p:=⟨g,o+i * 5+2,none⟩) hgl).trans d2,(h.cell (p:=⟨g,o+i * 5+3,none⟩) hgl).trans d3,(h.cell (p:=⟨g,o+i * 5+4,none⟩) hgl).trans d4⟩
   have HPO:Hid (∀ wx,Calls Tryz.prog 6 #[.string s,.agg #[.int .i64 x.size,.int .i64 x.speed,.int .i64 x.need],.agg #[.int .i64 y.id,.int .i64 y.zone,.int .i64 y.cap,.int .i64 y.used,.int .i64 y.has]] wx fun e w'=>(∃ (T:ByteArray) (K:Nat) (V:Int) (S:Nat),(((∃ L R,FineP T.toList x y (K,V,S) L R)∧T.size≤390)∧polT s=T)∧e=.returned (.agg (mg T K V S)))∧Below wx.heap.size wx w'):=Hid.mk2 (fun wx=>policyG_any s x y HX.out HY.out HS.out wx)
   clear hy d0 d1 d2 d3 d4 hc
   have HQ:=Hid.mk2 (Below.refl wr.heap.size wr)
   have hgw:g < wr.heap.size:=by omega
   have hxw:xb < wr.heap.size:=by omega
   go_upto_region 9 with fail
   go_cut [19] from 37 to 56 (fun s19 wx=>∃ (zb:Nat) (K:Nat) (V:Int) (S:Nat),s19=.pointer (some ⟨zb,0,none⟩)∧wr.heap.size≤zb∧Blk wx zb (mg (polT s) K V S) 31∧Below wr.heap.size wr wx∧((∃ L R,FineP (polT s).toList x y (K,V,S) L R)∧(polT s).size≤390))
   case first =>
    obtain ⟨c0,c1,c2,b0,b1,b2,b3,b4⟩:=HCELL.out _ HQ.out
    obtain ⟨yc0,yc1,yc2,yb0,yb1,yb2,yb3,yb4⟩:=HCELL.out _ (rq_al HQ.out (.cells (mg ⟨#[]⟩ 0 0 0) 31))
    go_region_held3 (fun w'=>w'.cell? ⟨xb,0,none⟩=some (.int .i64 x.size)∧w'.cell? ⟨xb,1,none⟩=some (.int .i64 x.speed)∧w'.cell? ⟨xb,2,none⟩=some (.int .i64 x.need)∧w'.cell? ⟨g,o+i * 5,none⟩=some (.int .i64 y.id)∧w'.cell? ⟨g,o+i * 5+1,none⟩=some (.int .i64 y.zone)∧w'.cell? ⟨g,o+i * 5+2,none⟩=some (.int .i64 y.cap)∧w'.cell? ⟨g,o+i * 5+3,none⟩=some (.int .i64 y.used)∧w'.cell? ⟨g,o+i * 5+4,none⟩=some (.int .i64 y.has)) (first | with_reducible exact HCELL.out _ HQ.out | with_reducible exact HCELL.out _ (rq_dr HQ.out) | with_reducible exact HCELL.out _ (rq_al HQ.out _) | with_reducible exact HCELL.out _ (rq_dr (rq_al HQ.out _)) | with_reducible exact HCELL.out _ (rq_set (rq_set (rq_set (rq_set HQ.out 0 _ (by omega)) 1 _ (by omega)) 2 _ (by omega)) 3 _ (by omega))) (first | (go_at_call 6;refine (HPO.out _).mono ?_;rintro e w2 ⟨⟨T',K,V,S,⟨⟨hfi,hz⟩,hT⟩,rfl⟩,hb2⟩;obtain rfl:=hT;have HFI:=Hid.mk2 hfi;have HZ:=Hid.mk2 hz;(first | replace HQ:=Hid.mk2 (show Below wr.heap.size wr w2 by with_reducible exact rq_step (rq_dr HQ.out) hb2) | (have hZ:=(Blk.new wr (mg ⟨#[]⟩ 0 0 0) 31).drew.below hb2 (by simp);replace HQ:=Hid.mk2 (show Below wr.heap.size wr w2 by with_reducible exact rq_step (rq_dr (rq_al HQ.out (.cells (mg ⟨#[]⟩ 0 0 0) 31))) hb2)) | replace HQ:=Hid.mk2 (show Below wr.heap.size wr w2 by with_reducible exact rq_step HQ.out hb2) | (have hZ:=(Blk.new wr (mg ⟨#[]⟩ 0 0 0) 31).below hb2 (by simp);replace HQ:=Hid.mk2 (show Below wr.heap.size wr w2 by with_reducible exact rq_step (rq_al HQ.out (.cells (mg ⟨#[]⟩ 0 0 0) 31)) hb2)));clear hb2 hfi hz;have hl2:=HQ.out.size;try (have q0:=hZ.cell 0;have q1:=hZ.cell 1;have q2:=hZ.cell 2;have q3:=hZ.cell 3;have p0:=hZ.free 0;have p1:=hZ.free 1;have p2:=hZ.free 2;have p3:=hZ.free 3)))
    all_goals
     go_wp2_with fail
     go_meet
     case rel=>first | exact ⟨_,K,V,S,rfl,hl2,Blk.new w2 _ _,rq_al HQ.out _,HFI.out,HZ.out⟩ | exact ⟨_,K,V,S,rfl,Nat.le_refl _,(((hZ.set 0 _).set 1 _).set 2 _).set 3 _,(rq_set (rq_set (rq_set (rq_set HQ.out 0 _ (by omega)) 1 _ (by omega)) 2 _ (by omega)) 3 _ (by omega)),HFI.out,HZ.out⟩
   case rest =>
    obtain ⟨zb,K,V,S,rfl,hzb,hZ,hb2,hfi,hz⟩:=hcut
    clear HQ HPO HCELL
    have HFY:Hid (f y=(K,V,S)):=by
     obtain ⟨L,R,h⟩:=hfi
     exact (HF.out y _ L R h).1
    have HFI:Hid (∃ y say L R,FineP (polT s).toList x y say L R):=by
     obtain ⟨L,R,h⟩:=hfi
     exact ⟨_,_,L,R,h⟩
    have HM2:=Hid.mk2 (HM.out.below hb2)
    have HZZ:=Hid.mk2 hz
    have HZB:=Hid.mk2 hZ
    have hZl:zb < wc.heap.size:=hZ.lt
    have hown0:=Hid.mk2 HM.out.own.lt
    have hll:((l.take i).map f).length≤1000:=by simp;omega
    clear hb2 hz hfi hZ
    have mc:=HZB.out.cell
    go_wp2_with (at_builtin;refine wpList_append_own _ rfl (.tmp 50) (.tmp 53) 45 rfl wS.heap.size 29 i0 (.agg #[.int .i64 0,.int .i64 0,.int .i64 0]) 3 24 Tryz.underlying45 hi0 hz0 hz1 hz2 rfl (by decide) _ _ _ rfl (HM2.out.own.alloc _) ⟨wc.heap.size,0,none⟩ 1 1 [.int .i64 K,.int .i64 V,.int .i64 S] rfl rfl (cell_three_at _ _ _ _ _ _ rfl) (one_res _ _ _) (by unfold maxLen;omega) (by omega) (by simp;omega) ?_;intro v' w4 hown2 hgrow2 _;have HM3:=Hid.mk2 (HM2.out.snoc (p:=(K,V,S)) rfl hown2 hgrow2);have HZ4:=Hid.mk2 (blk_grown (HZB.out.alloc _) hgrow2 (fun h=>by have:=(hown0.out zb h.symm).2;omega));clear hown2 hgrow2 mc;have mc:=HZ4.out.cell)
    go_roundw
    case rel=>exact ⟨i+1,by omega,by go_num,by rw[HTK.out,HFY.out];exact HM3.out,polT s,rfl,.inr ⟨rfl,HFI.out,HZZ.out⟩⟩
    case measure=>simp[intOf];omega
  ·have hil:i=l.length:=by omega
   subst hil
   rcases HTX.out with h0 | ⟨htt,hfi,hz390⟩
   ·omega
   subst htt
   obtain ⟨y0,say0,L,R,hfp⟩:=hfi
   obtain ⟨I,hI⟩:=goodT_of HX.out hfp
   rw[← (HF.out y0 say0 L R hfp).2] at hI
   obtain ⟨N,ls,rs,hkn,hIe⟩:=hI.known
   obtain ⟨I0,hI0⟩:=rej_good HX.out
   obtain ⟨N0,ls0,rs0,hkn0,hIe0⟩:=hI0.known
   have HGD:=Hid.mk2 hI
   have HGJ:=Hid.mk2 hI0
   have HKN:=Hid.mk2 hkn
   have HKN0:=Hid.mk2 hkn0
   have HIE:=Hid.mk2 hIe
   have HIE0:=Hid.mk2 hIe0
   have HZ390:Hid ((polT s).size≤maxLen):=Nat.le_trans hz390 (by decide)
   have hsv:=reads_of_own HM.out.own
   rw[List.take_length] at hsv
   have HN:=Hid.mk2 (RqN.mk (HI.out.below HM.out.bl HI.out.lt) (HLV.out.below HM.out.bl) hsv (rq_step HBL.out HM.out.bl))
   have HLB:=Hid.mk2 (reads_own HN.out.lv)
   have HSB:=Hid.mk2 (reads_own HN.out.sv)
   have hxw:xb < wr.heap.size:=by omega
   have hi1:decide ((l.length:Int) < (l.length:Int))=false:=by simp
   have hwr:=HN.out.bl.size
   clear hsv hfp hI hI0 hkn hkn0 hIe hIe0 hz390 HM HI HLV HBL HTX
   have GT:Hid (∀ wx,Below w.heap.size w wx→GlobT wx):=fun wx h=>HGT.out.below h
   have GP:Hid (∀ wx,Below w.heap.size w wx→GlobP wx):=fun wx h=>HG.out.below h
   have t1:Hid True:=trivial
   have t2:Hid True:=trivial
   have t3:Hid True:=trivial
   have ic:=HN.out.it.cell
   generalize polT s=T at *
   go_upto_region 20 with (first
    | (go_at_call 14;refine (filled_text T HZ390.out HKN.out l _ _ (GT.out _ HN.out.bl) ⟨(GP.out _ HN.out.bl).bytes,(GP.out _ HN.out.bl).size.1⟩ HSH.out hl12 HN.out.lv).mono ?_;rintro e w5 ⟨rfl,hst,hb5⟩;rw[← HIE.out] at hst;have HST:=Hid.mk2 hst;have hg5:=hb5.size;replace HN:=Hid.mk2 (HN.out.below hb5);clear hst hb5 ic;have ic:=HN.out.it.cell)
    | (go_at_call 15;refine (rank_text HX.out HGD.out _ l HSH.out hl12 m hm _ HST.out (GP.out _ HN.out.bl).y).mono ?_;rintro e w6 ⟨hb6,e0,e1,e2,qa,qn,qc,rfl,hrv,_⟩;have hg6:=hb6.size;replace HN:=Hid.mk2 ((HN.out.below hb6).al (.cells #[.int .i64 e0,.int .i64 e1,.int .i64 e2,.slice qa qn qc] 51));have HRV:=Hid.mk2 (hrv.below (box3 w6 (.cells #[.int .i64 e0,.int .i64 e1,.int .i64 e2,.slice qa qn qc] 51)));have HR1:=Hid.mk2 (Blk.new w6 #[.int .i64 e0,.int .i64 e1,.int .i64 e2,.slice qa qn qc] 51);clear hb6 hrv ic HST;have ic:=HN.out.it.cell;have rc:=HR1.out.cell)
    | (go_at_call 16;refine (ranks_any hl12 hm _ _ _ HRV.out HN.out.lv HN.out.sv).mono ?_;rintro e w7 ⟨rfl,hb7⟩;have hg7:=hb7.size;replace HN:=Hid.mk2 (HN.out.below hb7);replace HR1:=Hid.mk2 (HR1.out.below hb7 HR1.out.lt);clear hb7 ic rc HRV;have ic:=HN.out.it.cell;have rc:=HR1.out.cell)
    | (go_at_call 9;refine (Compile_known T HZ390.out HKN.out _ (GT.out _ HN.out.bl) ⟨(GP.out _ HN.out.bl).bytes,(GP.out _ HN.out.bl).size.1⟩).mono ?_;rintro e w8 ⟨rfl,hb8⟩;rw[← HIE.out];have hg8:=hb8.size;replace HN:=Hid.mk2 (HN.out.below hb8);replace HR1:=Hid.mk2 (HR1.out.below hb8 HR1.out.lt);clear hb8 ic rc;have ic:=HN.out.it.cell;have rc:=HR1.out.cell))
   clear rc
   have hz1:wr.heap.size≤w6.heap.size:=by omega
   have hz2:w6.heap.size < w8.heap.size:=HR1.out.lt
   generalize w6.heap.size=z1 at HR1 hz1 hz2 ⊢
   have HXZ:Hid (xb≠z1):=by show xb≠z1;omega
   have HLZ:=Hid.mk2 (fun h=>Nat.lt_irrefl _ (Nat.lt_of_lt_of_le (HLB.out z1 h) hz1))
   have HSZ:=Hid.mk2 (fun h=>Nat.lt_irrefl _ (Nat.lt_of_lt_of_le (HSB.out z1 h) hz1))
   have HWZ:Hid (w.heap.size≤z1):=by show w.heap.size≤z1;omega
   have HN8:=HN
   have HB8:=Hid.mk2 (Below.refl w8.heap.size w8)
   go_upto_region 25 with (first
    | (go_at_call 14;refine (filled_text rejB (by decide) HKN0.out l _ _ (GT.out _ HN.out.bl) ⟨(GP.out _ HN.out.bl).bytes,(GP.out _ HN.out.bl).size.1⟩ HSH.out hl12 HN.out.lv).mono ?_;rintro e w9 ⟨rfl,hst,hb9⟩;rw[← HIE0.out] at hst;have HST:=Hid.mk2 hst;have HST0:=Hid.mk2 hst.lt;replace HB8:=Hid.mk2 (rq_step HB8.out hb9);replace HN:=Hid.mk2 (HN8.out.below HB8.out);clear hst hb9 ic;have ic:=HN.out.it.cell)
    | (go_at_call 15;refine (rank_text HX.out HGJ.out _ l HSH.out hl12 m hm _ HST.out (GP.out _ HN.out.bl).y).mono ?_;rintro e wA ⟨hbA,j0,j1,j2,na,nn,nc,rfl,hrv,_⟩;obtain ⟨rfl,rfl,rfl,rfl⟩:=rank_none hrv;replace HB8:=Hid.mk2 (rq_al (rq_step HB8.out hbA) (.cells #[.int .i64 0,.int .i64 0,.int .i64 0,.slice na 0 nc] 51));replace HN:=Hid.mk2 (HN8.out.below HB8.out);replace HST:=Hid.mk2 ((HST.out.below hbA).below (box3 wA (.cells #[.int .i64 0,.int .i64 0,.int .i64 0,.slice na 0 nc] 51)));have HR2:=Hid.mk2 (Blk.new wA #[.int .i64 0,.int .i64 0,.int .i64 0,.slice na 0 nc] 51);have hzA:w8.heap.size < wA.heap.size:=Nat.lt_of_lt_of_le HST0.out hbA.size;clear hbA hrv ic;have ic:=HN.out.it.cell)
    | (go_at_call 17;refine (load_store HGD.out.img _ l _ _ (GP.out _ HN.out.bl) HST.out).mono ?_;rintro e wB ⟨rfl,hst,hbut⟩;replace HST:=Hid.mk2 hst;replace HR2:=Hid.mk2 (HR2.out.but hbut (by omega));replace HB8:=Hid.mk2 (HB8.out.trans (hbut.below (Nat.le_refl _) HB8.out.size));replace HN:=Hid.mk2 (HN8.out.below HB8.out);clear hst hbut ic;have ic:=HN.out.it.cell))
   have hnz:wA.heap.size≠z1:=by omega
   have HR1B:=Hid.mk2 (HR1.out.below HB8.out HR1.out.lt)
   clear HB8 HN8 HR1
   go_upto_region 26 with (go_at_call 15;refine (rank_text HX.out HGD.out _ l HSH.out hl12 m hm _ HST.out (GP.out _ HN.out.bl).y).mono ?_;rintro e wC ⟨hbC,f0,f1,f2,pa,pn,pc,rfl,hrv,hav⟩;have hgB:=HR1B.out.lt;replace HN:=Hid.mk2 (HN.out.below hbC);have HRV:=Hid.mk2 hrv;replace HR1B:=Hid.mk2 (HR1B.out.below hbC HR1B.out.lt);replace HR2:=Hid.mk2 (HR2.out.below hbC HR2.out.lt);have HAZ:=Hid.mk2 (fun h=>Nat.lt_irrefl _ (Nat.lt_of_lt_of_le hgB (hav z1 h)));clear hbC hrv hav ic;have zf:=HR1B.out.free;have zg:=HR1B.out.cell)
   have HN':=Hid.mk2 (((((HN.out.set HXZ.out HLZ.out HSZ.out HWZ.out 0 (.int .i64 f0)).set HXZ.out HLZ.out HSZ.out HWZ.out 1 (.int .i64 f1)).set HXZ.out HLZ.out HSZ.out HWZ.out 2 (.int .i64 f2)).set HXZ.out HLZ.out HSZ.out HWZ.out 3 (.slice pa pn pc)))
   have HRV':=Hid.mk2 ((((HRV.out.set HAZ.out 0 (.int .i64 f0)).set HAZ.out 1 (.int .i64 f1)).set HAZ.out 2 (.int .i64 f2)).set HAZ.out 3 (.slice pa pn pc))
   have HR1':=Hid.mk2 ((((HR1B.out.set 0 (.int .i64 f0)).set 1 (.int .i64 f1)).set 2 (.int .i64 f2)).set 3 (.slice pa pn pc))
   have HR2':=Hid.mk2 ((((HR2.out.other ⟨z1,0,none⟩ (.int .i64 f0) hnz).other ⟨z1,1,none⟩ (.int .i64 f1) hnz).other ⟨z1,2,none⟩ (.int .i64 f2) hnz).other ⟨z1,3,none⟩ (.slice pa pn pc) hnz)
   clear HN HRV HR1B HR2 zf zg
   generalize (((wC.setCell ⟨z1,0,none⟩ (.int .i64 f0)).setCell ⟨z1,1,none⟩ (.int .i64 f1)).setCell ⟨z1,2,none⟩ (.int .i64 f2)).setCell ⟨z1,3,none⟩ (.slice pa pn pc)=wD at HN' HRV' HR1' HR2' ⊢
   have zc:=HR1'.out.cell
   have yc:=HR2'.out.cell
   go_wp2_with (go_at_call 16;refine (ranks_any hl12 hm _ _ _ HRV'.out HN'.out.lv HN'.out.sv).mono ?_;rintro e wE ⟨rfl,hbE⟩;replace HN':=Hid.mk2 (HN'.out.below hbE);replace HR2':=Hid.mk2 (HR2'.out.below hbE HR2'.out.lt);clear hbE zc yc;have yc:=HR2'.out.cell)
   go_ret
   exact ⟨HN'.out.bl,rfl⟩
end Go.Proofs.YtpcjadaeolkngaaGreatDoor
namespace Go.Proofs.YtpcjadaeolkngaaGreatDoor
open Go.RowKit Go.ChangeShapes Go.WideShapes Go.ChangeAt
theorem ints_of_trod {H:Type} {enc:TypeId × Value→H} {P:Program} {W:World} {sp:Nat→Bool} {hd:Bool} {t e:TypeId} {m fuel:Nat} {cs:List Value} {zs:List Int} {q:List MemPlace} (ht:P.underlying t=some (.array m e)) (he:P.underlying e=some (.int .i64)) (hc:P.cellsOf e=1)
  (hd':DataW.trod enc P W 0 sp hd fuel t cs=some (.agg (zs.map fun z=>.lit (.int .i64 z)),q)):∀ (i:Nat) (z:Int),zs[i]?=some z→cs[i]?=some (Value.int .i64 z):=by
 obtain ⟨xs,m1,rfl,hx,hlen,hxm,hel⟩:=DataW.trod_array ht hd'
 intro i z hz
 simp only[Prod.mk.injEq,DataW.agg.injEq] at hx
 have hl:zs.length=xs.length:=by have:=congrArg List.length hx.1;simpa using this
 have hi:i < zs.length:=(List.getElem?_eq_some_iff.1 hz).1
 have h1:=hel i (by omega)
 rw[hc,List.getElem?_eq_getElem (by omega:i < xs.length)] at h1
 obtain ⟨k,e1,e2,_⟩:=DataW.trod_int he h1
 have h2:(zs.map fun z=>(DataW.lit (.int .i64 z):DataW H))[i]?=(xs.map (·.1))[i]?:=by rw[hx.1]
 rw[List.getElem?_map,List.getElem?_map,hz,List.getElem?_eq_getElem (by omega:i < xs.length),Option.map_some,Option.map_some,e2] at h2
 have hk:k=z:=by simpa using h2.symm
 subst hk
 have h3:((cs.drop (i * 1)).take 1)[0]?=some (.int .i64 k):=by rw[e1];rfl
 rw[List.getElem?_take,if_pos (by omega),List.getElem?_drop] at h3
 simpa using h3
def tabBytes:List Int:=[8,1,0,0,0,0,0,0,0,0,0,0,0,2,2,2,0,0]
def tabTakes:List Int:=[0,0,1,1,2,2,2,2,2,2,2,2,2,0,1,1,1,0]
def tabLays:List Int:=[1,1,1,1,1,1,1,1,1,1,1,1,1,0,0,0,0,0]
theorem tabBytes_eq:∀ c,c < 18→tabBytes[c]?=some ((behindN c:Nat):Int):=by decide
theorem tabTakes_eq:∀ c,c < 18→tabTakes[c]?=some ((takesN c:Nat):Int):=by decide
theorem tabLays_eq:∀ c,c < 18→tabLays[c]?=some ((laysN c:Nat):Int):=by decide
theorem dBytes:(Rows.laid_slots_program_bytesBehind:DataW Unit)=.agg (tabBytes.map fun z=>.lit (.int .i64 z)):=rfl
theorem dTakes:(Rows.laid_slots_program_takes:DataW Unit)=.agg (tabTakes.map fun z=>.lit (.int .i64 z)):=rfl
theorem dLays:(Rows.laid_slots_program_lays:DataW Unit)=.agg (tabLays.map fun z=>.lit (.int .i64 z)):=rfl
def laidName (i:Nat):String:=((Rows.rankedRow.laid[i]?).map (·.1)).getD default
theorem gBytes:Tryz.prog.globalNamed (laidName 0)=some 0:=by kernel_rfl
theorem gTakes:Tryz.prog.globalNamed (laidName 1)=some 1:=by kernel_rfl
theorem gLays:Tryz.prog.globalNamed (laidName 2)=some 2:=by kernel_rfl
theorem tyBytes:(Tryz.prog.globals[0]?).map (·.type)=some 161:=by kernel_rfl
theorem tyTakes:(Tryz.prog.globals[1]?).map (·.type)=some 161:=by kernel_rfl
theorem tyLays:(Tryz.prog.globals[2]?).map (·.type)=some 161:=by kernel_rfl
theorem cellsInt:Tryz.prog.cellsOf 3=1:=by kernel_rfl
theorem table_of {W:World} {nm:String} {g t:Nat} {cs:Array Value} {fuel:Nat} {p:List MemPlace} {zs:List Int} {d:DataW Unit} (k:Nat) (hgk:Tryz.prog.globalNamed nm=some k) (htk:(Tryz.prog.globals[k]?).map (·.type)=some 161) (hd0:d=.agg (zs.map fun z=>.lit (.int .i64 z)))
  (hg:Tryz.prog.globalNamed nm=some g) (ht:(Tryz.prog.globals[g]?).map (·.type)=some t) (hv:W.var? Tryz.prog nm=some cs) (hd:DataW.trod (fun _=>()) Tryz.prog W 0 (fun _=>true) false fuel t cs.toList=some (d,p)) :
  ∀ (i:Nat) (z:Int),zs[i]?=some z→W.cell? ⟨k,i,none⟩=some (.int .i64 z):=by
 obtain rfl:=Option.some.inj (hgk.symm.trans hg)
 obtain rfl:=Option.some.inj (htk.symm.trans ht)
 subst hd0
 intro i z hz
 have h1:=ints_of_trod Tryz.underlying161 Tryz.underlying3 cellsInt hd i z hz
 rw[World.var?_cell hgk hv i]
 simpa using h1
end Go.Proofs.YtpcjadaeolkngaaGreatDoor
namespace Go.Proofs.YtpcjadaeolkngaaGreatDoor
open Go.RowKit Go.ChangeShapes Go.WideShapes Go.ChangeAt
theorem strs_of_trod {H:Type} {enc:TypeId × Value→H} {P:Program} {W:World} {sp:Nat→Bool} {hd:Bool} {t e:TypeId} {m fuel:Nat} {cs:List Value} {zs:List Txt} {q:List MemPlace} (ht:P.underlying t=some (.array m e)) (he:P.underlying e=some .string) (hc:P.cellsOf e=1)
  (hd':DataW.trod enc P W 0 sp hd fuel t cs=some (.agg (zs.map fun z=>.lit (.string z)),q)):∀ (i:Nat) (z:Txt),zs[i]?=some z→cs[i]?=some (Value.string (bsOf z)):=by
 obtain ⟨xs,m1,rfl,hx,hlen,hxm,hel⟩:=DataW.trod_array ht hd'
 intro i z hz
 simp only[Prod.mk.injEq,DataW.agg.injEq] at hx
 have hl:zs.length=xs.length:=by have:=congrArg List.length hx.1;simpa using this
 have hi:i < zs.length:=(List.getElem?_eq_some_iff.1 hz).1
 have h1:=hel i (by omega)
 rw[hc,List.getElem?_eq_getElem (by omega:i < xs.length)] at h1
 obtain ⟨k,e1,e2,_⟩:=DataW.trod_string he h1
 have h2:(zs.map fun z=>(DataW.lit (.string z):DataW H))[i]?=(xs.map (·.1))[i]?:=by rw[hx.1]
 rw[List.getElem?_map,List.getElem?_map,hz,List.getElem?_eq_getElem (by omega:i < xs.length),Option.map_some,Option.map_some,e2] at h2
 have hk:z=k.data.toList:=by simpa using h2
 have hkb:bsOf z=k:=by rw[hk];cases k;simp[bsOf]
 rw[hkb]
 have h3:((cs.drop (i * 1)).take 1)[0]?=some (.string k):=by rw[e1];rfl
 rw[List.getElem?_take,if_pos (by omega),List.getElem?_drop] at h3
 simpa using h3
theorem dWords:(Rows.laid_slots_token_words:DataW Unit)=.agg (tWords.map fun z=>.lit (.string z)):=rfl
theorem dSigns:(Rows.laid_slots_token_signs:DataW Unit)=.agg (tSign.map fun z=>.lit (.string z)):=rfl
theorem gWords:Tryz.prog.globalNamed (laidName 3)=some 3:=by kernel_rfl
theorem gSigns:Tryz.prog.globalNamed (laidName 4)=some 4:=by kernel_rfl
theorem tyWords:(Tryz.prog.globals[3]?).map (·.type)=some 198:=by kernel_rfl
theorem tySigns:(Tryz.prog.globals[4]?).map (·.type)=some 199:=by kernel_rfl
theorem undWords:Tryz.prog.underlying 198=some (.array 19 9):=by kernel_rfl
theorem undSigns:Tryz.prog.underlying 199=some (.array 12 9):=by kernel_rfl
theorem cellsStr:Tryz.prog.cellsOf 9=1:=by kernel_rfl
theorem table_str {W:World} {nm:String} {g t ty m:Nat} {cs:Array Value} {fuel:Nat} {p:List MemPlace} {zs:List Txt} {d:DataW Unit} (k:Nat) (hgk:Tryz.prog.globalNamed nm=some k) (htk:(Tryz.prog.globals[k]?).map (·.type)=some ty) (hu:Tryz.prog.underlying ty=some (.array m 9)) (hd0:d=.agg (zs.map fun z=>.lit (.string z)))
  (hg:Tryz.prog.globalNamed nm=some g) (ht:(Tryz.prog.globals[g]?).map (·.type)=some t) (hv:W.var? Tryz.prog nm=some cs) (hd:DataW.trod (fun _=>()) Tryz.prog W 0 (fun _=>true) false fuel t cs.toList=some (d,p)) :
  ∀ (i:Nat) (z:Txt),zs[i]?=some z→W.cell? ⟨k,i,none⟩=some (.string (bsOf z)):=by
 obtain rfl:=Option.some.inj (hgk.symm.trans hg)
 obtain rfl:=Option.some.inj (htk.symm.trans ht)
 subst hd0
 intro i z hz
 have h1:=strs_of_trod hu Tryz.underlying9 cellsStr hd i z hz
 rw[World.var?_cell hgk hv i]
 simpa using h1
theorem Tryz.own:ownKnob Tryz.prog.godebug=none:=by kernel_rfl
theorem Tryz.laidOut:laidOutB Tryz.prog=true:=by kernel_rfl
def laidAll:List (String × DataW Unit):=Rows.rankedRow.laid
theorem door_met (os:Os) (args:Array Value):laidMetH Tryz.prog laidAll ((World.doorLaid Tryz.prog 87 os).forCall (fun _ _=>0) ⟨#[],args,[]⟩).memory :=
 laidMetH_of_parts3 (fuel:=8) (laidMet_of_run' 8 (by kernel_rfl) (by kernel_rfl)) (by kernel_rfl) (by kernel_rfl)
theorem glob_of_laid {W:World} (h:laidMetH Tryz.prog laidAll W):GlobP W∧GlobT W:=by
 rw[MakeChecks.laidMetH_plain _ _ _ (by kernel_rfl)] at h
 obtain ⟨ps,⟨g1,t1,cs1,f1,p1,q1,hg1,ht1,hv1,hd1,⟨g2,t2,cs2,f2,p2,q2,hg2,ht2,hv2,hd2,⟨g3,t3,cs3,f3,p3,q3,hg3,ht3,hv3,hd3,⟨g4,t4,cs4,f4,p4,q4,hg4,ht4,hv4,hd4,⟨g5,t5,cs5,f5,p5,q5,hg5,ht5,hv5,hd5,_,_⟩,_⟩,_⟩,_⟩,_⟩,_,_⟩:=h
 have hb:=table_of 0 gBytes tyBytes dBytes hg1 ht1 hv1 hd1
 have hk:=table_of 1 gTakes tyTakes dTakes hg2 ht2 hv2 hd2
 have hl:=table_of 2 gLays tyLays dLays hg3 ht3 hv3 hd3
 have hw:=table_str 3 gWords tyWords undWords dWords hg4 ht4 hv4 hd4
 have ht:=table_str 4 gSigns tySigns undSigns dSigns hg5 ht5 hv5 hd5
 have hlt:∀ (k:Nat) (v:Value),W.cell? ⟨k,0,none⟩=some v→k < W.heap.size:=fun k v hc=>by
  by_cases h:k < W.heap.size
  ·exact h
  ·simp[World.cell?,Array.getElem?_eq_none (by omega:W.heap.size≤k)] at hc
 exact ⟨⟨fun c hc=>hb c _ (tabBytes_eq c hc),fun c hc=>hk c _ (tabTakes_eq c hc),fun c hc=>hl c _ (tabLays_eq c hc),⟨hlt _ _ (hb 0 _ (tabBytes_eq 0 (by omega))),hlt _ _ (hk 0 _ (tabTakes_eq 0 (by omega))),hlt _ _ (hl 0 _ (tabLays_eq 0 (by omega)))⟩⟩,⟨fun i hi=>hw i _ (List.getElem?_eq_getElem hi),fun i hi=>ht i _ (List.getElem?_eq_getElem hi),hlt _ _ (hw 0 _ rfl),hlt _ _ (ht 0 _ rfl)⟩⟩
section
variable {H:Type} {enc:TypeId × Value→H} {P:Program} {w:World} {base:Nat} {spare:Nat→Bool} {held:Bool}
theorem trodAll_six {t1 t2 t3 t4 t5 t6:TypeId} {args:Array Value} {ds:List (DataW H)} {ps:List MemPlace} (h:DataW.TrodAll enc P w base spare held [t1,t2,t3,t4,t5,t6] args.toList ds ps) :
  ∃ v1 v2 v3 v4 v5 v6 d1 d2 d3 d4 d5 d6 p1 p2 p3 p4 p5 p6,args=#[v1,v2,v3,v4,v5,v6]∧ds=[d1,d2,d3,d4,d5,d6]∧ps=p1++(p2++(p3++(p4++(p5++p6))))∧DataW.Trod enc P w base spare held t1 v1 d1 p1∧DataW.Trod enc P w base spare held t2 v2 d2 p2∧DataW.Trod enc P w base spare held t3 v3 d3 p3∧DataW.Trod enc P w base spare held t4 v4 d4 p4∧DataW.Trod enc P w base spare held t5 v5 d5 p5∧DataW.Trod enc P w base spare held t6 v6 d6 p6:=by
 obtain ⟨v1,vs1,d1,ds1,p1,q1,hargs,rfl,rfl,hd1,h1⟩:=trodAll_cons h
 obtain ⟨v2,vs2,d2,ds2,p2,q2,rfl,rfl,rfl,hd2,h2⟩:=trodAll_cons h1
 obtain ⟨v3,vs3,d3,ds3,p3,q3,rfl,rfl,rfl,hd3,h3⟩:=trodAll_cons h2
 obtain ⟨v4,vs4,d4,ds4,p4,q4,rfl,rfl,rfl,hd4,h4⟩:=trodAll_cons h3
 obtain ⟨v5,vs5,d5,ds5,p5,q5,rfl,rfl,rfl,hd5,h5⟩:=trodAll_cons h4
 obtain ⟨v6,vs6,d6,ds6,p6,q6,rfl,rfl,rfl,hd6,h6⟩:=trodAll_cons h5
 obtain ⟨rfl,rfl,rfl⟩:=trodAll_nil h6
 exact ⟨v1,v2,v3,v4,v5,v6,d1,d2,d3,d4,d5,d6,p1,p2,p3,p4,p5,p6,by cases args;simp_all,rfl,by simp,hd1,hd2,hd3,hd4,hd5,hd6⟩
theorem in64_of_wf {n:Int} (h:(Lit.int .i64 n).wf=true):In64 n:=by
 simp[Lit.wf,IntKind.min,IntKind.max,IntKind.signed,IntKind.bits] at h
 unfold In64
 omega
theorem int_arg {r:Reach} {b0:Nat} {t:TypeId} {v:Value} {d:DataW H} {ps:List MemPlace} (ht:P.underlying t=some (.int .i64)) (hval:Value.okWide P w r b0 t v) (h:DataW.Trod enc P w base spare held t v d ps):∃ n,v=.int .i64 n∧In64 n:=by
 obtain ⟨n,rfl⟩:=okWide_int ht hval
 obtain ⟨fuel,hf⟩:=h
 obtain ⟨m,h1,_,h3⟩:=DataW.trod_int ht hf
 have:n=m:=by simpa[Value.cells] using h1
 subst this
 exact ⟨n,rfl,in64_of_wf h3⟩
theorem str_arg {r:Reach} {b0:Nat} {t:TypeId} {v:Value} {d:DataW H} {ps:List MemPlace} (ht:P.underlying t=some .string) (hval:Value.okWide P w r b0 t v) (h:DataW.Trod enc P w base spare held t v d ps):∃ s:ByteArray,v=.string s∧s.size≤maxLen:=by
 obtain ⟨s,rfl⟩:=okWide_string ht hval
 obtain ⟨fuel,hf⟩:=h
 obtain ⟨m,h1,_,h3⟩:=DataW.trod_string ht hf
 have:s=m:=by simpa[Value.cells] using h1
 subst this
 exact ⟨s,rfl,h3⟩
end
end Go.Proofs.YtpcjadaeolkngaaGreatDoor
