/-
  The document's both: an operator between two operands.
-/
import Derived.Test.YtldfkcpbjooemaaGreatDoorG45
set_option linter.unusedVariables false
set_option linter.unusedSimpArgs false
namespace Go.Proofs.YtldfkcpbjooemaaGreatDoor
open Go.RowKit Go.Deep
def binA (op:Txt) (j:Nat) (a1:Int) (b1 c1:Nat) (a2:Int) (b2 c2:Nat):Int × Nat × Nat :=
 if b1≠0 then (a1,b1,c1)
 else if op=cAnd∨op=cOr then (if (op=cAnd∧a1=0)∨(op=cOr∧a1≠0) then (a1,0,c1+2) else if b2=0 then (a2,b2,c2+c1+1+1) else (a2,b2,c2+c1+1))
 else if b2≠0 then (a2,b2,c2+c1) else ((joinN j a1 a2).1,(joinN j a1 a2).2,c1+c2+1)
theorem wr3 (c1 c2:Nat) (h1:c1≤100000) (h2:c2≤100000):wrap64 ((c1:Int)+2)=(c1:Int)+2∧wrap64 ((c2:Int)+c1)=(c2:Int)+c1∧wrap64 ((c2:Int)+c1+1)=(c2:Int)+c1+1∧wrap64 ((c2:Int)+c1+1+1)=(c2:Int)+c1+1+1∧wrap64 ((c1:Int)+c2)=(c1:Int)+c2∧wrap64 ((c1:Int)+c2+1)=(c1:Int)+c2+1 :=
 ⟨IntWalk.wrap64_in _ ⟨by omega,by omega⟩,IntWalk.wrap64_in _ ⟨by omega,by omega⟩,IntWalk.wrap64_in _ ⟨by omega,by omega⟩,IntWalk.wrap64_in _ ⟨by omega,by omega⟩,IntWalk.wrap64_in _ ⟨by omega,by omega⟩,IntWalk.wrap64_in _ ⟨by omega,by omega⟩⟩
def BothOk (l:List Stm) (L:List RSt) (x:Itm) (y:Bn) (toks:List RTok) (r:Nat) (q:Int × Nat × Nat):Prop:=∀ (v:Value) (w:World) (lv kv:Value),0 < toks.length→toks.length≤400→Reads w v toks.length (cellsR toks)→Reads w lv l.length (cellsS l)→LetsIn w l L →
 Calls Tryz.prog 130 #[.agg #[lv,kv],v,.int .i64 r,itmA x,bnA y] w fun e w'=>e=.returned (.agg (wA q.1 q.2.1 q.2.2))∧Below w.heap.size w w'
set_option maxHeartbeats 4000000 in
set_option maxRecDepth 100000 in
theorem both_any (l:List Stm) (L:List RSt) (x:Itm) (y:Bn) (op:RTok) (a b:Tr) (j:Nat) (hj:op.text≠cAnd→op.text≠cOr→4≤j∧j≤12∧bsOf op.text=signS j) (a1:Int) (b1 c1:Nat) (a2:Int) (b2 c2:Nat) (h1:In64 a1) (h2:In64 a2) (hc1:c1≤100000) (hc2:c2≤100000) (IA:ValOk l L x y a.toks a1 b1 c1) (IB:ValOk l L x y b.toks a2 b2 c2) :
  BothOk l L x y (Tr.bin op a b).toks a.toks.length (binA op.text j a1 b1 c1 a2 b2 c2):=by
 intro v w lv kv h0 h4 hv hlv hL
 have HLN:Hid ((Tr.bin op a b).toks.length=a.toks.length+b.toks.length+1):=by rw[Hid];simp[Tr.toks_bin];omega
 have hap:=a.toks_pos
 have hbp:=b.toks_pos
 have hap4:a.toks.length≤400:=by have:=HLN.out;omega
 have hbp4:b.toks.length≤400:=by have:=HLN.out;omega
 have hab:a.toks.length < (Tr.bin op a b).toks.length:=by have:=HLN.out;omega
 have hab':(a.toks.length:Int) < (Tr.bin op a b).toks.length:=by omega
 have HQ:=Hid.mk2 (Bx4.start w lv kv x y)
 have HLV:=Hid.mk2 hlv
 have HL:=Hid.mk2 hL
 have H1:=Hid.mk2 h1
 have H2:=Hid.mk2 h2
 have HJ:=Hid.mk2 hj
 obtain ⟨r1,hr1⟩:∃ r,binA op.text j a1 b1 c1 a2 b2 c2=r:=⟨_,rfl⟩
 rw[hr1]
 have HR1:=Hid.mk2 hr1
 obtain ⟨u1,u2,u3,u4,u5,u6⟩:=wr3 c1 c2 hc1 hc2
 obtain ⟨g,o,cap,rfl,hncap,hltw,hc0⟩:=hv.pos h0
 have hlt:g < w.heap.size:=hltw
 have HC:Hid (∀ j u,(cellsR (Tr.bin op a b).toks)[j]?=some u→w.cell? ⟨g,o+j,none⟩=some u):=hc0
 clear hv hlv hL h1 h2 hj hr1 hc0 hltw
 have hsl:=fun wx=>sl_h g o (Tr.bin op a b).toks.length cap a.toks.length a.toks.length rfl (by have:=HLN.out;omega) (by have:=HLN.out;omega) wx
 have hwr:IntKind.i64.wrap ((a.toks.length:Int)+1)=(a.toks.length:Int)+1:=IntWalk.i64_in _ ⟨by omega,by have:=HLN.out;omega⟩
 have hsl2:=fun wx=>sl_l g o (Tr.bin op a b).toks.length cap (a.toks.length+1) ((a.toks.length:Int)+1) (by omega) (by have:=HLN.out;omega) (by have:=HLN.out;omega) wx
 have HRA:Hid (Reads w (.slice (some ⟨g,o,none⟩) a.toks.length cap) a.toks.length (cellsR a.toks)):=reads_mid [] a.toks (op :: b.toks) (by simp[Tr.toks_bin]) hlt (by have:=HLN.out;omega) HC.out
 have HRB:Hid (Reads w (.slice (some ⟨g,o+(a.toks.length+1) * 2,none⟩) ((Tr.bin op a b).toks.length - (a.toks.length+1)) (cap - (a.toks.length+1))) b.toks.length (cellsR b.toks)):=by
  unfold Hid
  have:=reads_mid (a.toks++[op]) b.toks [] (by simp[Tr.toks_bin]) hlt (cap:=cap - (a.toks.length+1)) (by have:=HLN.out;omega) HC.out
  rw[show (Tr.bin op a b).toks.length - (a.toks.length+1)=b.toks.length by have:=HLN.out;omega]
  simpa using this
 have HOP:Hid ((cellsR (Tr.bin op a b).toks)[a.toks.length * 2]?=some (.string (bsOf op.text))):=by
  unfold Hid
  have:=(cellsR_get (Tr.bin op a b).toks a.toks.length (by have:=HLN.out;omega)).1
  simpa[Tr.toks_bin] using this
 obtain ⟨tb,htb⟩:∃ tb,tb=bsOf op.text:=⟨_,rfl⟩
 have HTB:Hid (tb.toList=op.text):=by rw[Hid,htb,bsOf_toList]
 have HTB2:=Hid.mk2 htb
 rw[← htb] at HOP
 clear htb
 unfold itmA bnA
 go_enter Tryz.func130,Tryz.ntmps130
 go_upto_region 1 with fail
 generalize (((w.alloc (.cells #[lv,kv] 42)).alloc (.cells #[.int .i64 x.size,.int .i64 x.speed,.int .i64 x.need] 26)).alloc (.cells #[.int .i64 y.id,.int .i64 y.zone,.int .i64 y.cap,.int .i64 y.used,.int .i64 y.has] 28)).alloc (.cells (wA 0 0 0) 97)=W at HQ ⊢
 have tx:=(HQ.out.bl.cell (p:=⟨g,o+a.toks.length * 2,none⟩) hlt).trans (HC.out _ _ HOP.out)
 go_upto_region 2 with fail
 have HCELL:Hid (∀ wx,Below W.heap.size W wx→wx.cell? ⟨w.heap.size,0,none⟩=some lv∧wx.cell? ⟨w.heap.size,1,none⟩=some kv∧wx.cell? ⟨w.heap.size+1,0,none⟩=some (.int .i64 x.size)∧wx.cell? ⟨w.heap.size+1,1,none⟩=some (.int .i64 x.speed)∧wx.cell? ⟨w.heap.size+1,2,none⟩=some (.int .i64 x.need)∧wx.cell? ⟨w.heap.size+2,0,none⟩=some (.int .i64 y.id)∧wx.cell? ⟨w.heap.size+2,1,none⟩=some (.int .i64 y.zone)∧wx.cell? ⟨w.heap.size+2,2,none⟩=some (.int .i64 y.cap)∧wx.cell? ⟨w.heap.size+2,3,none⟩=some (.int .i64 y.used)∧wx.cell? ⟨w.heap.size+2,4,none⟩=some (.int .i64 y.has)):=fun wx hb=>(HQ.out.below hb).cells
 have HRD:Hid (∀ wx,Below W.heap.size W wx→Reads wx (.slice (some ⟨g,o,none⟩) a.toks.length cap) a.toks.length (cellsR a.toks)∧Reads wx lv l.length (cellsS l)∧LetsIn wx l L):=fun wx hb=>⟨(HRA.out.below HQ.out.bl).below hb,(HLV.out.below HQ.out.bl).below hb,(HL.out.below HQ.out.bl).below hb⟩
 have hr0:=HQ.out.rs.lt
 have HB:=Hid.mk2 (Below.refl W.heap.size W)
 go_cut [12] (fun s12 wx=>∃ zb,s12=.pointer (some ⟨zb,0,none⟩)∧Blk wx zb (wA a1 b1 c1) 97∧Below W.heap.size W wx)
 case first =>
  obtain ⟨k0,k1,k2,k3,k4,k5,k6,k7,k8,k9⟩:=HCELL.out _ HB.out
  go_region_held3 (fun w'=>w'.cell? ⟨w.heap.size,0,none⟩=some lv∧w'.cell? ⟨w.heap.size,1,none⟩=some kv∧w'.cell? ⟨w.heap.size+1,0,none⟩=some (.int .i64 x.size)∧w'.cell? ⟨w.heap.size+1,1,none⟩=some (.int .i64 x.speed)∧w'.cell? ⟨w.heap.size+1,2,none⟩=some (.int .i64 x.need)∧w'.cell? ⟨w.heap.size+2,0,none⟩=some (.int .i64 y.id)∧w'.cell? ⟨w.heap.size+2,1,none⟩=some (.int .i64 y.zone)∧w'.cell? ⟨w.heap.size+2,2,none⟩=some (.int .i64 y.cap)∧w'.cell? ⟨w.heap.size+2,3,none⟩=some (.int .i64 y.used)∧w'.cell? ⟨w.heap.size+2,4,none⟩=some (.int .i64 y.has)) (first | with_reducible exact HCELL.out _ HB.out | with_reducible exact HCELL.out _ (im_dr3 HB.out) | with_reducible exact HCELL.out _ (im_al2 HB.out _) | with_reducible exact HCELL.out _ (im_dr3 (im_al2 HB.out _)) | with_reducible exact HCELL.out _ (im_set2 (im_set2 (im_set2 HB.out 0 _ (Nat.le_refl _)) 1 _ (Nat.le_refl _)) 2 _ (Nat.le_refl _))) ((go_at_call 51;refine (IA _ _ lv kv hap hap4 (HRD.out _ (by first | with_reducible exact HB.out | with_reducible exact im_dr3 HB.out | with_reducible exact im_al2 HB.out _ | with_reducible exact im_dr3 (im_al2 HB.out _))).1 (HRD.out _ (by first | with_reducible exact HB.out | with_reducible exact im_dr3 HB.out | with_reducible exact im_al2 HB.out _ | with_reducible exact im_dr3 (im_al2 HB.out _))).2.1 (HRD.out _ (by first | with_reducible exact HB.out | with_reducible exact im_dr3 HB.out | with_reducible exact im_al2 HB.out _ | with_reducible exact im_dr3 (im_al2 HB.out _))).2.2).mono ?_;rintro e' w3 ⟨rfl,hb3⟩;(first | (replace HB:=Hid.mk2 (show Below W.heap.size W w3 by with_reducible exact im_step2 (im_dr3 HB.out) hb3)) | (have hZ:=(Blk.new W #[.int .i64 0,.int .i64 0,.int .i64 0] 97).dr3.below hb3 (by simp);replace HB:=Hid.mk2 (show Below W.heap.size W w3 by with_reducible exact im_step2 (im_dr3 (im_al2 HB.out (.cells #[.int .i64 0,.int .i64 0,.int .i64 0] 97))) hb3)) | (replace HB:=Hid.mk2 (show Below W.heap.size W w3 by with_reducible exact im_step2 HB.out hb3)) | (have hZ:=(Blk.new W #[.int .i64 0,.int .i64 0,.int .i64 0] 97).below hb3 (by simp);replace HB:=Hid.mk2 (show Below W.heap.size W w3 by with_reducible exact im_step2 (im_al2 HB.out (.cells #[.int .i64 0,.int .i64 0,.int .i64 0] 97)) hb3)));clear hb3;have hl3:=HB.out.size;try (have z0:=hZ.cell 0;have z1:=hZ.cell 1;have z2:=hZ.cell 2;have y0:=hZ.free 0;have y1:=hZ.free 1;have y2:=hZ.free 2)))
  all_goals
   go_wp2_with fail
   go_meet
   case rel=>first | exact ⟨_,rfl,Blk.new w3 _ _,im_al2 HB.out _⟩ | exact ⟨_,rfl,((hZ.set 0 _).set 1 _).set 2 _,im_set2 (im_set2 (im_set2 HB.out 0 _ (Nat.le_refl _)) 1 _ (Nat.le_refl _)) 2 _ (Nat.le_refl _)⟩
 case rest =>
  obtain ⟨ub,rfl,hz,hb⟩:=hcut
  clear HB tx HCELL HRD
  have HU:=Hid.mk2 hz
  have HQ2:=Hid.mk2 (HQ.out.below hb)
  have q0:=hz.cell;have qf:=hz.free;have hql:=hz.lt
  have r0:=HQ2.out.rs.cell;have rf:=HQ2.out.rs.free;have hrl:=HQ2.out.rs.lt
  clear hz hb HQ
  by_cases hb1:b1=0
  ·have hbb:((b1:Int) != 0)=false:=by simp[hb1]
   by_cases hA:op.text=cAnd
   ·have qa:(tb.toList==[97,110,100])=true:=by rw[HTB.out,hA];decide
    by_cases hz0:a1=0
    ·have ha0:(a1==0)=true:=by simp[hz0]
     have HRE:Hid (r1=(a1,0,c1+2)):=by rw[Hid,← HR1.out,binA,if_neg (fun h=>h hb1),if_pos (.inl hA),if_pos (.inl ⟨hA,hz0⟩)]
     clear hb1 hA hz0
     go_wp2
     have hfb:=(((HQ2.out.rs).set 0 (.int .i64 a1)).set 1 (.int .i64 0)).set 2 (.int .i64 ((c1:Int)+2))
     have g0:=hfb.cell 0
     have g1:=hfb.cell 1
     have g2:=hfb.cell 2
     refine bodyPost_ret (v:=.agg #[.int .i64 a1,.int .i64 0,.int .i64 ((c1:Int)+2)]) (by simp[results,Tryz.results130,go_sem,g0,g1,g2]) rfl ⟨by rw[HRE.out] <;> rfl, ?_⟩
     exact sets3 (rb:=w.heap.size+3) HQ2.out.bl (Nat.le_add_right _ _) _ _ _
    ·have ha0:(a1==0)=false:=by simp[hz0]
     have HRZ:r1=(if b2=0 then (a2,b2,c2+c1+1+1) else (a2,b2,c2+c1+1)):=by rw[← HR1.out,binA,if_neg (fun h=>h hb1),if_pos (.inl hA),if_neg (fun h=>by rcases h with ⟨_,h⟩ | ⟨h,_⟩;exact hz0 h;rw[hA] at h;exact absurd h (by decide))]
     replace HRZ:=Hid.mk2 HRZ
     clear hb1 hA hz0
     go_upto_region 8 with fail
     have HCELL2:Hid (∀ wx,Below wc.heap.size wc wx→wx.cell? ⟨w.heap.size,0,none⟩=some lv∧wx.cell? ⟨w.heap.size,1,none⟩=some kv∧wx.cell? ⟨w.heap.size+1,0,none⟩=some (.int .i64 x.size)∧wx.cell? ⟨w.heap.size+1,1,none⟩=some (.int .i64 x.speed)∧wx.cell? ⟨w.heap.size+1,2,none⟩=some (.int .i64 x.need)∧wx.cell? ⟨w.heap.size+2,0,none⟩=some (.int .i64 y.id)∧wx.cell? ⟨w.heap.size+2,1,none⟩=some (.int .i64 y.zone)∧wx.cell? ⟨w.heap.size+2,2,none⟩=some (.int .i64 y.cap)∧wx.cell? ⟨w.heap.size+2,3,none⟩=some (.int .i64 y.used)∧wx.cell? ⟨w.heap.size+2,4,none⟩=some (.int .i64 y.has)):=fun wx hb=>(HQ2.out.below hb).cells
     have HRD2:Hid (∀ wx,Below wc.heap.size wc wx→Reads wx (.slice (some ⟨g,o+(a.toks.length+1) * 2,none⟩) ((Tr.bin op a b).toks.length - (a.toks.length+1)) (cap - (a.toks.length+1))) b.toks.length (cellsR b.toks)∧Reads wx lv l.length (cellsS l)∧LetsIn wx l L):=fun wx hb=>⟨(HRB.out.below HQ2.out.bl).below hb,(HLV.out.below HQ2.out.bl).below hb,(HL.out.below HQ2.out.bl).below hb⟩
     have HB2:=Hid.mk2 (Below.refl wc.heap.size wc)
     go_cut [13] (fun s13 wx=>∃ zb,s13=.pointer (some ⟨zb,0,none⟩)∧Blk wx zb (wA a2 b2 c2) 97∧Below wc.heap.size wc wx∧wc.heap.size≤zb)
     case first =>
      obtain ⟨k0,k1,k2,k3,k4,k5,k6,k7,k8,k9⟩:=HCELL2.out _ HB2.out
      go_region_held3 (fun w'=>w'.cell? ⟨w.heap.size,0,none⟩=some lv∧w'.cell? ⟨w.heap.size,1,none⟩=some kv∧w'.cell? ⟨w.heap.size+1,0,none⟩=some (.int .i64 x.size)∧w'.cell? ⟨w.heap.size+1,1,none⟩=some (.int .i64 x.speed)∧w'.cell? ⟨w.heap.size+1,2,none⟩=some (.int .i64 x.need)∧w'.cell? ⟨w.heap.size+2,0,none⟩=some (.int .i64 y.id)∧w'.cell? ⟨w.heap.size+2,1,none⟩=some (.int .i64 y.zone)∧w'.cell? ⟨w.heap.size+2,2,none⟩=some (.int .i64 y.cap)∧w'.cell? ⟨w.heap.size+2,3,none⟩=some (.int .i64 y.used)∧w'.cell? ⟨w.heap.size+2,4,none⟩=some (.int .i64 y.has)) (first | with_reducible exact HCELL2.out _ HB2.out | with_reducible exact HCELL2.out _ (im_dr3 HB2.out) | with_reducible exact HCELL2.out _ (im_al2 HB2.out _) | with_reducible exact HCELL2.out _ (im_dr3 (im_al2 HB2.out _)) | with_reducible exact HCELL2.out _ (im_set2 (im_set2 (im_set2 HB2.out 0 _ (Nat.le_refl _)) 1 _ (Nat.le_refl _)) 2 _ (Nat.le_refl _))) ((go_at_call 51;refine (IB _ _ lv kv hbp hbp4 (HRD2.out _ (by first | with_reducible exact HB2.out | with_reducible exact im_dr3 HB2.out | with_reducible exact im_al2 HB2.out _ | with_reducible exact im_dr3 (im_al2 HB2.out _))).1 (HRD2.out _ (by first | with_reducible exact HB2.out | with_reducible exact im_dr3 HB2.out | with_reducible exact im_al2 HB2.out _ | with_reducible exact im_dr3 (im_al2 HB2.out _))).2.1 (HRD2.out _ (by first | with_reducible exact HB2.out | with_reducible exact im_dr3 HB2.out | with_reducible exact im_al2 HB2.out _ | with_reducible exact im_dr3 (im_al2 HB2.out _))).2.2).mono ?_;rintro e' w3 ⟨rfl,hb3⟩;(first | (replace HB2:=Hid.mk2 (show Below wc.heap.size wc w3 by with_reducible exact im_step2 (im_dr3 HB2.out) hb3)) | (have hZ:=(Blk.new wc #[.int .i64 0,.int .i64 0,.int .i64 0] 97).dr3.below hb3 (by simp);replace HB2:=Hid.mk2 (show Below wc.heap.size wc w3 by with_reducible exact im_step2 (im_dr3 (im_al2 HB2.out (.cells #[.int .i64 0,.int .i64 0,.int .i64 0] 97))) hb3)) | (replace HB2:=Hid.mk2 (show Below wc.heap.size wc w3 by with_reducible exact im_step2 HB2.out hb3)) | (have hZ:=(Blk.new wc #[.int .i64 0,.int .i64 0,.int .i64 0] 97).below hb3 (by simp);replace HB2:=Hid.mk2 (show Below wc.heap.size wc w3 by with_reducible exact im_step2 (im_al2 HB2.out (.cells #[.int .i64 0,.int .i64 0,.int .i64 0] 97)) hb3)));clear hb3;have hl3:=HB2.out.size;try (have z0:=hZ.cell 0;have z1:=hZ.cell 1;have z2:=hZ.cell 2;have y0:=hZ.free 0;have y1:=hZ.free 1;have y2:=hZ.free 2)))
      all_goals
       go_wp2_with fail
       go_meet
       case rel=>first | exact ⟨_,rfl,Blk.new w3 _ _,im_al2 HB2.out _,HB2.out.size⟩ | exact ⟨_,rfl,((hZ.set 0 _).set 1 _).set 2 _,im_set2 (im_set2 (im_set2 HB2.out 0 _ (Nat.le_refl _)) 1 _ (Nat.le_refl _)) 2 _ (Nat.le_refl _),Nat.le_refl _⟩
     case rest =>
      obtain ⟨vb,rfl,hz2,hb2,hvb⟩:=hcut
      clear HB2 HCELL2 HRD2 q0 qf hql r0 rf hrl
      have HV2:=Hid.mk2 hz2
      have HU2:=Hid.mk2 (HU.out.below hb2 HU.out.lt)
      have HQ3:=Hid.mk2 (HQ2.out.below hb2)
      have hrs:w.heap.size+3 < vb:=Nat.lt_of_lt_of_le HQ2.out.rs.lt hvb
      have hus:ub≠vb:=Nat.ne_of_lt (Nat.lt_of_lt_of_le HU.out.lt hvb)
      have q0:=HU2.out.cell;have qf:=HU2.out.free;have hql:=HU2.out.lt
      have v0:=hz2.cell;have vf:=hz2.free;have hvl:=hz2.lt
      have r0:=HQ3.out.rs.cell;have rf:=HQ3.out.rs.free;have hrl:=HQ3.out.rs.lt
      clear hz2 hb2 hsl hsl2 hwr hab hab' hap hbp hap4 hbp4 hncap h0 h4 hlt hvb hr0
      obtain ⟨WC,hWC⟩:∃ WC,WC=wc:=⟨_,rfl⟩
      subst hWC
      by_cases hb2:b2=0
      ·have hb2':((b2:Int)==0)=true:=by simp[hb2]
       have HRE:Hid (r1=(a2,b2,c2+c1+1+1)):=by rw[Hid,HRZ.out,if_pos hb2]
       clear hb2
       go_upto_region 10 with fail
       clear q0 qf hql v0 vf hvl r0 rf hrl
       have HV3:Hid (Blk (WC.setCell ⟨vb,2,none⟩ (.int .i64 ((c2:Int)+c1+1))) vb #[.int .i64 a2,.int .i64 b2,.int .i64 ((c2:Int)+c1+1)] 97):=HV2.out.set 2 _
       have HRS3:=Hid.mk2 (HQ3.out.rs.other ⟨vb,2,none⟩ (.int .i64 ((c2:Int)+c1+1)) (Nat.ne_of_lt hrs))
       have HBL3:=Hid.mk2 (im_set2 (b:=vb) HQ3.out.bl 2 (.int .i64 ((c2:Int)+c1+1)) (Nat.le_of_lt (Nat.lt_of_le_of_lt (Nat.le_add_right _ 3) hrs)))
       generalize WC.setCell ⟨vb,2,none⟩ (.int .i64 ((c2:Int)+c1+1))=W3 at HV3 HRS3 HBL3 ⊢
       have v0:=HV3.out.cell;have vf:=HV3.out.free;have hvl:=HV3.out.lt
       have r0:=HRS3.out.cell;have rf:=HRS3.out.free;have hrl:=HRS3.out.lt
       go_wp2
       have hfb:=(((HRS3.out.other ⟨vb,2,none⟩ (.int .i64 ((c2:Int)+c1+1+1)) (Nat.ne_of_lt hrs)).set 0 (.int .i64 a2)).set 1 (.int .i64 b2)).set 2 (.int .i64 ((c2:Int)+c1+1+1))
       have g0:=hfb.cell 0
       have g1:=hfb.cell 1
       have g2:=hfb.cell 2
       refine bodyPost_ret (v:=.agg #[.int .i64 a2,.int .i64 b2,.int .i64 ((c2:Int)+c1+1+1)]) (by simp[results,Tryz.results130,go_sem,g0,g1,g2]) rfl ⟨by rw[HRE.out] <;> rfl, ?_⟩
       exact sets3 (rb:=w.heap.size+3) (im_set2 HBL3.out 2 _ (Nat.le_of_lt (Nat.lt_of_le_of_lt (Nat.le_add_right _ 3) hrs))) (Nat.le_add_right _ _) _ _ _
      ·have hb2':((b2:Int)==0)=false:=by simpa using hb2
       have HRE:Hid (r1=(a2,b2,c2+c1+1)):=by rw[Hid,HRZ.out,if_neg hb2]
       clear hb2
       go_upto_region 10 with fail
       clear q0 qf hql v0 vf hvl r0 rf hrl
       have HV3:Hid (Blk (WC.setCell ⟨vb,2,none⟩ (.int .i64 ((c2:Int)+c1+1))) vb #[.int .i64 a2,.int .i64 b2,.int .i64 ((c2:Int)+c1+1)] 97):=HV2.out.set 2 _
       have HRS3:=Hid.mk2 (HQ3.out.rs.other ⟨vb,2,none⟩ (.int .i64 ((c2:Int)+c1+1)) (Nat.ne_of_lt hrs))
       have HBL3:=Hid.mk2 (im_set2 (b:=vb) HQ3.out.bl 2 (.int .i64 ((c2:Int)+c1+1)) (Nat.le_of_lt (Nat.lt_of_le_of_lt (Nat.le_add_right _ 3) hrs)))
       generalize WC.setCell ⟨vb,2,none⟩ (.int .i64 ((c2:Int)+c1+1))=W3 at HV3 HRS3 HBL3 ⊢
       have v0:=HV3.out.cell;have vf:=HV3.out.free;have hvl:=HV3.out.lt
       have r0:=HRS3.out.cell;have rf:=HRS3.out.free;have hrl:=HRS3.out.lt
       go_wp2
       have hfb:=(((HRS3.out).set 0 (.int .i64 a2)).set 1 (.int .i64 b2)).set 2 (.int .i64 ((c2:Int)+c1+1))
       have g0:=hfb.cell 0
       have g1:=hfb.cell 1
       have g2:=hfb.cell 2
       refine bodyPost_ret (v:=.agg #[.int .i64 a2,.int .i64 b2,.int .i64 ((c2:Int)+c1+1)]) (by simp[results,Tryz.results130,go_sem,g0,g1,g2]) rfl ⟨by rw[HRE.out] <;> rfl, ?_⟩
       exact sets3 (rb:=w.heap.size+3) HBL3.out (Nat.le_add_right _ _) _ _ _
   ·have qa:(tb.toList==[97,110,100])=false:=by rw[HTB.out];exact beq_eq_false_iff_ne.2 hA
    by_cases hO:op.text=cOr
    ·have qo:(tb.toList==[111,114])=true:=by rw[HTB.out,hO];decide
     by_cases hz0:a1=0
     ·have ha0:(a1==0)=true:=by simp[hz0]
      have HRZ:r1=(if b2=0 then (a2,b2,c2+c1+1+1) else (a2,b2,c2+c1+1)):=by rw[← HR1.out,binA,if_neg (fun h=>h hb1),if_pos (.inr hO),if_neg (fun h=>by rcases h with ⟨h,_⟩ | ⟨_,h⟩;exact hA h;exact h hz0)]
      replace HRZ:=Hid.mk2 HRZ
      clear hb1 hA hO hz0
      go_upto_region 8 with fail
      have HCELL2:Hid (∀ wx,Below wc.heap.size wc wx→wx.cell? ⟨w.heap.size,0,none⟩=some lv∧wx.cell? ⟨w.heap.size,1,none⟩=some kv∧wx.cell? ⟨w.heap.size+1,0,none⟩=some (.int .i64 x.size)∧wx.cell? ⟨w.heap.size+1,1,none⟩=some (.int .i64 x.speed)∧wx.cell? ⟨w.heap.size+1,2,none⟩=some (.int .i64 x.need)∧wx.cell? ⟨w.heap.size+2,0,none⟩=some (.int .i64 y.id)∧wx.cell? ⟨w.heap.size+2,1,none⟩=some (.int .i64 y.zone)∧wx.cell? ⟨w.heap.size+2,2,none⟩=some (.int .i64 y.cap)∧wx.cell? ⟨w.heap.size+2,3,none⟩=some (.int .i64 y.used)∧wx.cell? ⟨w.heap.size+2,4,none⟩=some (.int .i64 y.has)):=fun wx hb=>(HQ2.out.below hb).cells
      have HRD2:Hid (∀ wx,Below wc.heap.size wc wx→Reads wx (.slice (some ⟨g,o+(a.toks.length+1) * 2,none⟩) ((Tr.bin op a b).toks.length - (a.toks.length+1)) (cap - (a.toks.length+1))) b.toks.length (cellsR b.toks)∧Reads wx lv l.length (cellsS l)∧LetsIn wx l L):=fun wx hb=>⟨(HRB.out.below HQ2.out.bl).below hb,(HLV.out.below HQ2.out.bl).below hb,(HL.out.below HQ2.out.bl).below hb⟩
      have HB2:=Hid.mk2 (Below.refl wc.heap.size wc)
      go_cut [13] (fun s13 wx=>∃ zb,s13=.pointer (some ⟨zb,0,none⟩)∧Blk wx zb (wA a2 b2 c2) 97∧Below wc.heap.size wc wx∧wc.heap.size≤zb)
      case first =>
       obtain ⟨k0,k1,k2,k3,k4,k5,k6,k7,k8,k9⟩:=HCELL2.out _ HB2.out
       go_region_held3 (fun w'=>w'.cell? ⟨w.heap.size,0,none⟩=some lv∧w'.cell? ⟨w.heap.size,1,none⟩=some kv∧w'.cell? ⟨w.heap.size+1,0,none⟩=some (.int .i64 x.size)∧w'.cell? ⟨w.heap.size+1,1,none⟩=some (.int .i64 x.speed)∧w'.cell? ⟨w.heap.size+1,2,none⟩=some (.int .i64 x.need)∧w'.cell? ⟨w.heap.size+2,0,none⟩=some (.int .i64 y.id)∧w'.cell? ⟨w.heap.size+2,1,none⟩=some (.int .i64 y.zone)∧w'.cell? ⟨w.heap.size+2,2,none⟩=some (.int .i64 y.cap)∧w'.cell? ⟨w.heap.size+2,3,none⟩=some (.int .i64 y.used)∧w'.cell? ⟨w.heap.size+2,4,none⟩=some (.int .i64 y.has)) (first | with_reducible exact HCELL2.out _ HB2.out | with_reducible exact HCELL2.out _ (im_dr3 HB2.out) | with_reducible exact HCELL2.out _ (im_al2 HB2.out _) | with_reducible exact HCELL2.out _ (im_dr3 (im_al2 HB2.out _)) | with_reducible exact HCELL2.out _ (im_set2 (im_set2 (im_set2 HB2.out 0 _ (Nat.le_refl _)) 1 _ (Nat.le_refl _)) 2 _ (Nat.le_refl _))) ((go_at_call 51;refine (IB _ _ lv kv hbp hbp4 (HRD2.out _ (by first | with_reducible exact HB2.out | with_reducible exact im_dr3 HB2.out | with_reducible exact im_al2 HB2.out _ | with_reducible exact im_dr3 (im_al2 HB2.out _))).1 (HRD2.out _ (by first | with_reducible exact HB2.out | with_reducible exact im_dr3 HB2.out | with_reducible exact im_al2 HB2.out _ | with_reducible exact im_dr3 (im_al2 HB2.out _))).2.1 (HRD2.out _ (by first | with_reducible exact HB2.out | with_reducible exact im_dr3 HB2.out | with_reducible exact im_al2 HB2.out _ | with_reducible exact im_dr3 (im_al2 HB2.out _))).2.2).mono ?_;rintro e' w3 ⟨rfl,hb3⟩;(first | (replace HB2:=Hid.mk2 (show Below wc.heap.size wc w3 by with_reducible exact im_step2 (im_dr3 HB2.out) hb3)) | (have hZ:=(Blk.new wc #[.int .i64 0,.int .i64 0,.int .i64 0] 97).dr3.below hb3 (by simp);replace HB2:=Hid.mk2 (show Below wc.heap.size wc w3 by with_reducible exact im_step2 (im_dr3 (im_al2 HB2.out (.cells #[.int .i64 0,.int .i64 0,.int .i64 0] 97))) hb3)) | (replace HB2:=Hid.mk2 (show Below wc.heap.size wc w3 by with_reducible exact im_step2 HB2.out hb3)) | (have hZ:=(Blk.new wc #[.int .i64 0,.int .i64 0,.int .i64 0] 97).below hb3 (by simp);replace HB2:=Hid.mk2 (show Below wc.heap.size wc w3 by with_reducible exact im_step2 (im_al2 HB2.out (.cells #[.int .i64 0,.int .i64 0,.int .i64 0] 97)) hb3)));clear hb3;have hl3:=HB2.out.size;try (have z0:=hZ.cell 0;have z1:=hZ.cell 1;have z2:=hZ.cell 2;have y0:=hZ.free 0;have y1:=hZ.free 1;have y2:=hZ.free 2)))
       all_goals
        go_wp2_with fail
        go_meet
        case rel=>first | exact ⟨_,rfl,Blk.new w3 _ _,im_al2 HB2.out _,HB2.out.size⟩ | exact ⟨_,rfl,((hZ.set 0 _).set 1 _).set 2 _,im_set2 (im_set2 (im_set2 HB2.out 0 _ (Nat.le_refl _)) 1 _ (Nat.le_refl _)) 2 _ (Nat.le_refl _),Nat.le_refl _⟩
      case rest =>
       obtain ⟨vb,rfl,hz2,hb2,hvb⟩:=hcut
       clear HB2 HCELL2 HRD2 q0 qf hql r0 rf hrl
       have HV2:=Hid.mk2 hz2
       have HU2:=Hid.mk2 (HU.out.below hb2 HU.out.lt)
       have HQ3:=Hid.mk2 (HQ2.out.below hb2)
       have hrs:w.heap.size+3 < vb:=Nat.lt_of_lt_of_le HQ2.out.rs.lt hvb
       have hus:ub≠vb:=Nat.ne_of_lt (Nat.lt_of_lt_of_le HU.out.lt hvb)
       have q0:=HU2.out.cell;have qf:=HU2.out.free;have hql:=HU2.out.lt
       have v0:=hz2.cell;have vf:=hz2.free;have hvl:=hz2.lt
       have r0:=HQ3.out.rs.cell;have rf:=HQ3.out.rs.free;have hrl:=HQ3.out.rs.lt
       clear hz2 hb2 hsl hsl2 hwr hab hab' hap hbp hap4 hbp4 hncap h0 h4 hlt hvb hr0
       obtain ⟨WC,hWC⟩:∃ WC,WC=wc:=⟨_,rfl⟩
       subst hWC
       by_cases hb2:b2=0
       ·have hb2':((b2:Int)==0)=true:=by simp[hb2]
        have HRE:Hid (r1=(a2,b2,c2+c1+1+1)):=by rw[Hid,HRZ.out,if_pos hb2]
        clear hb2
        go_upto_region 10 with fail
        clear q0 qf hql v0 vf hvl r0 rf hrl
        have HV3:Hid (Blk (WC.setCell ⟨vb,2,none⟩ (.int .i64 ((c2:Int)+c1+1))) vb #[.int .i64 a2,.int .i64 b2,.int .i64 ((c2:Int)+c1+1)] 97):=HV2.out.set 2 _
        have HRS3:=Hid.mk2 (HQ3.out.rs.other ⟨vb,2,none⟩ (.int .i64 ((c2:Int)+c1+1)) (Nat.ne_of_lt hrs))
        have HBL3:=Hid.mk2 (im_set2 (b:=vb) HQ3.out.bl 2 (.int .i64 ((c2:Int)+c1+1)) (Nat.le_of_lt (Nat.lt_of_le_of_lt (Nat.le_add_right _ 3) hrs)))
        generalize WC.setCell ⟨vb,2,none⟩ (.int .i64 ((c2:Int)+c1+1))=W3 at HV3 HRS3 HBL3 ⊢
        have v0:=HV3.out.cell;have vf:=HV3.out.free;have hvl:=HV3.out.lt
        have r0:=HRS3.out.cell;have rf:=HRS3.out.free;have hrl:=HRS3.out.lt
        go_wp2
        have hfb:=(((HRS3.out.other ⟨vb,2,none⟩ (.int .i64 ((c2:Int)+c1+1+1)) (Nat.ne_of_lt hrs)).set 0 (.int .i64 a2)).set 1 (.int .i64 b2)).set 2 (.int .i64 ((c2:Int)+c1+1+1))
        have g0:=hfb.cell 0
        have g1:=hfb.cell 1
        have g2:=hfb.cell 2
        refine bodyPost_ret (v:=.agg #[.int .i64 a2,.int .i64 b2,.int .i64 ((c2:Int)+c1+1+1)]) (by simp[results,Tryz.results130,go_sem,g0,g1,g2]) rfl ⟨by rw[HRE.out] <;> rfl, ?_⟩
        exact sets3 (rb:=w.heap.size+3) (im_set2 HBL3.out 2 _ (Nat.le_of_lt (Nat.lt_of_le_of_lt (Nat.le_add_right _ 3) hrs))) (Nat.le_add_right _ _) _ _ _
       ·have hb2':((b2:Int)==0)=false:=by simpa using hb2
        have HRE:Hid (r1=(a2,b2,c2+c1+1)):=by rw[Hid,HRZ.out,if_neg hb2]
        clear hb2
        go_upto_region 10 with fail
        clear q0 qf hql v0 vf hvl r0 rf hrl
        have HV3:Hid (Blk (WC.setCell ⟨vb,2,none⟩ (.int .i64 ((c2:Int)+c1+1))) vb #[.int .i64 a2,.int .i64 b2,.int .i64 ((c2:Int)+c1+1)] 97):=HV2.out.set 2 _
        have HRS3:=Hid.mk2 (HQ3.out.rs.other ⟨vb,2,none⟩ (.int .i64 ((c2:Int)+c1+1)) (Nat.ne_of_lt hrs))
        have HBL3:=Hid.mk2 (im_set2 (b:=vb) HQ3.out.bl 2 (.int .i64 ((c2:Int)+c1+1)) (Nat.le_of_lt (Nat.lt_of_le_of_lt (Nat.le_add_right _ 3) hrs)))
        generalize WC.setCell ⟨vb,2,none⟩ (.int .i64 ((c2:Int)+c1+1))=W3 at HV3 HRS3 HBL3 ⊢
        have v0:=HV3.out.cell;have vf:=HV3.out.free;have hvl:=HV3.out.lt
        have r0:=HRS3.out.cell;have rf:=HRS3.out.free;have hrl:=HRS3.out.lt
        go_wp2
        have hfb:=(((HRS3.out).set 0 (.int .i64 a2)).set 1 (.int .i64 b2)).set 2 (.int .i64 ((c2:Int)+c1+1))
        have g0:=hfb.cell 0
        have g1:=hfb.cell 1
        have g2:=hfb.cell 2
        refine bodyPost_ret (v:=.agg #[.int .i64 a2,.int .i64 b2,.int .i64 ((c2:Int)+c1+1)]) (by simp[results,Tryz.results130,go_sem,g0,g1,g2]) rfl ⟨by rw[HRE.out] <;> rfl, ?_⟩
        exact sets3 (rb:=w.heap.size+3) HBL3.out (Nat.le_add_right _ _) _ _ _
     ·have ha0:(a1==0)=false:=by simp[hz0]
      have HRE:Hid (r1=(a1,0,c1+2)):=by rw[Hid,← HR1.out,binA,if_neg (fun h=>h hb1),if_pos (.inr hO),if_pos (.inr ⟨hO,hz0⟩)]
      clear hb1 hA hO hz0
      go_wp2
      have hfb:=(((HQ2.out.rs).set 0 (.int .i64 a1)).set 1 (.int .i64 0)).set 2 (.int .i64 ((c1:Int)+2))
      have g0:=hfb.cell 0
      have g1:=hfb.cell 1
      have g2:=hfb.cell 2
      refine bodyPost_ret (v:=.agg #[.int .i64 a1,.int .i64 0,.int .i64 ((c1:Int)+2)]) (by simp[results,Tryz.results130,go_sem,g0,g1,g2]) rfl ⟨by rw[HRE.out] <;> rfl, ?_⟩
      exact sets3 (rb:=w.heap.size+3) HQ2.out.bl (Nat.le_add_right _ _) _ _ _
    ·have qo:(tb.toList==[111,114])=false:=by rw[HTB.out];exact beq_eq_false_iff_ne.2 hO
     obtain ⟨jb1,jb2,hsg⟩:=HJ.out hA hO
     have HJB:Hid (4≤j∧j≤12):=⟨jb1,jb2⟩
     have HSG:Hid (tb=signS j):=by rw[Hid,HTB2.out];exact hsg
     have HRZ:r1=(if b2≠0 then (a2,b2,c2+c1) else ((joinN j a1 a2).1,(joinN j a1 a2).2,c1+c2+1)):=by rw[← HR1.out,binA,if_neg (fun h=>h hb1),if_neg (fun h=>by rcases h with h | h;exact hA h;exact hO h)]
     replace HRZ:=Hid.mk2 HRZ
     clear hb1 hA hO jb1 jb2 hsg
     go_upto_region 13 with fail
     have HCELL2:Hid (∀ wx,Below wc.heap.size wc wx→wx.cell? ⟨w.heap.size,0,none⟩=some lv∧wx.cell? ⟨w.heap.size,1,none⟩=some kv∧wx.cell? ⟨w.heap.size+1,0,none⟩=some (.int .i64 x.size)∧wx.cell? ⟨w.heap.size+1,1,none⟩=some (.int .i64 x.speed)∧wx.cell? ⟨w.heap.size+1,2,none⟩=some (.int .i64 x.need)∧wx.cell? ⟨w.heap.size+2,0,none⟩=some (.int .i64 y.id)∧wx.cell? ⟨w.heap.size+2,1,none⟩=some (.int .i64 y.zone)∧wx.cell? ⟨w.heap.size+2,2,none⟩=some (.int .i64 y.cap)∧wx.cell? ⟨w.heap.size+2,3,none⟩=some (.int .i64 y.used)∧wx.cell? ⟨w.heap.size+2,4,none⟩=some (.int .i64 y.has)):=fun wx hb=>(HQ2.out.below hb).cells
     have HRD2:Hid (∀ wx,Below wc.heap.size wc wx→Reads wx (.slice (some ⟨g,o+(a.toks.length+1) * 2,none⟩) ((Tr.bin op a b).toks.length - (a.toks.length+1)) (cap - (a.toks.length+1))) b.toks.length (cellsR b.toks)∧Reads wx lv l.length (cellsS l)∧LetsIn wx l L):=fun wx hb=>⟨(HRB.out.below HQ2.out.bl).below hb,(HLV.out.below HQ2.out.bl).below hb,(HL.out.below HQ2.out.bl).below hb⟩
     have HB2:=Hid.mk2 (Below.refl wc.heap.size wc)
     go_cut [14] (fun s13 wx=>∃ zb,s13=.pointer (some ⟨zb,0,none⟩)∧Blk wx zb (wA a2 b2 c2) 97∧Below wc.heap.size wc wx∧wc.heap.size≤zb)
     case first =>
      obtain ⟨k0,k1,k2,k3,k4,k5,k6,k7,k8,k9⟩:=HCELL2.out _ HB2.out
      go_region_held3 (fun w'=>w'.cell? ⟨w.heap.size,0,none⟩=some lv∧w'.cell? ⟨w.heap.size,1,none⟩=some kv∧w'.cell? ⟨w.heap.size+1,0,none⟩=some (.int .i64 x.size)∧w'.cell? ⟨w.heap.size+1,1,none⟩=some (.int .i64 x.speed)∧w'.cell? ⟨w.heap.size+1,2,none⟩=some (.int .i64 x.need)∧w'.cell? ⟨w.heap.size+2,0,none⟩=some (.int .i64 y.id)∧w'.cell? ⟨w.heap.size+2,1,none⟩=some (.int .i64 y.zone)∧w'.cell? ⟨w.heap.size+2,2,none⟩=some (.int .i64 y.cap)∧w'.cell? ⟨w.heap.size+2,3,none⟩=some (.int .i64 y.used)∧w'.cell? ⟨w.heap.size+2,4,none⟩=some (.int .i64 y.has)) (first | with_reducible exact HCELL2.out _ HB2.out | with_reducible exact HCELL2.out _ (im_dr3 HB2.out) | with_reducible exact HCELL2.out _ (im_al2 HB2.out _) | with_reducible exact HCELL2.out _ (im_dr3 (im_al2 HB2.out _)) | with_reducible exact HCELL2.out _ (im_set2 (im_set2 (im_set2 HB2.out 0 _ (Nat.le_refl _)) 1 _ (Nat.le_refl _)) 2 _ (Nat.le_refl _))) ((go_at_call 51;refine (IB _ _ lv kv hbp hbp4 (HRD2.out _ (by first | with_reducible exact HB2.out | with_reducible exact im_dr3 HB2.out | with_reducible exact im_al2 HB2.out _ | with_reducible exact im_dr3 (im_al2 HB2.out _))).1 (HRD2.out _ (by first | with_reducible exact HB2.out | with_reducible exact im_dr3 HB2.out | with_reducible exact im_al2 HB2.out _ | with_reducible exact im_dr3 (im_al2 HB2.out _))).2.1 (HRD2.out _ (by first | with_reducible exact HB2.out | with_reducible exact im_dr3 HB2.out | with_reducible exact im_al2 HB2.out _ | with_reducible exact im_dr3 (im_al2 HB2.out _))).2.2).mono ?_;rintro e' w3 ⟨rfl,hb3⟩;(first | (replace HB2:=Hid.mk2 (show Below wc.heap.size wc w3 by with_reducible exact im_step2 (im_dr3 HB2.out) hb3)) | (have hZ:=(Blk.new wc #[.int .i64 0,.int .i64 0,.int .i64 0] 97).dr3.below hb3 (by simp);replace HB2:=Hid.mk2 (show Below wc.heap.size wc w3 by with_reducible exact im_step2 (im_dr3 (im_al2 HB2.out (.cells #[.int .i64 0,.int .i64 0,.int .i64 0] 97))) hb3)) | (replace HB2:=Hid.mk2 (show Below wc.heap.size wc w3 by with_reducible exact im_step2 HB2.out hb3)) | (have hZ:=(Blk.new wc #[.int .i64 0,.int .i64 0,.int .i64 0] 97).below hb3 (by simp);replace HB2:=Hid.mk2 (show Below wc.heap.size wc w3 by with_reducible exact im_step2 (im_al2 HB2.out (.cells #[.int .i64 0,.int .i64 0,.int .i64 0] 97)) hb3)));clear hb3;have hl3:=HB2.out.size;try (have z0:=hZ.cell 0;have z1:=hZ.cell 1;have z2:=hZ.cell 2;have y0:=hZ.free 0;have y1:=hZ.free 1;have y2:=hZ.free 2)))
      all_goals
       go_wp2_with fail
       go_meet
       case rel=>first | exact ⟨_,rfl,Blk.new w3 _ _,im_al2 HB2.out _,HB2.out.size⟩ | exact ⟨_,rfl,((hZ.set 0 _).set 1 _).set 2 _,im_set2 (im_set2 (im_set2 HB2.out 0 _ (Nat.le_refl _)) 1 _ (Nat.le_refl _)) 2 _ (Nat.le_refl _),Nat.le_refl _⟩
     case rest =>
      obtain ⟨vb,rfl,hz2,hb2,hvb⟩:=hcut
      clear HB2 HCELL2 HRD2 q0 qf hql r0 rf hrl
      have HV2:=Hid.mk2 hz2
      have HU2:=Hid.mk2 (HU.out.below hb2 HU.out.lt)
      have HQ3:=Hid.mk2 (HQ2.out.below hb2)
      have hrs:w.heap.size+3 < vb:=Nat.lt_of_lt_of_le HQ2.out.rs.lt hvb
      have hus:ub≠vb:=Nat.ne_of_lt (Nat.lt_of_lt_of_le HU.out.lt hvb)
      have q0:=HU2.out.cell;have qf:=HU2.out.free;have hql:=HU2.out.lt
      have v0:=hz2.cell;have vf:=hz2.free;have hvl:=hz2.lt
      have r0:=HQ3.out.rs.cell;have rf:=HQ3.out.rs.free;have hrl:=HQ3.out.rs.lt
      clear hz2 hb2 hsl hsl2 hwr hab hab' hap hbp hap4 hbp4 hncap h0 h4 hlt hvb hr0
      by_cases hb2:b2=0
      ·have hb2':((b2:Int) != 0)=false:=by simp[hb2]
       have HRE:Hid (r1=((joinN j a1 a2).1,(joinN j a1 a2).2,c1+c2+1)):=by rw[Hid,HRZ.out,if_neg (fun h=>h hb2)]
       obtain ⟨j1,hj1⟩:∃ z,(joinN j a1 a2).1=z:=⟨_,rfl⟩
       obtain ⟨j2,hj2⟩:∃ z,(joinN j a1 a2).2=z:=⟨_,rfl⟩
       rw[hj1,hj2] at HRE
       have HJ1:=Hid.mk2 hj1
       have HJ2:=Hid.mk2 hj2
       clear hb2 hj1 hj2
       go_wp2_with (go_at_call 46;rw[HSG.out];refine (Joined_any j HJB.out a1 a2 H1.out H2.out _).mono ?_;rintro e' wj ⟨rfl,hwj⟩;subst wj;rw[HJ1.out,HJ2.out])
       have hfb:=(((HQ3.out.rs).set 0 (.int .i64 j1)).set 1 (.int .i64 j2)).set 2 (.int .i64 ((c1:Int)+c2+1))
       have g0:=hfb.cell 0
       have g1:=hfb.cell 1
       have g2:=hfb.cell 2
       refine bodyPost_ret (v:=.agg #[.int .i64 j1,.int .i64 j2,.int .i64 ((c1:Int)+c2+1)]) (by simp[results,Tryz.results130,go_sem,g0,g1,g2]) rfl ⟨by rw[HRE.out] <;> rfl, ?_⟩
       exact sets3 (rb:=w.heap.size+3) HQ3.out.bl (Nat.le_add_right _ _) _ _ _
      ·have hb2':((b2:Int) != 0)=true:=by simpa using hb2
       have HRE:Hid (r1=(a2,b2,c2+c1)):=by rw[Hid,HRZ.out,if_pos hb2]
       clear hb2
       go_wp2
       have hfb:=(((HQ3.out.rs.other ⟨vb,2,none⟩ (.int .i64 ((c2:Int)+c1)) (Nat.ne_of_lt hrs)).set 0 (.int .i64 a2)).set 1 (.int .i64 b2)).set 2 (.int .i64 ((c2:Int)+c1))
       have g0:=hfb.cell 0
       have g1:=hfb.cell 1
       have g2:=hfb.cell 2
       refine bodyPost_ret (v:=.agg #[.int .i64 a2,.int .i64 b2,.int .i64 ((c2:Int)+c1)]) (by simp[results,Tryz.results130,go_sem,g0,g1,g2]) rfl ⟨by rw[HRE.out] <;> rfl, ?_⟩
       exact sets3 (rb:=w.heap.size+3) (im_set2 HQ3.out.bl 2 _ (Nat.le_of_lt (Nat.lt_of_le_of_lt (Nat.le_add_right _ 3) hrs))) (Nat.le_add_right _ _) _ _ _
  ·have hbb:((b1:Int) != 0)=true:=by simpa using hb1
   have HRE:Hid (r1=(a1,b1,c1)):=by rw[Hid,← HR1.out,binA,if_pos hb1]
   clear hb1
   go_wp2
   have hfb:=(((HQ2.out.rs).set 0 (.int .i64 a1)).set 1 (.int .i64 b1)).set 2 (.int .i64 c1)
   have g0:=hfb.cell 0
   have g1:=hfb.cell 1
   have g2:=hfb.cell 2
   refine bodyPost_ret (v:=.agg #[.int .i64 a1,.int .i64 b1,.int .i64 c1]) (by simp[results,Tryz.results130,go_sem,g0,g1,g2]) rfl ⟨by rw[HRE.out] <;> rfl, ?_⟩
   exact sets3 (rb:=w.heap.size+3) HQ2.out.bl (Nat.le_add_right _ _) _ _ _
end Go.Proofs.YtldfkcpbjooemaaGreatDoor
