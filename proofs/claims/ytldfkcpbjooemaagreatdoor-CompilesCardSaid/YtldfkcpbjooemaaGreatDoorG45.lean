/-
  What the document's worked makes of an EXPR, and that its Value is what the tree is worth.
-/
import Derived.Test.YtldfkcpbjooemaaGreatDoorG44
import Derived.Test.YtldfkcpbjooemaaGreatDoorG15
import Derived.Deep.DeepCutAuto
import Derived.Deep.RegionHeld3
set_option linter.unusedVariables false
set_option linter.unusedSimpArgs false
namespace Go.Proofs.YtldfkcpbjooemaaGreatDoor
open Go.RowKit Go.Deep
def wo3 (w:Wo):Int × Nat × Nat:=(w.v,w.flt,w.steps)
def set3 (fix:Bool) (r:Int × Nat × Nat):Int × Nat × Nat:=if fix=true∧r.2.1=0 then (r.1,r.2.1,1) else r
def one3 (k:Nat) (p:Wo):Int × Nat × Nat:=if p.flt≠0 then (p.v,p.flt,p.steps) else if k=9 then (1 - p.v,0,p.steps+1) else ((joinN 5 0 p.v).1,(joinN 5 0 p.v).2,p.steps+1)
def bin3 (k:Nat) (p q:Wo):Int × Nat × Nat :=
 if p.flt≠0 then (p.v,p.flt,p.steps)
 else if isChK k then (if decide (k=7)=decide (p.v=0) then (p.v,0,p.steps+2) else if q.flt=0 then (q.v,q.flt,q.steps+p.steps+1+1) else (q.v,q.flt,q.steps+p.steps+1))
 else if q.flt≠0 then (q.v,q.flt,q.steps+p.steps) else ((joinN (opK k 2) p.v q.v).1,(joinN (opK k 2) p.v q.v).2,p.steps+q.steps+1)
theorem settle3 (w:Wo):wo3 (settleW w)=set3 w.fix (wo3 w):=by
 unfold wo3 set3 settleW
 by_cases h:w.fix=true∧w.flt=0
 ·rw[if_pos h,if_pos h]
 ·rw[if_neg h,if_neg h]
theorem set3_flt (fix:Bool) {r:Int × Nat × Nat} (h:r.2.1≠0):set3 fix r=r:=by
 unfold set3
 rw[if_neg (fun g=>h g.2)]
theorem one_val {k j n:Nat} {p:Wo} (hk:k=9∨k=28) (hp:WoOk p j n) (ht:k=9→j=2):set3 (oneW k p).fix (one3 k p)=wo3 (oneW k p):=by
 unfold oneW one3
 by_cases hf:p.flt=0
 ·have hnf:¬ (p.flt≠0):=fun h=>h hf
  rw[if_neg hnf,if_neg hnf,settle3]
  rw[(settle_eq _).2.2.1]
  congr 1
  rcases hk with rfl | rfl
  ·rw[if_pos rfl,show opK 9 1=3 by decide]
   unfold wo3
   have:(oneN 3 p.v)=(bitN (decide (p.v=0)),0):=rfl
   simp only[this]
   rcases hp.tru hf (ht rfl) with h | h <;> rw[h] <;> rfl
  ·rw[if_neg (by decide),show opK 28 1=2 by decide]
   rfl
 ·rw[if_pos hf,if_pos hf]
  have:=hp.nul hf
  rw[set3_flt _ hf]
  unfold wo3
  rw[this]
theorem bin_val {k j1 n1 j2 n2:Nat} {p q:Wo} (hp:WoOk p j1 n1) (hq:WoOk q j2 n2) (ht:isChK k=true→j1=2):set3 (binW k p q).fix (bin3 k p q)=wo3 (binW k p q):=by
 unfold binW bin3
 cases hc:isChK k with
 | true =>
  simp only[if_true]
  unfold choW
  by_cases hf:p.flt=0
  ·have hnf:¬ (p.flt≠0):=fun h=>h hf
   rw[if_neg hnf,if_neg hnf]
   have htr:=hp.tru hf (ht hc)
   have hk:=isCh_cases hc
   have hd:(decide (k=7)=decide (p.v=0)) ↔ p.v=decK k:=by
    unfold decK
    rcases hk with rfl | rfl <;> rcases htr with h | h <;> rw[h] <;> decide
   by_cases hv:p.v=decK k
   ·rw[if_pos hv,if_pos (hd.2 hv),settle3,(settle_eq _).2.2.1]
    congr 1
    unfold wo3
    rw[hv]
   ·rw[if_neg hv,if_neg (fun e=>hv (hd.1 e))]
    by_cases hg:q.flt=0
    ·have hng:¬ (q.flt≠0):=fun h=>h hg
     rw[if_neg hng,if_pos hg,settle3,(settle_eq _).2.2.1]
     congr 1
     unfold wo3
     simp only
     rw[hg]
     congr 2
     omega
    ·rw[if_pos hg,if_neg hg,set3_flt _ hg]
     unfold wo3
     simp only
     rw[hq.nul hg]
     congr 2
     omega
  ·rw[if_pos hf,if_pos hf,set3_flt _ hf]
   unfold wo3
   rw[hp.nul hf]
 | false =>
  simp only[Bool.false_eq_true,if_false]
  unfold twoW
  by_cases hf:p.flt=0
  ·have hnf:¬ (p.flt≠0):=fun h=>h hf
   rw[if_neg hnf,if_neg hnf]
   by_cases hg:q.flt=0
   ·have hng:¬ (q.flt≠0):=fun h=>h hg
    rw[if_neg hng,if_neg hng,settle3,(settle_eq _).2.2.1]
    rfl
   ·rw[if_pos hg,if_pos hg,set3_flt _ hg]
    unfold wo3
    simp only
    rw[hq.nul hg]
    congr 2
    omega
  ·rw[if_pos hf,if_pos hf,set3_flt _ hf]
   unfold wo3
   rw[hp.nul hf]
theorem leaf_val {w:Wo} {j n:Nat} (h:WoOk w j n):set3 w.fix (wo3 w)=wo3 w:=by
 unfold set3 wo3
 by_cases hc:w.fix=true∧w.flt=0
 ·simp only
  rw[if_pos hc,h.set hc.1 hc.2]
 ·rw[if_neg hc]
end Go.Proofs.YtldfkcpbjooemaaGreatDoor
namespace Go.Proofs.YtldfkcpbjooemaaGreatDoor
open Go.RowKit Go.Deep
abbrev wA (a:Int) (b c:Nat):Array Value:=#[.int .i64 a,.int .i64 b,.int .i64 c]
def ValOk (l:List Stm) (L:List RSt) (x:Itm) (y:Bn) (toks:List RTok) (a:Int) (b c:Nat):Prop:=∀ (v:Value) (w:World) (lv kv:Value),0 < toks.length→toks.length≤400→Reads w v toks.length (cellsR toks)→Reads w lv l.length (cellsS l)→LetsIn w l L →
 Calls Tryz.prog 51 #[.agg #[lv,kv],v,itmA x,bnA y] w fun e w'=>e=.returned (.agg (wA a b c))∧Below w.heap.size w w'
def WorkOk (l:List Stm) (L:List RSt) (x:Itm) (y:Bn) (toks:List RTok) (a:Int) (b c:Nat):Prop:=∀ (v:Value) (w:World) (lv kv:Value),0 < toks.length→toks.length≤400→Reads w v toks.length (cellsR toks)→Reads w lv l.length (cellsS l)→LetsIn w l L →
 Calls Tryz.prog 87 #[.agg #[lv,kv],v,itmA x,bnA y] w fun e w'=>e=.returned (.agg (wA a b c))∧Below w.heap.size w w'
structure Bx4 (w wx:World) (lv kv:Value) (x:Itm) (y:Bn):Prop where
 sc:Blk wx w.heap.size #[lv,kv] 42
 it:Blk wx (w.heap.size+1) #[.int .i64 x.size,.int .i64 x.speed,.int .i64 x.need] 26
 bn:Blk wx (w.heap.size+2) #[.int .i64 y.id,.int .i64 y.zone,.int .i64 y.cap,.int .i64 y.used,.int .i64 y.has] 28
 rs:Blk wx (w.heap.size+3) (wA 0 0 0) 97
 bl:Below w.heap.size w wx
theorem Bx4.below {w wx w':World} {lv kv:Value} {x:Itm} {y:Bn} (h:Bx4 w wx lv kv x y) (hb:Below wx.heap.size wx w'):Bx4 w w' lv kv x y :=
 ⟨h.sc.below hb h.sc.lt,h.it.below hb h.it.lt,h.bn.below hb h.bn.lt,h.rs.below hb h.rs.lt,h.bl.trans (hb.mono h.bl.size)⟩
theorem Bx4.start (w:World) (lv kv:Value) (x:Itm) (y:Bn):Bx4 w ((((w.alloc (.cells #[lv,kv] 42)).alloc (.cells #[.int .i64 x.size,.int .i64 x.speed,.int .i64 x.need] 26)).alloc (.cells #[.int .i64 y.id,.int .i64 y.zone,.int .i64 y.cap,.int .i64 y.used,.int .i64 y.has] 28)).alloc (.cells (wA 0 0 0) 97)) lv kv x y:=by
 have a2:=Blk.new (w.alloc (.cells #[lv,kv] 42)) #[.int .i64 x.size,.int .i64 x.speed,.int .i64 x.need] 26
 have a3:=Blk.new ((w.alloc (.cells #[lv,kv] 42)).alloc (.cells #[.int .i64 x.size,.int .i64 x.speed,.int .i64 x.need] 26)) #[.int .i64 y.id,.int .i64 y.zone,.int .i64 y.cap,.int .i64 y.used,.int .i64 y.has] 28
 have a4:=Blk.new (((w.alloc (.cells #[lv,kv] 42)).alloc (.cells #[.int .i64 x.size,.int .i64 x.speed,.int .i64 x.need] 26)).alloc (.cells #[.int .i64 y.id,.int .i64 y.zone,.int .i64 y.cap,.int .i64 y.used,.int .i64 y.has] 28)) (wA 0 0 0) 97
 rw[show (w.alloc (.cells #[lv,kv] 42)).heap.size=w.heap.size+1 by simp] at a2
 rw[show ((w.alloc (.cells #[lv,kv] 42)).alloc (.cells #[.int .i64 x.size,.int .i64 x.speed,.int .i64 x.need] 26)).heap.size=w.heap.size+2 by simp] at a3
 rw[show (((w.alloc (.cells #[lv,kv] 42)).alloc (.cells #[.int .i64 x.size,.int .i64 x.speed,.int .i64 x.need] 26)).alloc (.cells #[.int .i64 y.id,.int .i64 y.zone,.int .i64 y.cap,.int .i64 y.used,.int .i64 y.has] 28)).heap.size=w.heap.size+3 by simp] at a4
 exact ⟨(((Blk.new w _ _).alloc _).alloc _).alloc _,(a2.alloc _).alloc _,a3.alloc _,a4,((((Below.refl _ w).alloc (Nat.le_refl _) _).alloc (by simp) _).alloc (by simp;omega) _).alloc (by simp;omega) _⟩
theorem sets3 {B rb:Nat} {w w1:World} (h:Below B w w1) (hB:B≤rb) (a b c:Value):Below B w (((w1.setCell ⟨rb,0,none⟩ a).setCell ⟨rb,1,none⟩ b).setCell ⟨rb,2,none⟩ c):=((h.setCell (p:=⟨rb,0,none⟩) hB a).setCell (p:=⟨rb,1,none⟩) hB b).setCell (p:=⟨rb,2,none⟩) hB c
theorem one_al (w:World) (o:Obj):Below w.heap.size w (w.alloc o):=(Below.refl _ w).alloc (Nat.le_refl _) o
set_option maxHeartbeats 2000000 in
set_option maxRecDepth 100000 in
theorem value_of {l:List Stm} {L:List RSt} {x:Itm} {y:Bn} {toks:List RTok} {fe:Txt→Bool} {a:Int} {b c:Nat} (IW:WorkOk l L x y toks a b c) (IF:FixOk l L fe toks):ValOk l L x y toks a b (if fixL fe toks=true∧b=0 then 1 else c):=by
 intro v w lv kv h0 h4 hv hlv hL
 have HV:=Hid.mk2 hv
 have HLV:=Hid.mk2 hlv
 have HL:=Hid.mk2 hL
 have HQ:=Hid.mk2 (Bx4.start w lv kv x y)
 obtain ⟨va,vc,rfl⟩:=hv.shape
 obtain ⟨d,hd⟩:∃ d,(if fixL fe toks=true∧b=0 then 1 else c)=d:=⟨_,rfl⟩
 rw[hd]
 have HD:=Hid.mk2 hd
 clear hv hlv hL hd
 unfold itmA bnA
 go_enter Tryz.func51,Tryz.ntmps51
 go_upto_region 1 with fail
 generalize (((w.alloc (.cells #[lv,kv] 42)).alloc (.cells #[.int .i64 x.size,.int .i64 x.speed,.int .i64 x.need] 26)).alloc (.cells #[.int .i64 y.id,.int .i64 y.zone,.int .i64 y.cap,.int .i64 y.used,.int .i64 y.has] 28)).alloc (.cells (wA 0 0 0) 97)=W at HQ ⊢
 have s0:=HQ.out.sc.cell;have i0:=HQ.out.it.cell;have b0:=HQ.out.bn.cell;have hr0:=HQ.out.rs.lt
 go_upto_region 2 with (go_at_call 87;refine (IW _ _ lv kv h0 h4 (HV.out.below HQ.out.bl) (HLV.out.below HQ.out.bl) (HL.out.below HQ.out.bl)).mono ?_;rintro e w1 ⟨rfl,hb1⟩;have HW:=Hid.mk2 (Blk.new w1 (wA a b c) 97);have hne:w.heap.size+3 < w1.heap.size:=Nat.lt_of_lt_of_le hr0 hb1.size;replace HQ:=Hid.mk2 ((HQ.out.below hb1).below (one_al w1 (.cells (wA a b c) 97)));clear hb1;clear s0 i0 b0 hr0;have s0:=HQ.out.sc.cell;have i0:=HQ.out.it.cell;have b0:=HQ.out.bn.cell;have hr0:=HQ.out.rs.lt;have r0:=HQ.out.rs.cell 0;have r1:=HQ.out.rs.cell 1;have r2:=HQ.out.rs.cell 2;have p0:=HQ.out.rs.free 0;have p1:=HQ.out.rs.free 1;have p2:=HQ.out.rs.free 2;have q0:=HW.out.cell;have q1:=HW.out.free;have hw0:=HW.out.lt)
 generalize hwb:w1.heap.size=wb at *
 generalize hww:w1.alloc (.cells (wA a b c) 97)=W1 at *
 clear hwb hww
 cases hfx:fixL fe toks with
 | false =>
  have HDD:Hid (d=c):=by rw[Hid,← HD.out,hfx];rfl
  have HFX:=Hid.mk2 hfx
  clear hfx
  go_wp2_with (go_at_call 52;refine (IF _ _ lv kv h0 h4 (HV.out.below HQ.out.bl) (HLV.out.below HQ.out.bl) (HL.out.below HQ.out.bl)).mono ?_;rintro e w2 ⟨rfl,hb2⟩;rw[HFX.out];replace HW:=Hid.mk2 (HW.out.below hb2 HW.out.lt);replace HQ:=Hid.mk2 (HQ.out.below hb2);clear hb2 s0 i0 b0 hr0 r0 r1 r2 p0 p1 p2 q0 q1 hw0;have s0:=HQ.out.sc.cell;have i0:=HQ.out.it.cell;have b0:=HQ.out.bn.cell;have hr0:=HQ.out.rs.lt;have r0:=HQ.out.rs.cell 0;have r1:=HQ.out.rs.cell 1;have r2:=HQ.out.rs.cell 2;have p0:=HQ.out.rs.free 0;have p1:=HQ.out.rs.free 1;have p2:=HQ.out.rs.free 2;have q0:=HW.out.cell;have q1:=HW.out.free;have hw0:=HW.out.lt)
  have hfb:=((HQ.out.rs.set 0 (.int .i64 a)).set 1 (.int .i64 b)).set 2 (.int .i64 c)
  have g0:=hfb.cell 0
  have g1:=hfb.cell 1
  have g2:=hfb.cell 2
  refine bodyPost_ret (v:=.agg #[.int .i64 a,.int .i64 b,.int .i64 c]) (by simp[results,Tryz.results51,go_sem,g0,g1,g2]) rfl ⟨by rw[HDD.out], ?_⟩
  exact sets3 HQ.out.bl (by omega) _ _ _
 | true =>
  have HFX:=Hid.mk2 hfx
  by_cases hb:b=0
  ·have HDD:Hid (d=1):=by rw[Hid,← HD.out,hfx,if_pos ⟨rfl,hb⟩]
   have hbb:((b:Int)==0)=true:=by simp[hb]
   clear hfx hb
   go_wp2_with (go_at_call 52;refine (IF _ _ lv kv h0 h4 (HV.out.below HQ.out.bl) (HLV.out.below HQ.out.bl) (HL.out.below HQ.out.bl)).mono ?_;rintro e w2 ⟨rfl,hb2⟩;rw[HFX.out];replace HW:=Hid.mk2 (HW.out.below hb2 HW.out.lt);replace HQ:=Hid.mk2 (HQ.out.below hb2);clear hb2 s0 i0 b0 hr0 r0 r1 r2 p0 p1 p2 q0 q1 hw0;have s0:=HQ.out.sc.cell;have i0:=HQ.out.it.cell;have b0:=HQ.out.bn.cell;have hr0:=HQ.out.rs.lt;have r0:=HQ.out.rs.cell 0;have r1:=HQ.out.rs.cell 1;have r2:=HQ.out.rs.cell 2;have p0:=HQ.out.rs.free 0;have p1:=HQ.out.rs.free 1;have p2:=HQ.out.rs.free 2;have q0:=HW.out.cell;have q1:=HW.out.free;have hw0:=HW.out.lt)
   have hfb:=(((HQ.out.rs.other ⟨wb,2,none⟩ (.int .i64 1) (by simp only;omega)).set 0 (.int .i64 a)).set 1 (.int .i64 b)).set 2 (.int .i64 1)
   have g0:=hfb.cell 0
   have g1:=hfb.cell 1
   have g2:=hfb.cell 2
   refine bodyPost_ret (v:=.agg #[.int .i64 a,.int .i64 b,.int .i64 1]) (by simp[results,Tryz.results51,go_sem,g0,g1,g2]) rfl ⟨by rw[HDD.out];rfl, ?_⟩
   exact sets3 (HQ.out.bl.setCell (p:=⟨wb,2,none⟩) (by simp only;omega) _) (by omega) _ _ _
  ·have HDD:Hid (d=c):=by rw[Hid,← HD.out,if_neg (fun h=>hb h.2)]
   have hbb:((b:Int)==0)=false:=by simp;omega
   clear hfx hb
   go_wp2_with (go_at_call 52;refine (IF _ _ lv kv h0 h4 (HV.out.below HQ.out.bl) (HLV.out.below HQ.out.bl) (HL.out.below HQ.out.bl)).mono ?_;rintro e w2 ⟨rfl,hb2⟩;rw[HFX.out];replace HW:=Hid.mk2 (HW.out.below hb2 HW.out.lt);replace HQ:=Hid.mk2 (HQ.out.below hb2);clear hb2 s0 i0 b0 hr0 r0 r1 r2 p0 p1 p2 q0 q1 hw0;have s0:=HQ.out.sc.cell;have i0:=HQ.out.it.cell;have b0:=HQ.out.bn.cell;have hr0:=HQ.out.rs.lt;have r0:=HQ.out.rs.cell 0;have r1:=HQ.out.rs.cell 1;have r2:=HQ.out.rs.cell 2;have p0:=HQ.out.rs.free 0;have p1:=HQ.out.rs.free 1;have p2:=HQ.out.rs.free 2;have q0:=HW.out.cell;have q1:=HW.out.free;have hw0:=HW.out.lt)
   have hfb:=((HQ.out.rs.set 0 (.int .i64 a)).set 1 (.int .i64 b)).set 2 (.int .i64 c)
   have g0:=hfb.cell 0
   have g1:=hfb.cell 1
   have g2:=hfb.cell 2
   refine bodyPost_ret (v:=.agg #[.int .i64 a,.int .i64 b,.int .i64 c]) (by simp[results,Tryz.results51,go_sem,g0,g1,g2]) rfl ⟨by rw[HDD.out], ?_⟩
   exact sets3 HQ.out.bl (by omega) _ _ _
end Go.Proofs.YtldfkcpbjooemaaGreatDoor
namespace Go.Proofs.YtldfkcpbjooemaaGreatDoor
open Go.RowKit Go.Deep
theorem Blk.dr3 {w:World} {b:Nat} {cs:Array Value} {t:TypeId} (h:Blk w b cs t):Blk w.drew b cs t:=h
theorem im_al2 {w wx:World} (h:Below w.heap.size w wx) (o:Obj):Below w.heap.size w (wx.alloc o):=h.alloc h.size o
theorem im_set2 {w wx:World} {b:Nat} (h:Below w.heap.size w wx) (i:Nat) (v:Value) (hb:w.heap.size≤b):Below w.heap.size w (wx.setCell ⟨b,i,none⟩ v):=h.setCell (p:=⟨b,i,none⟩) hb v
theorem Bx4.cells {w wx:World} {lv kv:Value} {x:Itm} {y:Bn} (h:Bx4 w wx lv kv x y):wx.cell? ⟨w.heap.size,0,none⟩=some lv∧wx.cell? ⟨w.heap.size,1,none⟩=some kv∧wx.cell? ⟨w.heap.size+1,0,none⟩=some (.int .i64 x.size)∧wx.cell? ⟨w.heap.size+1,1,none⟩=some (.int .i64 x.speed)∧wx.cell? ⟨w.heap.size+1,2,none⟩=some (.int .i64 x.need)∧wx.cell? ⟨w.heap.size+2,0,none⟩=some (.int .i64 y.id)∧wx.cell? ⟨w.heap.size+2,1,none⟩=some (.int .i64 y.zone)∧wx.cell? ⟨w.heap.size+2,2,none⟩=some (.int .i64 y.cap)∧wx.cell? ⟨w.heap.size+2,3,none⟩=some (.int .i64 y.used)∧wx.cell? ⟨w.heap.size+2,4,none⟩=some (.int .i64 y.has) :=
 ⟨h.sc.cell 0,h.sc.cell 1,h.it.cell 0,h.it.cell 1,h.it.cell 2,h.bn.cell 0,h.bn.cell 1,h.bn.cell 2,h.bn.cell 3,h.bn.cell 4⟩
theorem wr1 (c:Nat) (h:c≤100000):wrap64 ((c:Int)+1)=((c+1:Nat):Int)∧IntKind.i64.wrap ((c:Int)+1)=((c+1:Nat):Int) :=
 ⟨(IntWalk.wrap64_in _ ⟨by omega,by omega⟩).trans (by omega),(IntWalk.i64_in _ ⟨by omega,by omega⟩).trans (by omega)⟩
theorem wr0 {a:Int} (h:a=0∨a=1):wrap64 (1 - a)=1 - a∧IntKind.i64.wrap (1 - a)=1 - a:=by
 have:0≤a∧a≤1:=by omega
 exact ⟨IntWalk.wrap64_in _ ⟨by omega,by omega⟩,IntWalk.i64_in _ ⟨by omega,by omega⟩⟩
def oneA (op:Txt) (a:Int) (b c:Nat):Int × Nat × Nat:=if b≠0 then (a,b,c) else if op=cNot then (1 - a,0,c+1) else ((joinN 5 0 a).1,(joinN 5 0 a).2,c+1)
set_option maxHeartbeats 4000000 in
set_option maxRecDepth 100000 in
theorem work_un (l:List Stm) (L:List RSt) (x:Itm) (y:Bn) (t:Tr) (ht:t.wf) (op:RTok) (e:Tr) (hs:t.strip=.un op e) (a:Int) (b c:Nat) (ha:In64 a) (ha1:b=0→op.text=cNot→a=0∨a=1) (hc:c≤100000) (IV:ValOk l L x y e.toks a b c) :
  WorkOk l L x y t.toks (oneA op.text a b c).1 (oneA op.text a b c).2.1 (oneA op.text a b c).2.2:=by
 intro v w lv kv h0 h4 hv hlv hL
 have HSW:Hid (Tr.un op e).wf:=(hs ▸ t.strip_wf ht:(Tr.un op e).wf)
 have HLN:Hid ((Tr.un op e).toks.length=e.toks.length+1):=by rw[Hid];simp[Tr.toks_un]
 have h4':(Tr.un op e).toks.length≤400:=by rw[← hs];exact Nat.le_trans t.strip_len h4
 have hep:=e.toks_pos
 have HRT:Hid (rootR (Tr.un op e).toks=-1):=root_none _ HSW.out rfl
 have h00:0 < (Tr.un op e).toks.length:=by have:=HLN.out;omega
 have HQ:=Hid.mk2 (Bx4.start w lv kv x y)
 have HV:=Hid.mk2 hv
 have HLV:=Hid.mk2 hlv
 have HL:=Hid.mk2 hL
 have HS:=Hid.mk2 hs
 have HA:=Hid.mk2 ha
 have HA1:=Hid.mk2 ha1
 obtain ⟨r1,hr1⟩:∃ r,oneA op.text a b c=r:=⟨_,rfl⟩
 rw[hr1]
 have HR1:=Hid.mk2 hr1
 clear hv hlv hL hs ha ha1 hr1
 unfold itmA bnA
 go_enter Tryz.func87,Tryz.ntmps87
 go_upto_region 1 with fail
 generalize (((w.alloc (.cells #[lv,kv] 42)).alloc (.cells #[.int .i64 x.size,.int .i64 x.speed,.int .i64 x.need] 26)).alloc (.cells #[.int .i64 y.id,.int .i64 y.zone,.int .i64 y.cap,.int .i64 y.used,.int .i64 y.has] 28)).alloc (.cells (wA 0 0 0) 97)=W at HQ ⊢
 go_upto_region 7 with (first
  | (go_at_call 100;refine (inside_any t ht _ _ h4 (HV.out.below HQ.out.bl)).mono ?_;rintro e' wi ⟨⟨v',rfl,hr'⟩,hwi⟩;subst wi;rw[HS.out] at hr';have HR':=Hid.mk2 hr';clear hr';obtain ⟨g,o,cap,rfl,hncap,hlt,hc0⟩:=HR'.out.pos h00;have HC:=Hid.mk2 hc0;clear hc0)
  | (go_at_call 101;refine (root_any (Tr.un op e).toks _ _ h00 h4' HR'.out).mono ?_;rintro e' wi ⟨rfl,hwi⟩;subst wi;rw[HRT.out])
  | (go_at_call 102;refine (one_any (Tr.un op e) HSW.out rfl (by intro _ _ _ h;cases h) _ _ h4' HR'.out).mono ?_;rintro e' wi ⟨rfl,hwi⟩;subst wi;simp only[Tr.isUn_un]))
 have hsl2:=fun wx=>sl_l g o (Tr.un op e).toks.length cap 1 1 (by omega) (by have:=HLN.out;omega) (by have:=HLN.out;omega) wx
 have HRA:Hid (Reads W (.slice (some ⟨g,o+1 * 2,none⟩) ((Tr.un op e).toks.length - 1) (cap - 1)) e.toks.length (cellsR e.toks)):=by
  unfold Hid
  have:=reads_mid [op] e.toks [] (by simp[Tr.toks_un]) hlt (cap:=cap - 1) (by have:=HLN.out;omega) HC.out
  rw[show (Tr.un op e).toks.length - 1=e.toks.length by have:=HLN.out;omega]
  exact this
 have HOP:Hid (∀ wx,Below W.heap.size W wx→wx.cell? ⟨g,o,none⟩=some (.string (bsOf op.text))):=fun wx hb=>(hb.cell (p:=⟨g,o,none⟩) hlt).trans (HC.out 0 _ (cellsR_get (Tr.un op e).toks 0 h00).1)
 have HCELL:Hid (∀ wx,Below W.heap.size W wx→wx.cell? ⟨w.heap.size,0,none⟩=some lv∧wx.cell? ⟨w.heap.size,1,none⟩=some kv∧wx.cell? ⟨w.heap.size+1,0,none⟩=some (.int .i64 x.size)∧wx.cell? ⟨w.heap.size+1,1,none⟩=some (.int .i64 x.speed)∧wx.cell? ⟨w.heap.size+1,2,none⟩=some (.int .i64 x.need)∧wx.cell? ⟨w.heap.size+2,0,none⟩=some (.int .i64 y.id)∧wx.cell? ⟨w.heap.size+2,1,none⟩=some (.int .i64 y.zone)∧wx.cell? ⟨w.heap.size+2,2,none⟩=some (.int .i64 y.cap)∧wx.cell? ⟨w.heap.size+2,3,none⟩=some (.int .i64 y.used)∧wx.cell? ⟨w.heap.size+2,4,none⟩=some (.int .i64 y.has)):=fun wx hb=>(HQ.out.below hb).cells
 have HRD:Hid (∀ wx,Below W.heap.size W wx→Reads wx (.slice (some ⟨g,o+1 * 2,none⟩) ((Tr.un op e).toks.length - 1) (cap - 1)) e.toks.length (cellsR e.toks)∧Reads wx lv l.length (cellsS l)∧LetsIn wx l L):=fun wx hb=>⟨HRA.out.below hb,(HLV.out.below HQ.out.bl).below hb,(HL.out.below HQ.out.bl).below hb⟩
 have hep4:e.toks.length≤400:=by have:=HLN.out;omega
 have hr0:=HQ.out.rs.lt
 have HB:=Hid.mk2 (Below.refl W.heap.size W)
 go_cut [11] (fun s11 wx=>∃ zb,s11=.pointer (some ⟨zb,0,none⟩)∧Blk wx zb (wA a b c) 97∧Below W.heap.size W wx)
 case first =>
   obtain ⟨k0,k1,k2,k3,k4,k5,k6,k7,k8,k9⟩:=HCELL.out _ HB.out
   go_region_held3 (fun w'=>w'.cell? ⟨w.heap.size,0,none⟩=some lv∧w'.cell? ⟨w.heap.size,1,none⟩=some kv∧w'.cell? ⟨w.heap.size+1,0,none⟩=some (.int .i64 x.size)∧w'.cell? ⟨w.heap.size+1,1,none⟩=some (.int .i64 x.speed)∧w'.cell? ⟨w.heap.size+1,2,none⟩=some (.int .i64 x.need)∧w'.cell? ⟨w.heap.size+2,0,none⟩=some (.int .i64 y.id)∧w'.cell? ⟨w.heap.size+2,1,none⟩=some (.int .i64 y.zone)∧w'.cell? ⟨w.heap.size+2,2,none⟩=some (.int .i64 y.cap)∧w'.cell? ⟨w.heap.size+2,3,none⟩=some (.int .i64 y.used)∧w'.cell? ⟨w.heap.size+2,4,none⟩=some (.int .i64 y.has)) (first | with_reducible exact HCELL.out _ HB.out | with_reducible exact HCELL.out _ (im_dr3 HB.out) | with_reducible exact HCELL.out _ (im_al2 HB.out _) | with_reducible exact HCELL.out _ (im_dr3 (im_al2 HB.out _)) | with_reducible exact HCELL.out _ (im_set2 (im_set2 (im_set2 HB.out 0 _ (by omega)) 1 _ (by omega)) 2 _ (by omega))) ((go_at_call 51;refine (IV _ _ lv kv hep hep4 (HRD.out _ (by first | with_reducible exact HB.out | with_reducible exact im_dr3 HB.out | with_reducible exact im_al2 HB.out _ | with_reducible exact im_dr3 (im_al2 HB.out _))).1 (HRD.out _ (by first | with_reducible exact HB.out | with_reducible exact im_dr3 HB.out | with_reducible exact im_al2 HB.out _ | with_reducible exact im_dr3 (im_al2 HB.out _))).2.1 (HRD.out _ (by first | with_reducible exact HB.out | with_reducible exact im_dr3 HB.out | with_reducible exact im_al2 HB.out _ | with_reducible exact im_dr3 (im_al2 HB.out _))).2.2).mono ?_;rintro e' w3 ⟨rfl,hb3⟩;(first | (replace HB:=Hid.mk2 (show Below W.heap.size W w3 by with_reducible exact im_step2 (im_dr3 HB.out) hb3)) | (have hZ:=(Blk.new W #[.int .i64 0,.int .i64 0,.int .i64 0] 97).dr3.below hb3 (by simp);replace HB:=Hid.mk2 (show Below W.heap.size W w3 by with_reducible exact im_step2 (im_dr3 (im_al2 HB.out (.cells #[.int .i64 0,.int .i64 0,.int .i64 0] 97))) hb3)) | (replace HB:=Hid.mk2 (show Below W.heap.size W w3 by with_reducible exact im_step2 HB.out hb3)) | (have hZ:=(Blk.new W #[.int .i64 0,.int .i64 0,.int .i64 0] 97).below hb3 (by simp);replace HB:=Hid.mk2 (show Below W.heap.size W w3 by with_reducible exact im_step2 (im_al2 HB.out (.cells #[.int .i64 0,.int .i64 0,.int .i64 0] 97)) hb3)));clear hb3;have hl3:=HB.out.size;try (have z0:=hZ.cell 0;have z1:=hZ.cell 1;have z2:=hZ.cell 2;have y0:=hZ.free 0;have y1:=hZ.free 1;have y2:=hZ.free 2)))
   all_goals
    go_wp2_with fail
    go_meet
    case rel=>first | exact ⟨_,rfl,Blk.new w3 _ _,im_al2 HB.out _⟩ | exact ⟨_,rfl,((hZ.set 0 _).set 1 _).set 2 _,im_set2 (im_set2 (im_set2 HB.out 0 _ (by omega)) 1 _ (by omega)) 2 _ (by omega)⟩
 case rest =>
  obtain ⟨zb,rfl,hz,hb⟩:=hcut
  clear HB
  have HZ:=Hid.mk2 hz
  have HB:=Hid.mk2 hb
  have tx:=HOP.out _ hb
  have HQ2:=Hid.mk2 (HQ.out.below hb)
  have z0:=hz.cell;have zf:=hz.free;have hzl:=hz.lt
  have r0:=HQ2.out.rs.cell;have rf:=HQ2.out.rs.free;have hrl:=HQ2.out.rs.lt
  clear hz hb
  have HOPT:Hid (op.text=cMinus∨op.text=cNot):=by have:=(Tr.wf_un HSW.out).1;simp only[unT,Bool.or_eq_true,beq_iff_eq] at this;exact this
  by_cases hb0:b=0
  ·have hbb:((b:Int) != 0)=false:=by simp[hb0]
   by_cases hnot:op.text=cNot
   ·have HRE:Hid (r1=(1 - a,0,c+1)):=by rw[Hid,← HR1.out,oneA,if_neg (fun h=>h hb0),if_pos hnot]
    have hw1:=(wr0 (HA1.out hb0 hnot)).1
    have hw2:=(wr1 c hc).1
    have hw3:=(wr0 (HA1.out hb0 hnot)).2
    have hw4:=(wr1 c hc).2
    rw[hnot] at tx
    have tx2:_=some (Value.string { data:=#[110,111,116] }):=tx
    clear hb0 hnot tx
    go_wp2
    have hfb:=((HQ2.out.rs.set 0 (.int .i64 (1 - a))).set 1 (.int .i64 0)).set 2 (.int .i64 ((c:Int)+1))
    have g0:=hfb.cell 0
    have g1:=hfb.cell 1
    have g2:=hfb.cell 2
    refine bodyPost_ret (v:=.agg #[.int .i64 (1 - a),.int .i64 0,.int .i64 ((c:Int)+1)]) (by simp[results,Tryz.results87,go_sem,g0,g1,g2]) rfl ⟨by rw[HRE.out] <;> rfl, ?_⟩
    exact sets3 HQ2.out.bl (by omega) _ _ _
   ·have hmin:op.text=cMinus:=HOPT.out.resolve_right hnot
    have HRE:Hid (r1=((joinN 5 0 a).1,(joinN 5 0 a).2,c+1)):=by rw[Hid,← HR1.out,oneA,if_neg (fun h=>h hb0),if_neg hnot]
    have hw2:=(wr1 c hc).1
    have hw4:=(wr1 c hc).2
    rw[hmin] at tx
    have tx2:_=some (Value.string { data:=#[45] }):=tx
    obtain ⟨j1,hj1⟩:∃ j,(joinN 5 0 a).1=j:=⟨_,rfl⟩
    obtain ⟨j2,hj2⟩:∃ j,(joinN 5 0 a).2=j:=⟨_,rfl⟩
    rw[hj1,hj2] at HRE
    have HJ:=Hid.mk2 hj1
    have HJ2:=Hid.mk2 hj2
    clear hb0 hnot hmin tx hj1 hj2
    go_wp2_with (go_at_call 46;refine (Joined_any 5 ⟨by omega,by omega⟩ 0 a (by decide) HA.out _).mono ?_;rintro e' wj ⟨rfl,hwj⟩;subst wj;rw[HJ.out,HJ2.out])
    have hfb:=((HQ2.out.rs.set 0 (.int .i64 j1)).set 1 (.int .i64 j2)).set 2 (.int .i64 ((c:Int)+1))
    have g0:=hfb.cell 0
    have g1:=hfb.cell 1
    have g2:=hfb.cell 2
    refine bodyPost_ret (v:=.agg #[.int .i64 j1,.int .i64 j2,.int .i64 ((c:Int)+1)]) (by simp[results,Tryz.results87,go_sem,g0,g1,g2]) rfl ⟨by rw[HRE.out] <;> rfl, ?_⟩
    exact sets3 HQ2.out.bl (by omega) _ _ _
  ·have hbb:((b:Int) != 0)=true:=by simp;omega
   have HRE:Hid (r1=(a,b,c)):=by rw[Hid,← HR1.out,oneA,if_pos hb0]
   clear hb0
   go_wp2
   have hfb:=((HQ2.out.rs.set 0 (.int .i64 a)).set 1 (.int .i64 b)).set 2 (.int .i64 c)
   have g0:=hfb.cell 0
   have g1:=hfb.cell 1
   have g2:=hfb.cell 2
   refine bodyPost_ret (v:=.agg #[.int .i64 a,.int .i64 b,.int .i64 c]) (by simp[results,Tryz.results87,go_sem,g0,g1,g2]) rfl ⟨by rw[HRE.out] <;> rfl, ?_⟩
   exact sets3 HQ2.out.bl (by omega) _ _ _
end Go.Proofs.YtldfkcpbjooemaaGreatDoor
