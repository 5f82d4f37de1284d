/-
  The program's look: one operation looked at.
-/
import Derived.Test.YtpcjadaeolkngaaGreatDoorK27
import Derived.Deep.RegionHeld3
import Derived.Deep.Cut
import Derived.Test.YtpcjadaeolkngaaGreatDoorK17
set_option linter.unusedVariables false
set_option linter.unusedSimpArgs false
namespace Go.Proofs.YtpcjadaeolkngaaGreatDoor
open Go.RowKit
def insCells (c:Nat) (a:Int) (nx:Nat):Array Value:=#[.int .i64 c,.int .i64 a,.int .i64 nx]
structure LookAt (w0 w:World) (B vb hb:Nat) (s:ByteArray) (H:Nat→Int) (wg:Bool) (xb:Nat) (c:Nat) (a:Int) (nx:Nat):Prop where
 v:VStv w vb hb s (bt s 2) H wg
 x:Blk w xb (insCells c a nx) 131
 g:GlobP w
 bl:Below B w0 w
 ne:xb≠vb∧xb≠hb
 hB:B≤vb∧B≤hb
 hG:0 < B∧1 < B∧2 < B
section
variable {w0 w w':World} {B vb hb:Nat} {s:ByteArray} {H H':Nat→Int} {wg wg':Bool} {xb c:Nat} {a:Int} {nx:Nat}
theorem LookAt.d0 (h:LookAt w0 w B vb hb s H wg xb c a nx):w.cell? ⟨xb,0,none⟩=some (.int .i64 c):=by rw[h.x.cell];rfl
theorem LookAt.d1 (h:LookAt w0 w B vb hb s H wg xb c a nx):w.cell? ⟨xb,1,none⟩=some (.int .i64 a):=by rw[h.x.cell];rfl
theorem LookAt.d2 (h:LookAt w0 w B vb hb s H wg xb c a nx):w.cell? ⟨xb,2,none⟩=some (.int .i64 nx):=by rw[h.x.cell];rfl
theorem LookAt.below (h:LookAt w0 w B vb hb s H wg xb c a nx) (hb':Below w.heap.size w w'):LookAt w0 w' B vb hb s H wg xb c a nx :=
 ⟨h.v.below hb',h.x.below hb' h.x.lt,h.g.below hb',h.bl.trans (hb'.mono (Nat.le_of_lt (Nat.lt_of_le_of_lt h.hB.1 h.v.st.lt))),h.ne,h.hB,h.hG⟩
theorem LookAt.drew (h:LookAt w0 w B vb hb s H wg xb c a nx):LookAt w0 w.drew B vb hb s H wg xb c a nx:=⟨h.v.drew,h.x,h.g.drew,h.bl.drew,h.ne,h.hB,h.hG⟩
theorem LookAt.wrong (h:LookAt w0 w B vb hb s H wg xb c a nx):LookAt w0 (w.setCell ⟨vb,3,none⟩ (.bool true)) B vb hb s H true xb c a nx:=by
 have hs:Below B w (w.setCell ⟨vb,3,none⟩ (.bool true)):=(Below.refl B w).setCell (p:=⟨vb,3,none⟩) h.hB.1 _
 exact ⟨h.v.wrong,h.x.other _ _ h.ne.1,h.g.belowB hs h.hG.1 h.hG.2.1 h.hG.2.2,h.bl.trans hs,h.ne,h.hB,h.hG⟩
theorem LookAt.only (h:LookAt w0 w B vb hb s H wg xb c a nx) (hv:VStv w' vb hb s (bt s 2) H' wg') (hb':Below B w w') (ho:∀ b,b≠vb→b≠hb→w'.heap[b]?=w.heap[b]?):LookAt w0 w' B vb hb s H' wg' xb c a nx :=
 ⟨hv,by have:=h.x;unfold Blk at this ⊢;rw[ho xb h.ne.1 h.ne.2];exact this,h.g.belowB hb' h.hG.1 h.hG.2.1 h.hG.2.2,h.bl.trans hb',h.ne,h.hB,h.hG⟩
end
theorem Hid.mk' {p:Prop} (h:p):Hid p:=h
theorem look_start {w w1:World} {B vb hb:Nat} {s:ByteArray} {H:Nat→Int} {c:Nat} {a:Int} {nx:Nat} (hB:B≤vb∧B≤hb) (hG:0 < B∧1 < B∧2 < B) (hBw:B≤w.heap.size) (hv:VStv w1 vb hb s (bt s 2) H false) (hg:GlobP w1) (hb1:Below w.heap.size w w1) :
  LookAt w (w1.alloc (.cells #[.int .i64 c,.int .i64 a,.int .i64 nx] 131)) B vb hb s H false w1.heap.size c a nx :=
 ⟨hv.below (box3 _ _),Blk.new _ _ _,hg.below (box3 _ _),((hb1.mono hBw).trans ((Below.refl B w1).alloc (Nat.le_trans hBw hb1.size) _)),⟨by have:=hv.st.lt;omega,by have:=hv.ht.lt;omega⟩,hB,hG⟩
theorem Takes_c (c:Nat) (a:Int) (nx:Nat) (hc:c≤17) (w:World) (hg:GlobP w) :
  Calls Tryz.prog 80 #[.agg #[.int .i64 c,.int .i64 a,.int .i64 nx]] w fun e w'=>e=.returned (.int .i64 (takesN c))∧Below w.heap.size w w':=Takes_any ⟨0,c,a,nx⟩ hc w hg
theorem Lays_c (c:Nat) (a:Int) (nx:Nat) (hc:c≤17) (w:World) (hg:GlobP w) :
  Calls Tryz.prog 83 #[.agg #[.int .i64 c,.int .i64 a,.int .i64 nx]] w fun e w'=>e=.returned (.int .i64 (laysN c))∧Below w.heap.size w w':=Lays_any ⟨0,c,a,nx⟩ hc w hg
theorem Ends_c (c:Nat) (a:Int) (nx:Nat) (w:World) :
  Calls Tryz.prog 82 #[.agg #[.int .i64 c,.int .i64 a,.int .i64 nx]] w fun e w'=>e=.returned (.bool (((c:Int)==16)||((c:Int)==17)))∧Below w.heap.size w w':=Ends_any ⟨0,c,a,nx⟩ w
theorem Jumps_c (c:Nat) (a:Int) (nx:Nat) (w:World) :
  Calls Tryz.prog 84 #[.agg #[.int .i64 c,.int .i64 a,.int .i64 nx]] w fun e w'=>e=.returned (.bool ((((c:Int)==13)||((c:Int)==14))||((c:Int)==15)))∧Below w.heap.size w w':=Jumps_any ⟨0,c,a,nx⟩ w
theorem Target_c (c:Nat) (a:Int) (nx:Nat) (h1:0≤a) (h2:a≤65535) (h3:nx≤100000) (w:World) :
  Calls Tryz.prog 85 #[.agg #[.int .i64 c,.int .i64 a,.int .i64 nx]] w fun e w'=>e=.returned (.int .i64 ((nx:Int)+a))∧Below w.heap.size w w':=Target_any ⟨0,c,a,nx⟩ h1 h2 h3 w
set_option maxHeartbeats 2000000 in
set_option maxRecDepth 100000 in
theorem vlook_any (s:ByteArray) (hs:s.size≤4000) (p:Nat) (hp:p < s.size) (w:World) (B vb hb:Nat) (hB:B≤vb∧B≤hb) (hG:0 < B∧1 < B∧2 < B)
  (H:Nat→Int) (h:VStv w vb hb s (bt s 2) H false) (hg:GlobP w) (l0:List Ins) (hF:Found s (bt s 2) H p l0) :
  Calls Tryz.prog 52 #[.pointer (some ⟨vb,0,none⟩),.int .i64 p] w fun e w'=>Below B w w'∧∃ (nx:Nat) (H':Nat→Int) (wg:Bool),e=.returned (.int .i64 nx)∧VStv w' vb hb s (bt s 2) H' wg∧p < nx∧nx≤s.size∧LookedV s nx H' wg:=by
 have c0:=h.c0
 have HV:Hid (VStv w vb hb s (bt s 2) H false):=h
 have HG:Hid (GlobP w):=hg
 have HF:Hid (Found s (bt s 2) H p l0):=hF
 have hBw:B≤w.heap.size:=Nat.le_of_lt (Nat.lt_of_le_of_lt hB.1 h.st.lt)
 clear h hg hF
 by_cases hop:OpOkI s p
 case neg =>
  have HK:Hid (¬ OpOkI s p):=hop
  clear hop
  go_enter Tryz.func52,Tryz.ntmps52
  go_wp2_with (go_at_call 55;refine (At_any s hs p (by omega) _ HG.out.y).mono ?_;rintro e w1 ⟨hb1,hor⟩;obtain ⟨_,rfl⟩:=hor.resolve_left (fun h=>HK.out h.1);unfold noV;have hv1:Hid (VStv (w1.alloc (.cells #[.int .i64 0,.int .i64 0,.int .i64 0] 131)) vb hb s (bt s 2) H false):=(HV.out.below hb1).below (box3 _ _);have f3:=hv1.out.st.free 3;have c3:=hv1.out.c3;have c0':=hv1.out.wrong.c0)
  go_ret
  exact ⟨(hb1.mono hBw).trans (((Below.refl B w1).alloc (Nat.le_trans hBw hb1.size) _).setCell (p:=⟨vb,3,none⟩) hB.1 _),s.size,H,true,rfl,hv1.out.wrong,hp,Nat.le_refl _,.inl ⟨rfl,HF.out.bad_op hp HK.out⟩⟩
 have HK:Hid (OpOkI s p):=hop
 obtain ⟨c,hc⟩:∃ c,c=bt s p:=⟨_,rfl⟩
 obtain ⟨a,ha⟩:∃ a,a=(mkIns s p).arg:=⟨_,rfl⟩
 obtain ⟨nx,hnx⟩:∃ nx,nx=(mkIns s p).next:=⟨_,rfl⟩
 have HOV:Hid (opV (mkIns s p)=.agg #[.int .i64 c,.int .i64 a,.int .i64 nx]):=(by rw[hc,ha,hnx];rfl:_=_)
 have h17:c≤17:=by rw[hc];exact hop.2.1
 have hpn:p < nx:=by rw[hnx];exact next_pos s p
 have hfit:nx≤s.size:=by rw[hnx];exact hop.2.2.1
 have hja:c=13∨c=14∨c=15→0≤a∧a≤65535:=by
  intro h
  have h1:=jump_arg s p (by rw[hc] at h;exact h)
  have:=lowU_two s (p+1)
  omega
 have hlo:-1≤H p:=HF.out.low p
 have hhi:H p≤bt s 2:=HF.out.high p
 have hmo:bt s 2 < 256:=bt_lt s 2
 obtain ⟨tk,htk⟩:∃ tk,tk=takesN c:=⟨_,rfl⟩
 obtain ⟨ly,hly⟩:∃ ly,ly=laysN c:=⟨_,rfl⟩
 have htk2:tk≤2:=by rw[htk];unfold takesN;(repeat' split) <;> omega
 have hly1:ly≤1:=by rw[hly];unfold laysN;split <;> omega
 have HTk:Hid (takesN c=tk):=htk.symm
 have HLy:Hid (laysN c=ly):=hly.symm
 have HAf:Hid (aft s H p=H p - tk+ly):=(by unfold aft;rw[htk,hly,hc]:_=_)
 have HC:Hid (bt s p=c):=hc.symm
 have HNx:Hid ((mkIns s p).next=nx):=hnx.symm
 have HAr:Hid ((mkIns s p).arg=a):=ha.symm
 have hw1:wrong1 s H p=decide (H p=-1∨H p < tk):=by unfold wrong1;rw[htk,hc]
 have HW0:Hid (∀ b,wrong1 s H p=b→insideW H b (p+1) nx=wrong2 s H p):=(by intro b hb;unfold wrong2;rw[hb,hnx]:∀ b,wrong1 s H p=b→insideW H b (p+1) nx=wrong2 s H p)
 have hcase:((H p==-1)=true∧wrong1 s H p=true)∨((H p==-1)=false∧decide (H p < tk)=true∧wrong1 s H p=true)∨((H p==-1)=false∧decide (H p < tk)=false∧wrong1 s H p=false):=by
  rw[hw1]
  by_cases e1:H p=-1
  ·exact .inl ⟨by simpa using e1,by simp[e1]⟩
  ·by_cases e2:H p < tk
   ·exact .inr (.inl ⟨by simpa using e1,by simpa using e2,by simp[e2]⟩)
   ·exact .inr (.inr ⟨by simpa using e1,by simpa using e2,by simp[e1,e2]⟩)
 clear hop hc ha hnx htk hly hw1
 rcases hcase with ⟨hh1,hw⟩ | ⟨hh1,hh2,hw⟩ | ⟨hh1,hh2,hw⟩
 all_goals
  have HW2:=Hid.mk' (HW0.out _ hw)
  clear hw
  go_enter Tryz.func52,Tryz.ntmps52
  go_upto_region 9 with (first | (go_at_call 55;refine (At_any s hs p (by omega) _ HG.out.y).mono ?_;rintro e w1 ⟨hb1,hor⟩;obtain ⟨_,rfl⟩:=hor.resolve_right (fun h=>h.1 HK.out);rw[HOV.out];have hv1:=HV.out.below hb1;have HL:Hid (LookAt w (w1.alloc (.cells #[.int .i64 c,.int .i64 a,.int .i64 nx] 131)) B vb hb s H false w1.heap.size c a nx):=look_start hB hG hBw hv1 (HG.out.below hb1) hb1;have d0:=HL.out.d0;have d1:=HL.out.d1;have d2:=HL.out.d2;have f3:=HL.out.v.st.free 3;have c3:=HL.out.v.c3) | (go_at_call 79;refine (heightAt_any hs p hp HL.out.v).mono ?_;rintro e w' ⟨rfl,rfl⟩) | (go_at_call 80;refine (Takes_c c a nx h17 _ HL.out.g).mono ?_;rintro e w2 ⟨rfl,hb2⟩;rw[HTk.out];replace HL:=Hid.mk' (HL.out.below hb2);have d0:=HL.out.d0;have d1:=HL.out.d1;have d2:=HL.out.d2;have f3:=HL.out.v.st.free 3;have c3:=HL.out.v.c3) | (go_at_call 81;refine (refuseInside_any hs B hB (p+1) nx (by omega) hfit (by first | exact HL.out.v | exact HL.out.wrong.v)).mono ?_;rintro e w3 ⟨rfl,hv3,hbl3,hsz3,ho3⟩;rw[HW2.out] at hv3;replace HL:=Hid.mk' (by first | exact HL.out.only hv3 hbl3 ho3 | exact HL.out.wrong.only hv3 hbl3 ho3:LookAt w w3 B vb hb s H (wrong2 s H p) w1.heap.size c a nx);have d0:=HL.out.d0;have d1:=HL.out.d1;have d2:=HL.out.d2;have f3:=HL.out.v.st.free 3;have c3:=HL.out.v.c3))
  have hk:(c=16∨c=17)∨c=13∨(c=14∨c=15)∨(c≠13∧c≠14∧c≠15∧c≠16∧c≠17):=by omega
  rcases hk with hk | hk | hk | hk
  ·have e16:(((c:Int)==16)||((c:Int)==17))=true:=by rcases hk with h | h <;> simp[h]
   have HKd:Hid (c=16∨c=17):=hk
   clear hk hja
   go_wp2_with (go_at_call 82;refine (Ends_c c a nx _).mono ?_;rintro e w2 ⟨rfl,hb2⟩;rw[e16];replace HL:=Hid.mk' (HL.out.below hb2);have d0:=HL.out.d0;have d1:=HL.out.d1;have d2:=HL.out.d2;have f3:=HL.out.v.st.free 3;have c3:=HL.out.v.c3)
   go_ret
   have:=looked_ends HF.out hp HK.out (by rw[HC.out];exact HKd.out)
   rw[HNx.out] at this
   exact ⟨HL.out.bl,nx,H,_,rfl,HL.out.v,hpn,hfit,this⟩
  ·have e16:(((c:Int)==16)||((c:Int)==17))=false:=by simp[hk]
   have eJ:((((c:Int)==13)||((c:Int)==14))||((c:Int)==15))=true:=by simp[hk]
   have e13:((c:Int)==13)=true:=by simp[hk]
   have e13':((c:Int) != 13)=false:=by simp[hk]
   have HKd:Hid (c=13):=hk
   obtain ⟨ha0,ha6⟩:=hja (.inl hk)
   obtain ⟨q,hq⟩:∃ q:Nat,(nx:Int)+a=q:=⟨((nx:Int)+a).toNat,by omega⟩
   have HQ:Hid ((nx:Int)+a=(q:Nat)):=hq
   have HTo:Hid ((mkIns s p).to=q):=(by unfold Ins.to;rw[HNx.out,HAr.out,hq];simp:(mkIns s p).to=q)
   clear hq
   clear hk hja
   go_wp2_with (go_at_call 82;refine (Ends_c c a nx _).mono ?_;rintro e w2 ⟨rfl,hb2⟩;rw[e16];replace HL:=Hid.mk' (HL.out.below hb2);have d0:=HL.out.d0;have d1:=HL.out.d1;have d2:=HL.out.d2;have f3:=HL.out.v.st.free 3;have c3:=HL.out.v.c3)
   go_region_held3 (fun w'=>w'.cell? ⟨w1.heap.size,0,none⟩=some (.int .i64 c)∧w'.cell? ⟨w1.heap.size,1,none⟩=some (.int .i64 a)∧w'.cell? ⟨w1.heap.size,2,none⟩=some (.int .i64 nx)) (go_keep) (first | (go_at_call 80;refine (Takes_c c a nx h17 _ HL.out.drew.g).mono ?_;rintro e w2 ⟨rfl,hb2⟩;rw[HTk.out];replace HL:=Hid.mk' (HL.out.drew.below hb2);have d0:=HL.out.d0;have d1:=HL.out.d1;have d2:=HL.out.d2;have f3:=HL.out.v.st.free 3;have c3:=HL.out.v.c3) | (go_at_call 80;refine (Takes_c c a nx h17 _ HL.out.g).mono ?_;rintro e w2 ⟨rfl,hb2⟩;rw[HTk.out];replace HL:=Hid.mk' (HL.out.below hb2);have d0:=HL.out.d0;have d1:=HL.out.d1;have d2:=HL.out.d2;have f3:=HL.out.v.st.free 3;have c3:=HL.out.v.c3) | (go_at_call 83;refine (Lays_c c a nx h17 _ HL.out.drew.g).mono ?_;rintro e w2 ⟨rfl,hb2⟩;rw[HLy.out];replace HL:=Hid.mk' (HL.out.drew.below hb2);have d0:=HL.out.d0;have d1:=HL.out.d1;have d2:=HL.out.d2;have f3:=HL.out.v.st.free 3;have c3:=HL.out.v.c3) | (go_at_call 83;refine (Lays_c c a nx h17 _ HL.out.g).mono ?_;rintro e w2 ⟨rfl,hb2⟩;rw[HLy.out];replace HL:=Hid.mk' (HL.out.below hb2);have d0:=HL.out.d0;have d1:=HL.out.d1;have d2:=HL.out.d2;have f3:=HL.out.v.st.free 3;have c3:=HL.out.v.c3))
   all_goals
    go_wp2_with (first | (go_at_call 84;refine (Jumps_c c a nx _).mono ?_;rintro e w2 ⟨rfl,hb2⟩;rw[eJ];replace HL:=Hid.mk' (HL.out.below hb2);have d0:=HL.out.d0;have d1:=HL.out.d1;have d2:=HL.out.d2;have f3:=HL.out.v.st.free 3;have c3:=HL.out.v.c3) | (go_at_call 85;refine (Target_c c a nx ha0 ha6 (by omega) _).mono ?_;rintro e w2 ⟨rfl,hb2⟩;rw[HQ.out];replace HL:=Hid.mk' (HL.out.below hb2);have d0:=HL.out.d0;have d1:=HL.out.d1;have d2:=HL.out.d2;have f3:=HL.out.v.st.free 3;have c3:=HL.out.v.c3) | (go_at_call 51;refine (reach_any hs B hB _ _ HL.out.v).mono ?_;rintro e w4 ⟨rfl,hv4,hbl4,hsz4,ho4⟩;replace HL:=Hid.mk' (HL.out.only hv4 hbl4 ho4);have d0:=HL.out.d0;have d1:=HL.out.d1;have d2:=HL.out.d2;have f3:=HL.out.v.st.free 3;have c3:=HL.out.v.c3))
    go_ret
    have:=looked_one HF.out hp HK.out (LookedV.jump_op (by rw[HC.out];exact HKd.out))
    rw[HNx.out,HTo.out,HAf.out] at this
    exact ⟨HL.out.bl,nx,_,_,rfl,HL.out.v,hpn,hfit,this⟩
  ·have e16:(((c:Int)==16)||((c:Int)==17))=false:=by rcases hk with h | h <;> simp[h]
   have eJ:((((c:Int)==13)||((c:Int)==14))||((c:Int)==15))=true:=by rcases hk with h | h <;> simp[h]
   have e13:((c:Int)==13)=false:=by rcases hk with h | h <;> simp[h]
   have e13':((c:Int) != 13)=true:=by rcases hk with h | h <;> simp[h]
   have HKd:Hid (c=14∨c=15):=hk
   obtain ⟨ha0,ha6⟩:=hja (.inr hk)
   obtain ⟨q,hq⟩:∃ q:Nat,(nx:Int)+a=q:=⟨((nx:Int)+a).toNat,by omega⟩
   have HQ:Hid ((nx:Int)+a=(q:Nat)):=hq
   have HTo:Hid ((mkIns s p).to=q):=(by unfold Ins.to;rw[HNx.out,HAr.out,hq];simp:(mkIns s p).to=q)
   clear hq
   clear hk hja
   go_wp2_with (go_at_call 82;refine (Ends_c c a nx _).mono ?_;rintro e w2 ⟨rfl,hb2⟩;rw[e16];replace HL:=Hid.mk' (HL.out.below hb2);have d0:=HL.out.d0;have d1:=HL.out.d1;have d2:=HL.out.d2;have f3:=HL.out.v.st.free 3;have c3:=HL.out.v.c3)
   go_region_held3 (fun w'=>w'.cell? ⟨w1.heap.size,0,none⟩=some (.int .i64 c)∧w'.cell? ⟨w1.heap.size,1,none⟩=some (.int .i64 a)∧w'.cell? ⟨w1.heap.size,2,none⟩=some (.int .i64 nx)) (go_keep) (first | (go_at_call 80;refine (Takes_c c a nx h17 _ HL.out.drew.g).mono ?_;rintro e w2 ⟨rfl,hb2⟩;rw[HTk.out];replace HL:=Hid.mk' (HL.out.drew.below hb2);have d0:=HL.out.d0;have d1:=HL.out.d1;have d2:=HL.out.d2;have f3:=HL.out.v.st.free 3;have c3:=HL.out.v.c3) | (go_at_call 80;refine (Takes_c c a nx h17 _ HL.out.g).mono ?_;rintro e w2 ⟨rfl,hb2⟩;rw[HTk.out];replace HL:=Hid.mk' (HL.out.below hb2);have d0:=HL.out.d0;have d1:=HL.out.d1;have d2:=HL.out.d2;have f3:=HL.out.v.st.free 3;have c3:=HL.out.v.c3) | (go_at_call 83;refine (Lays_c c a nx h17 _ HL.out.drew.g).mono ?_;rintro e w2 ⟨rfl,hb2⟩;rw[HLy.out];replace HL:=Hid.mk' (HL.out.drew.below hb2);have d0:=HL.out.d0;have d1:=HL.out.d1;have d2:=HL.out.d2;have f3:=HL.out.v.st.free 3;have c3:=HL.out.v.c3) | (go_at_call 83;refine (Lays_c c a nx h17 _ HL.out.g).mono ?_;rintro e w2 ⟨rfl,hb2⟩;rw[HLy.out];replace HL:=Hid.mk' (HL.out.below hb2);have d0:=HL.out.d0;have d1:=HL.out.d1;have d2:=HL.out.d2;have f3:=HL.out.v.st.free 3;have c3:=HL.out.v.c3))
   all_goals
    go_wp2_with (first | (go_at_call 84;refine (Jumps_c c a nx _).mono ?_;rintro e w2 ⟨rfl,hb2⟩;rw[eJ];replace HL:=Hid.mk' (HL.out.below hb2);have d0:=HL.out.d0;have d1:=HL.out.d1;have d2:=HL.out.d2;have f3:=HL.out.v.st.free 3;have c3:=HL.out.v.c3) | (go_at_call 85;refine (Target_c c a nx ha0 ha6 (by omega) _).mono ?_;rintro e w2 ⟨rfl,hb2⟩;rw[HQ.out];replace HL:=Hid.mk' (HL.out.below hb2);have d0:=HL.out.d0;have d1:=HL.out.d1;have d2:=HL.out.d2;have f3:=HL.out.v.st.free 3;have c3:=HL.out.v.c3) | (go_at_call 51;refine (reach_any hs B hB _ _ HL.out.v).mono ?_;rintro e w4 ⟨rfl,hv4,hbl4,hsz4,ho4⟩;replace HL:=Hid.mk' (HL.out.only hv4 hbl4 ho4);have d0:=HL.out.d0;have d1:=HL.out.d1;have d2:=HL.out.d2;have f3:=HL.out.v.st.free 3;have c3:=HL.out.v.c3))
    go_ret
    have:=looked_two HF.out hp HK.out (LookedV.if_op (by rw[HC.out];exact HKd.out))
    rw[HNx.out,HTo.out,HAf.out] at this
    exact ⟨HL.out.bl,nx,_,_,rfl,HL.out.v,hpn,hfit,this⟩
  ·have e16:(((c:Int)==16)||((c:Int)==17))=false:=by simp;omega
   have eJ:((((c:Int)==13)||((c:Int)==14))||((c:Int)==15))=false:=by simp;omega
   have e13:((c:Int)==13)=false:=by simp;omega
   have e13':((c:Int) != 13)=true:=by simp;omega
   have HKd:Hid (c≠13∧c≠14∧c≠15∧c≠16∧c≠17):=hk
   clear hk hja
   go_wp2_with (go_at_call 82;refine (Ends_c c a nx _).mono ?_;rintro e w2 ⟨rfl,hb2⟩;rw[e16];replace HL:=Hid.mk' (HL.out.below hb2);have d0:=HL.out.d0;have d1:=HL.out.d1;have d2:=HL.out.d2;have f3:=HL.out.v.st.free 3;have c3:=HL.out.v.c3)
   go_region_held3 (fun w'=>w'.cell? ⟨w1.heap.size,0,none⟩=some (.int .i64 c)∧w'.cell? ⟨w1.heap.size,1,none⟩=some (.int .i64 a)∧w'.cell? ⟨w1.heap.size,2,none⟩=some (.int .i64 nx)) (go_keep) (first | (go_at_call 80;refine (Takes_c c a nx h17 _ HL.out.drew.g).mono ?_;rintro e w2 ⟨rfl,hb2⟩;rw[HTk.out];replace HL:=Hid.mk' (HL.out.drew.below hb2);have d0:=HL.out.d0;have d1:=HL.out.d1;have d2:=HL.out.d2;have f3:=HL.out.v.st.free 3;have c3:=HL.out.v.c3) | (go_at_call 80;refine (Takes_c c a nx h17 _ HL.out.g).mono ?_;rintro e w2 ⟨rfl,hb2⟩;rw[HTk.out];replace HL:=Hid.mk' (HL.out.below hb2);have d0:=HL.out.d0;have d1:=HL.out.d1;have d2:=HL.out.d2;have f3:=HL.out.v.st.free 3;have c3:=HL.out.v.c3) | (go_at_call 83;refine (Lays_c c a nx h17 _ HL.out.drew.g).mono ?_;rintro e w2 ⟨rfl,hb2⟩;rw[HLy.out];replace HL:=Hid.mk' (HL.out.drew.below hb2);have d0:=HL.out.d0;have d1:=HL.out.d1;have d2:=HL.out.d2;have f3:=HL.out.v.st.free 3;have c3:=HL.out.v.c3) | (go_at_call 83;refine (Lays_c c a nx h17 _ HL.out.g).mono ?_;rintro e w2 ⟨rfl,hb2⟩;rw[HLy.out];replace HL:=Hid.mk' (HL.out.below hb2);have d0:=HL.out.d0;have d1:=HL.out.d1;have d2:=HL.out.d2;have f3:=HL.out.v.st.free 3;have c3:=HL.out.v.c3))
   all_goals
    go_wp2_with (first | (go_at_call 84;refine (Jumps_c c a nx _).mono ?_;rintro e w2 ⟨rfl,hb2⟩;rw[eJ];replace HL:=Hid.mk' (HL.out.below hb2);have d0:=HL.out.d0;have d1:=HL.out.d1;have d2:=HL.out.d2;have f3:=HL.out.v.st.free 3;have c3:=HL.out.v.c3) | (go_at_call 51;refine (reach_any hs B hB _ _ HL.out.v).mono ?_;rintro e w4 ⟨rfl,hv4,hbl4,hsz4,ho4⟩;replace HL:=Hid.mk' (HL.out.only hv4 hbl4 ho4);have d0:=HL.out.d0;have d1:=HL.out.d1;have d2:=HL.out.d2;have f3:=HL.out.v.st.free 3;have c3:=HL.out.v.c3))
    go_ret
    have:=looked_one HF.out hp HK.out (LookedV.next_op (by rw[HC.out];exact HKd.out))
    rw[HNx.out,HAf.out] at this
    exact ⟨HL.out.bl,nx,_,_,rfl,HL.out.v,hpn,hfit,this⟩
end Go.Proofs.YtpcjadaeolkngaaGreatDoor
namespace Go.Proofs.YtpcjadaeolkngaaGreatDoor
open Go.RowKit
theorem MSt.blk {w w1:World} {mb xb:Nat} {cs:Array Value} {t:TypeId} (h:Blk w xb cs t) (ho:∀ b,b≠mb→w1.heap[b]?=w.heap[b]?) (hne:xb≠mb):Blk w1 xb cs t:=by
 unfold Blk at h ⊢;rw[ho xb hne];exact h
set_option maxHeartbeats 1000000 in
theorem jump13 {w:World} {mb:Nat} {x:Itm} {y:Bn} {sv:Value} {st:List Int} {p:Nat} {n:Int} (c:Nat) (hc:c=13) (a:Int) (nx q:Nat) (ha0:0≤a) (ha6:a≤65535) (hnx:nx≤100000) (hq:(nx:Int)+a=q) (h:MSt w mb x y sv st p false 0 0 n) :
  Calls Tryz.prog 90 #[.pointer (some ⟨mb,0,none⟩),.agg #[.int .i64 c,.int .i64 a,.int .i64 nx]] w fun e w'=>e=.returned (.tuple #[])∧Below mb w w'∧MRes w' mb x y (.inr (q,st)) n:=by
 have HM:Hid (MSt w mb x y sv st p false 0 0 n):=h
 have HQ:Hid ((nx:Int)+a=(q:Nat)):=hq
 have hlt:=h.lt
 have e13:((c:Int)==13)=true:=by simp;omega
 have e13':((c:Int) != 13)=false:=by simp;omega
 clear h hq hc
 have HMa:=Hid.mk2 (HM.out.below (box3 w (.cells #[.int .i64 c,.int .i64 a,.int .i64 nx] 131)))
 go_enter Tryz.func90,Tryz.ntmps90
 go_wp2_with (go_at_call 85;refine (Target_c c a nx ha0 ha6 hnx _).mono ?_;rintro e w2 ⟨rfl,hb2⟩;rw[HQ.out];have HM2:=Hid.mk2 (HMa.out.below hb2);have c9:=HM2.out.c9;have f9:=HM2.out.m.free 9)
 go_end0
 exact ⟨rfl,(((Below.refl mb w).alloc (Nat.le_of_lt hlt) _).trans (hb2.mono (by simp;omega))).setCell (p:=⟨mb,9,none⟩) (Nat.le_refl _) _,_,HM2.out.place q⟩
set_option maxHeartbeats 1000000 in
theorem jumpIf {w:World} {mb:Nat} {x:Itm} {y:Bn} {sv:Value} {z:Int} {r:List Int} {n:Int} (c:Nat) (hc:c=14∨c=15) (a:Int) (nx q:Nat) (hl:r.length≤4000) (ha0:0≤a) (ha6:a≤65535) (hnx:nx≤100000) (hq:(nx:Int)+a=q) (h:MSt w mb x y sv (z :: r) nx false 0 0 n) :
  Calls Tryz.prog 90 #[.pointer (some ⟨mb,0,none⟩),.agg #[.int .i64 c,.int .i64 a,.int .i64 nx]] w fun e w'=>e=.returned (.tuple #[])∧Below mb w w'∧MRes w' mb x y (.inr (if (decide (z=0))=(decide (c=14)) then q else nx,r)) n:=by
 have HM:Hid (MSt w mb x y sv (z :: r) nx false 0 0 n):=h
 have HQ:Hid ((nx:Int)+a=(q:Nat)):=hq
 have hlt:=h.lt
 have hlt':mb≠w.heap.size:=by omega
 clear h hq
 have HMa:=Hid.mk2 (HM.out.below (box3 w (.cells #[.int .i64 c,.int .i64 a,.int .i64 nx] 131)))
 have HX:=Hid.mk2 (Blk.new w #[.int .i64 c,.int .i64 a,.int .i64 nx] 131)
 have e13:((c:Int)==13)=false:=by rcases hc with h | h <;> simp[h]
 have e13':((c:Int) != 13)=true:=by rcases hc with h | h <;> simp[h]
 have hB:=Hid.mk2 (((Below.refl mb w).alloc (Nat.le_of_lt hlt) (.cells #[.int .i64 c,.int .i64 a,.int .i64 nx] 131)))
 obtain ⟨b15,hb15⟩:∃ b,((c:Int)==15)=b:=⟨_,rfl⟩
 obtain ⟨bz,hbz⟩:∃ b,(z != 0)=b:=⟨_,rfl⟩
 have hcond:(decide (z=0)=decide (c=14)) ↔ (bz=b15):=by
  rw[← hb15,← hbz]
  by_cases hz:z=0 <;> rcases hc with h | h <;> simp[hz,h]
 have HCo:=Hid.mk2 hcond
 clear hcond hc
 cases b15 <;> cases bz
 case false.false | true.true =>
  rw[if_pos (HCo.out.2 rfl)]
  clear HCo
  go_enter Tryz.func90,Tryz.ntmps90
  go_wp2_with (first | (go_at_call 91;refine (take_any hl HMa.out).mono ?_;rintro e w1 ⟨rfl,hb1,ho1,sv1,hm1⟩;have HM1:=Hid.mk2 hm1;have HX1:=Hid.mk2 (MSt.blk HX.out ho1 (Ne.symm hlt'));have d0:=HX1.out.cell 0;have d1:=HX1.out.cell 1;have d2:=HX1.out.cell 2;clear hm1) | (go_at_call 85;refine (Target_c c a nx ha0 ha6 hnx _).mono ?_;rintro e w2 ⟨rfl,hb2⟩;rw[HQ.out];have HM2:=Hid.mk2 (HM1.out.below hb2);have c9:=HM2.out.c9;have f9:=HM2.out.m.free 9))
  go_end0
  exact ⟨rfl,((hB.out.trans hb1).trans (hb2.mono (Nat.le_of_lt HM1.out.lt))).setCell (p:=⟨mb,9,none⟩) (Nat.le_refl _) _,_,HM2.out.place q⟩
 case false.true | true.false =>
  rw[if_neg (fun h=>by have:=HCo.out.1 h;cases this)]
  clear HCo
  go_enter Tryz.func90,Tryz.ntmps90
  go_wp2_with (go_at_call 91;refine (take_any hl HMa.out).mono ?_;rintro e w1 ⟨rfl,hb1,ho1,sv1,hm1⟩;have HM1:=Hid.mk2 hm1;have HX1:=Hid.mk2 (MSt.blk HX.out ho1 (Ne.symm hlt'));have d0:=HX1.out.cell 0;have d1:=HX1.out.cell 1;have d2:=HX1.out.cell 2;clear hm1)
  go_end0
  exact ⟨rfl,hB.out.trans hb1,_,HM1.out⟩
set_option maxHeartbeats 1000000 in
theorem Attribute_any (k:Int) (x:Itm) (y:Bn) (w:World) :
  Calls Tryz.prog 88 #[.int .i64 k,itmA x,bnA y] w fun e w'=>e=.returned (.int .i64 (attrN k x y))∧Below w.heap.size w w':=by
 unfold itmA bnA
 go_enter Tryz.func88,Tryz.ntmps88
 go_wp2
 all_goals go_ret
 all_goals exact ⟨ret_int (by go_light;simp_all [attrN]),(box3 _ _).trans ((box3 _ _).mono (by simp))⟩
end Go.Proofs.YtpcjadaeolkngaaGreatDoor
