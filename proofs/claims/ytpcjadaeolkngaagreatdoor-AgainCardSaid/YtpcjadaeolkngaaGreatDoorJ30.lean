/-
  Jumps and attributes; then one step of the program's machine, whole.
-/
import Derived.Test.YtpcjadaeolkngaaGreatDoorJ29
import Derived.Test.YtpcjadaeolkngaaGreatDoorJ18
import Derived.Deep.RegionHeld3
import Derived.Deep.Cut
import Derived.Deep.LoopGhost
import Derived.Test.YtpcjadaeolkngaaGreatDoorJ27
import Derived.Deep.DeepCutAuto
set_option linter.unusedVariables false
set_option linter.unusedSimpArgs false
namespace Go.Proofs.YtpcjadaeolkngaaGreatDoor
open Go.RowKit
theorem MSt.blk{w w1:World}{mb xb:Nat}{cs:Array Value}{t:TypeId}(h:Blk w xb cs t)(ho:∀ b,b≠mb→w1.heap[b]?=w.heap[b]?)(hne:xb≠mb):Blk w1 xb cs t:=by
 unfold Blk at h ⊢;rw[ho xb hne];exact h
set_option maxHeartbeats 1000000 in
theorem jump13{w:World}{mb:Nat}{x:Itm}{y:Bn}{sv:Value}{st:List Int}{p:Nat}{n:Int}(c:Nat)(hc:c=13)(a:Int)(nx q:Nat)(ha0:0≤a)(ha6:a≤65535)(hnx:nx≤100000)(hq:(nx:Int)+a=q)(h:MSt w mb x y sv st p false 0 0 n) :
  Calls Tryz.prog 90 #[.pointer (some ⟨mb,0,none⟩),.agg #[.int .i64 c,.int .i64 a,.int .i64 nx]] w fun e w'=>e=.returned (.tuple #[])∧Below mb w w'∧MRes w' mb x y (.inr (q,st)) n:=by
 have HM:Hid (MSt w mb x y sv st p false 0 0 n):=h
 have HQ:Hid ((nx:Int)+a=(q:Nat)):=hq
 have hlt:=h.lt
 have e13:((c:Int)==13)=true:=by simp;omega
 have e13':((c:Int) != 13)=false:=by simp;omega
 clear h hq hc
 have HMa:=mH (HM.out.below (box3 w (.cells #[.int .i64 c,.int .i64 a,.int .i64 nx] 131)))
 go_enter Tryz.func90,Tryz.ntmps90
 go_wp2_with (go_at_call 85;refine (Target_c c a nx ha0 ha6 hnx _).mono ?_;rintro e w2 ⟨rfl,hb2⟩;rw[HQ.out];have HM2:=mH (HMa.out.below hb2);have c9:=HM2.out.c9;have f9:=HM2.out.m.free 9)
 go_end0
 exact ⟨rfl,(((Below.refl mb w).alloc (Nat.le_of_lt hlt) _).trans (hb2.mono (by simp;omega))).setCell (p:=⟨mb,9,none⟩) (Nat.le_refl _) _,_,HM2.out.place q⟩
set_option maxHeartbeats 1000000 in
theorem jumpIf{w:World}{mb:Nat}{x:Itm}{y:Bn}{sv:Value}{z:Int}{r:List Int}{n:Int}(c:Nat)(hc:c=14∨c=15)(a:Int)(nx q:Nat)(hl:r.length≤4000)(ha0:0≤a)(ha6:a≤65535)(hnx:nx≤100000)(hq:(nx:Int)+a=q)(h:MSt w mb x y sv (z :: r) nx false 0 0 n) :
  Calls Tryz.prog 90 #[.pointer (some ⟨mb,0,none⟩),.agg #[.int .i64 c,.int .i64 a,.int .i64 nx]] w fun e w'=>e=.returned (.tuple #[])∧Below mb w w'∧MRes w' mb x y (.inr (if (decide (z=0))=(decide (c=14)) then q else nx,r)) n:=by
 have HM:Hid (MSt w mb x y sv (z :: r) nx false 0 0 n):=h
 have HQ:Hid ((nx:Int)+a=(q:Nat)):=hq
 have hlt:=h.lt
 have hlt':mb≠w.heap.size:=by omega
 clear h hq
 have HMa:=mH (HM.out.below (box3 w (.cells #[.int .i64 c,.int .i64 a,.int .i64 nx] 131)))
 have HX:=mH (Blk.new w #[.int .i64 c,.int .i64 a,.int .i64 nx] 131)
 have e13:((c:Int)==13)=false:=by rcases hc with h | h <;> simp[h]
 have e13':((c:Int) != 13)=true:=by rcases hc with h | h <;> simp[h]
 have hB:=mH (((Below.refl mb w).alloc (Nat.le_of_lt hlt) (.cells #[.int .i64 c,.int .i64 a,.int .i64 nx] 131)))
 obtain ⟨b15,hb15⟩:∃ b,((c:Int)==15)=b:=⟨_,rfl⟩
 obtain ⟨bz,hbz⟩:∃ b,(z != 0)=b:=⟨_,rfl⟩
 have hcond:(decide (z=0)=decide (c=14))↔(bz=b15):=by
  rw[← hb15,← hbz]
  by_cases hz:z=0 <;> rcases hc with h | h <;> simp[hz,h]
 have HCo:=mH hcond
 clear hcond hc
 cases b15 <;> cases bz
 case false.false | true.true =>
  rw[if_pos (HCo.out.2 rfl)]
  clear HCo
  go_enter Tryz.func90,Tryz.ntmps90
  go_wp2_with (first | (go_at_call 91;refine (take_any hl HMa.out).mono ?_;rintro e w1 ⟨rfl,hb1,ho1,sv1,hm1⟩;have HM1:=mH hm1;have HX1:=mH (MSt.blk HX.out ho1 (Ne.symm hlt'));have d0:=HX1.out.cell 0;have d1:=HX1.out.cell 1;have d2:=HX1.out.cell 2;clear hm1) | (go_at_call 85;refine (Target_c c a nx ha0 ha6 hnx _).mono ?_;rintro e w2 ⟨rfl,hb2⟩;rw[HQ.out];have HM2:=mH (HM1.out.below hb2);have c9:=HM2.out.c9;have f9:=HM2.out.m.free 9))
  go_end0
  exact ⟨rfl,((hB.out.trans hb1).trans (hb2.mono (Nat.le_of_lt HM1.out.lt))).setCell (p:=⟨mb,9,none⟩) (Nat.le_refl _) _,_,HM2.out.place q⟩
 case false.true | true.false =>
  rw[if_neg (fun h=>by have:=HCo.out.1 h;cases this)]
  clear HCo
  go_enter Tryz.func90,Tryz.ntmps90
  go_wp2_with (go_at_call 91;refine (take_any hl HMa.out).mono ?_;rintro e w1 ⟨rfl,hb1,ho1,sv1,hm1⟩;have HM1:=mH hm1;have HX1:=mH (MSt.blk HX.out ho1 (Ne.symm hlt'));have d0:=HX1.out.cell 0;have d1:=HX1.out.cell 1;have d2:=HX1.out.cell 2;clear hm1)
  go_end0
  exact ⟨rfl,hB.out.trans hb1,_,HM1.out⟩
set_option maxHeartbeats 1000000 in
theorem Attribute_any(k:Int)(x:Itm)(y:Bn)(w:World) :
  Calls Tryz.prog 88 #[.int .i64 k,itmA x,bnA y] w fun e w'=>e=.returned (.int .i64 (attrN k x y))∧Below w.heap.size w w':=by
 unfold itmA bnA
 go_enter Tryz.func88,Tryz.ntmps88
 go_wp2
 all_goals go_ret
 all_goals exact ⟨ret_int (by go_light;simp_all [attrN]),(box3 _ _).trans ((box3 _ _).mono (by simp))⟩
set_option maxHeartbeats 2000000 in
set_option maxRecDepth 100000 in
theorem do_any{w:World}{mb:Nat}{x:Itm}{y:Bn}{sv:Value}{st:List Int}{p0:Nat}{n:Int}(ps c:Nat)(a:Int)(nx:Nat)(h17:c≤17)(hn:0≤n∧n≤100000)(hnx:nx≤100000)(hj:c=13∨c=14∨c=15→0≤a∧a≤65535)
  (ht:takesN c≤st.length) (hst:st.length≤3000) (hi:∀ v∈st,In64 v) (hai:In64 a) (hxy:x.Ok∧y.Ok) (h:MSt w mb x y sv st p0 false 0 0 n) :
  Calls Tryz.prog 56 #[.pointer (some ⟨mb,0,none⟩),.agg #[.int .i64 c,.int .i64 a,.int .i64 nx]] w fun e w'=>e=.returned (.tuple #[])∧Below mb w w'∧MRes w' mb x y (stepM x y ⟨ps,c,a,nx⟩ st) (n+1):=by
 have hlt:=h.lt
 have hne:mb≠w.heap.size:=by omega
 have hne':w.heap.size≠mb:=by omega
 obtain ⟨hn0,hn1⟩:=hn
 have HM2:=mH (((h.steps (n+1)).place nx).below (box3 _ (.cells #[.int .i64 c,.int .i64 a,.int .i64 nx] 131)))
 have hB2:=mH ((((Below.refl mb w).setCell (p:=⟨mb,13,none⟩) (Nat.le_refl _) (.int .i64 (n+1))).setCell (p:=⟨mb,9,none⟩) (Nat.le_refl _) (.int .i64 nx)).alloc (by simp;omega) (.cells #[.int .i64 c,.int .i64 a,.int .i64 nx] 131))
 have c13:=h.c13
 have c9:=h.c9
 have f13:=h.m.free 13
 have f9:=h.m.free 9
 have HI:=mH hi
 have HAI:=mH hai
 have HXY:=mH hxy
 clear h hi hai hxy
 have hk:c=0∨c=1∨(c=2∨c=3)∨c=13∨(c=14∨c=15)∨c=16∨c=17∨(4≤c∧c≤12):=by omega
 rcases hk with hk | hk | hk | hk | hk | hk | hk | hk
 ·have hs:stepM x y ⟨ps,c,a,nx⟩ st=.inr (nx,a :: st):=by rw[hk];rfl
  rw[hs]
  have q0:((c:Int)==0)=true:=by simp;omega
  clear hs hj ht hk
  go_enter Tryz.func56,Tryz.ntmps56
  go_wp2_with (go_at_call 87;refine (rlay_any a (by omega) HM2.out).mono ?_;rintro e w3 ⟨rfl,hb3,hm3⟩)
  go_end0
  exact ⟨rfl,hB2.out.trans hb3,hm3⟩
 ·have hs:stepM x y ⟨ps,c,a,nx⟩ st=.inr (nx,attrN a x y :: st):=by rw[hk];rfl
  rw[hs]
  have q0:((c:Int)==0)=false:=by simp;omega
  have q1:((c:Int)==1)=true:=by simp;omega
  clear hs hj ht hk
  have hd:=HM2.out.m
  obtain ⟨W2,hW2⟩:∃ W2,W2=((w.setCell ⟨mb,13,none⟩ (.int .i64 (n+1))).setCell ⟨mb,9,none⟩ (.int .i64 nx)).alloc (.cells #[.int .i64 c,.int .i64 a,.int .i64 nx] 131):=⟨_,rfl⟩
  have HX:Hid (Blk W2 w.heap.size #[.int .i64 c,.int .i64 a,.int .i64 nx] 131):=(by
   have:=Blk.new ((w.setCell ⟨mb,13,none⟩ (.int .i64 (n+1))).setCell ⟨mb,9,none⟩ (.int .i64 nx)) #[.int .i64 c,.int .i64 a,.int .i64 nx] 131
   rw[← hW2]at this
   simpa using this:Blk W2 w.heap.size #[.int .i64 c,.int .i64 a,.int .i64 nx] 131)
  rw[← hW2]at HM2 hB2
  have HW2:=mH hW2
  clear hd hW2
  go_enter Tryz.func56,Tryz.ntmps56
  go_upto_region 8 with fail
  rw[← HW2.out]
  have m0:W2.cell? ⟨mb,0,none⟩=some (.int .i64 x.size):=(HM2.out.m.cell 0)
  have m1:W2.cell? ⟨mb,1,none⟩=some (.int .i64 x.speed):=(HM2.out.m.cell 1)
  have m2:W2.cell? ⟨mb,2,none⟩=some (.int .i64 x.need):=(HM2.out.m.cell 2)
  have m3:W2.cell? ⟨mb,3,none⟩=some (.int .i64 y.id):=(HM2.out.m.cell 3)
  have m4:W2.cell? ⟨mb,4,none⟩=some (.int .i64 y.zone):=(HM2.out.m.cell 4)
  have m5:W2.cell? ⟨mb,5,none⟩=some (.int .i64 y.cap):=(HM2.out.m.cell 5)
  have m6:W2.cell? ⟨mb,6,none⟩=some (.int .i64 y.used):=(HM2.out.m.cell 6)
  have m7:W2.cell? ⟨mb,7,none⟩=some (.int .i64 y.has):=(HM2.out.m.cell 7)
  have x1:W2.cell? ⟨w.heap.size,1,none⟩=some (.int .i64 a):=HX.out.cell 1
  have hmW:mb<W2.heap.size:=HM2.out.lt
  have hxW:w.heap.size<W2.heap.size:=HX.out.lt
  go_region_held3 (fun w'=>w'.cell? ⟨mb,0,none⟩=some (.int .i64 x.size)∧w'.cell? ⟨mb,1,none⟩=some (.int .i64 x.speed)∧w'.cell? ⟨mb,2,none⟩=some (.int .i64 x.need)∧w'.cell? ⟨mb,3,none⟩=some (.int .i64 y.id)∧w'.cell? ⟨mb,4,none⟩=some (.int .i64 y.zone)∧w'.cell? ⟨mb,5,none⟩=some (.int .i64 y.cap)∧w'.cell? ⟨mb,6,none⟩=some (.int .i64 y.used)∧w'.cell? ⟨mb,7,none⟩=some (.int .i64 y.has)∧w'.cell? ⟨w.heap.size,1,none⟩=some (.int .i64 a)) (go_keep) ((go_at_call 88;refine (Attribute_any a x y _).mono ?_;rintro e w3 ⟨rfl,hb3⟩;have HM3:=mH (HM2.out.drew.below hb3);have hB3:=mH (hB2.out.drew.trans (hb3.mono (Nat.le_of_lt hmW)));have m0:=(hb3.cell (p:=⟨mb,0,none⟩) hmW).trans m0;have m1:=(hb3.cell (p:=⟨mb,1,none⟩) hmW).trans m1;have m2:=(hb3.cell (p:=⟨mb,2,none⟩) hmW).trans m2;have m3:=(hb3.cell (p:=⟨mb,3,none⟩) hmW).trans m3;have m4:=(hb3.cell (p:=⟨mb,4,none⟩) hmW).trans m4;have m5:=(hb3.cell (p:=⟨mb,5,none⟩) hmW).trans m5;have m6:=(hb3.cell (p:=⟨mb,6,none⟩) hmW).trans m6;have m7:=(hb3.cell (p:=⟨mb,7,none⟩) hmW).trans m7;have x1:=(hb3.cell (p:=⟨w.heap.size,1,none⟩) hxW).trans x1))
  all_goals
   go_wp2_with (go_at_call 87;refine (rlay_any (attrN a x y) (by omega) HM3.out).mono ?_;rintro e w4 ⟨rfl,hb4,hm4⟩)
   go_end0
   exact ⟨rfl,hB3.out.trans hb4,hm4⟩
 ·obtain ⟨z,r,rfl⟩:∃ z r,st=z :: r:=by
   cases st with
   | nil=>exfalso;rcases hk with rfl | rfl <;> simp[takesN]at ht
   | cons z r=>exact ⟨z,r,rfl⟩
  have hs:stepM x y ⟨ps,c,a,nx⟩ (z :: r)=layM (oneN c z) nx r:=by
   rcases hk with rfl | rfl
   ·rfl
   ·rfl
  rw[hs]
  have HZ:Hid (In64 z):=HI.out z (by simp)
  have HK:=mH hk
  have hrl:r.length≤4000:=by simp at hst;omega
  have q0:((c:Int)==0)=false:=by simp;omega
  have q1:((c:Int)==1)=false:=by simp;omega
  have q2:((c:Int)==2)=true∨(((c:Int)==2)=false∧((c:Int)==3)=true):=by rcases hk with rfl | rfl <;> simp
  clear hs hj ht hk
  rcases q2 with q2 | ⟨q2,q3⟩
  all_goals
   go_enter Tryz.func56,Tryz.ntmps56
   go_wp2_with (go_at_call 89;refine (one_any' c HK.out HZ.out hrl HM2.out).mono ?_;rintro e w3 ⟨rfl,hb3,hm3⟩)
   go_end0
   exact ⟨rfl,hB2.out.trans hb3,hm3⟩
 ·obtain ⟨ha0,ha6⟩:=hj (.inl hk)
  obtain ⟨q,hq⟩:∃ q:Nat,(nx:Int)+a=q:=⟨((nx:Int)+a).toNat,by omega⟩
  have hs:stepM x y ⟨ps,c,a,nx⟩ st=.inr (q,st):=by
   rw[hk]
   show Sum.inr ((Ins.to ⟨ps,13,a,nx⟩),st)=_
   have:Ins.to ⟨ps,13,a,nx⟩=q:=by unfold Ins.to;simp only;omega
   rw[this]
  rw[hs]
  have HQ:=mH hq
  have HK13:=mH hk
  have q0:((c:Int)==0)=false:=by simp;omega
  have q1:((c:Int)==1)=false:=by simp;omega
  have q2:((c:Int)==2)=false:=by simp;omega
  have q3:((c:Int)==3)=false:=by simp;omega
  have q13:((c:Int)==13)=true:=by simp;omega
  clear hs hj ht hq hk
  go_enter Tryz.func56,Tryz.ntmps56
  go_wp2_with (go_at_call 90;refine (jump13 c HK13.out a nx q ha0 ha6 hnx HQ.out HM2.out).mono ?_;rintro e w3 ⟨rfl,hb3,hm3⟩)
  go_end0
  exact ⟨rfl,hB2.out.trans hb3,hm3⟩
 ·obtain ⟨ha0,ha6⟩:=hj (.inr hk)
  obtain ⟨z,r,rfl⟩:∃ z r,st=z :: r:=by
   cases st with
   | nil=>exfalso;rcases hk with rfl | rfl <;> simp[takesN]at ht
   | cons z r=>exact ⟨z,r,rfl⟩
  obtain ⟨q,hq⟩:∃ q:Nat,(nx:Int)+a=q:=⟨((nx:Int)+a).toNat,by omega⟩
  have hs:stepM x y ⟨ps,c,a,nx⟩ (z :: r)=.inr (if (decide (z=0))=(decide (c=14)) then q else nx,r):=by
   have hto:Ins.to ⟨ps,c,a,nx⟩=q:=by unfold Ins.to;simp only;omega
   rcases hk with rfl | rfl
   ·show Sum.inr ((if fst (z :: r)=0 then Ins.to ⟨ps,14,a,nx⟩ else nx),r)=_
    rw[hto]
    by_cases hz:z=0 <;> simp[fst,hz]
   ·show Sum.inr ((if fst (z :: r)=0 then nx else Ins.to ⟨ps,15,a,nx⟩),r)=_
    rw[hto]
    by_cases hz:z=0 <;> simp[fst,hz]
  rw[hs]
  obtain ⟨q',hq'⟩:∃ q',q'=if (decide (z=0))=(decide (c=14)) then q else nx:=⟨_,rfl⟩
  have HQ':Hid ((if (decide (z=0))=(decide (c=14)) then q else nx)=q'):=hq'.symm
  rw[← hq']
  clear hq'
  have HQ:=mH hq
  have HK:=mH hk
  have hrl:r.length≤4000:=by simp at hst;omega
  have q0:((c:Int)==0)=false:=by simp;omega
  have q1:((c:Int)==1)=false:=by simp;omega
  have q2:((c:Int)==2)=false:=by simp;omega
  have q3:((c:Int)==3)=false:=by simp;omega
  have q13:((c:Int)==13)=false:=by simp;omega
  have q14:((c:Int)==14)=true∨(((c:Int)==14)=false∧((c:Int)==15)=true):=by rcases hk with rfl | rfl <;> simp
  clear hs hj ht hk hq
  rcases q14 with q14 | ⟨q14,q15⟩
  all_goals
   go_enter Tryz.func56,Tryz.ntmps56
   go_wp2_with (go_at_call 90;refine (jumpIf c HK.out a nx q hrl ha0 ha6 hnx HQ.out HM2.out).mono ?_;rintro e w3 ⟨rfl,hb3,hm3⟩;rw[HQ'.out]at hm3)
   go_end0
   exact ⟨rfl,hB2.out.trans hb3,hm3⟩
 ·obtain ⟨z,r,rfl⟩:∃ z r,st=z :: r:=by
   cases st with
   | nil=>exfalso;rw[hk]at ht;simp[takesN]at ht
   | cons z r=>exact ⟨z,r,rfl⟩
  have hs:stepM x y ⟨ps,c,a,nx⟩ (z :: r)=.inl (1,z):=by rw[hk];rfl
  rw[hs]
  have hrl:r.length≤4000:=by simp at hst;omega
  have q0:((c:Int)==0)=false:=by simp;omega
  have q1:((c:Int)==1)=false:=by simp;omega
  have q2:((c:Int)==2)=false:=by simp;omega
  have q3:((c:Int)==3)=false:=by simp;omega
  have q13:((c:Int)==13)=false:=by simp;omega
  have q14:((c:Int)==14)=false:=by simp;omega
  have q15:((c:Int)==15)=false:=by simp;omega
  have q16:((c:Int)==16)=true:=by simp;omega
  clear hs hj ht hk
  go_enter Tryz.func56,Tryz.ntmps56
  go_wp2_with (first | (go_at_call 91;refine (take_any hrl HM2.out).mono ?_;rintro e w3 ⟨rfl,hb3,_,sv3,hm3⟩;have HM3:=mH hm3;clear hm3) | (go_at_call 92;refine (end_any 1 z HM3.out).mono ?_;rintro e w4 ⟨rfl,hb4,hm4⟩))
  go_end0
  exact ⟨rfl,(hB2.out.trans hb3).trans hb4,_,_,_,hm4⟩
 ·have hs:stepM x y ⟨ps,c,a,nx⟩ st=.inl (0,0):=by rw[hk];rfl
  rw[hs]
  have q0:((c:Int)==0)=false:=by simp;omega
  have q1:((c:Int)==1)=false:=by simp;omega
  have q2:((c:Int)==2)=false:=by simp;omega
  have q3:((c:Int)==3)=false:=by simp;omega
  have q13:((c:Int)==13)=false:=by simp;omega
  have q14:((c:Int)==14)=false:=by simp;omega
  have q15:((c:Int)==15)=false:=by simp;omega
  have q16:((c:Int)==16)=false:=by simp;omega
  have q17:((c:Int)==17)=true:=by simp;omega
  clear hs hj ht hk
  go_enter Tryz.func56,Tryz.ntmps56
  go_wp2_with (go_at_call 92;refine (end_any 0 0 HM2.out).mono ?_;rintro e w4 ⟨rfl,hb4,hm4⟩)
  go_end0
  exact ⟨rfl,hB2.out.trans hb4,_,_,_,hm4⟩
 ·obtain ⟨b,z,r,rfl⟩:∃ b z r,st=b :: z :: r:=by
   have h2:takesN c=2:=by unfold takesN;rw[if_neg (by omega),if_neg (by omega)]
   rw[h2]at ht
   match st,ht with
   | b :: z :: r,_=>exact ⟨b,z,r,rfl⟩
  have hs:stepM x y ⟨ps,c,a,nx⟩ (b :: z :: r)=layM (joinN c z b) nx r:=by
   unfold stepM
   simp only
   rw[if_neg (by omega),if_neg (by omega),if_neg (by omega),if_neg (by omega),if_neg (by omega),if_neg (by omega),if_neg (by omega),if_neg (by omega),if_neg (by omega)]
   rfl
  rw[hs]
  have HZ:Hid (In64 z):=HI.out z (by simp)
  have HBB:Hid (In64 b):=HI.out b (by simp)
  have hrl:r.length≤3000:=by simp at hst;omega
  have q0:((c:Int)==0)=false:=by simp;omega
  have q1:((c:Int)==1)=false:=by simp;omega
  have q2:((c:Int)==2)=false:=by simp;omega
  have q3:((c:Int)==3)=false:=by simp;omega
  have q13:((c:Int)==13)=false:=by simp;omega
  have q14:((c:Int)==14)=false:=by simp;omega
  have q15:((c:Int)==15)=false:=by simp;omega
  have q16:((c:Int)==16)=false:=by simp;omega
  have q17:((c:Int)==17)=false:=by simp;omega
  clear hs hj ht
  go_enter Tryz.func56,Tryz.ntmps56
  go_wp2_with (go_at_call 93;refine (two_any' c hk HZ.out HBB.out hrl HM2.out).mono ?_;rintro e w3 ⟨rfl,hb3,hm3⟩)
  go_end0
  exact ⟨rfl,hB2.out.trans hb3,hm3⟩
def resA(r:Nat×Int×Nat):Value:=.agg #[.int .i64 r.1,.int .i64 r.2.1,.int .i64 r.2.2]
def MRel(s:ByteArray)(l:List Ins)(most:Nat)(G:Nat→Int)(x:Itm)(y:Bn)(w:World)(mb:Nat)(R:Nat×Int×Nat)(k:Nat)(wx:World):Prop :=
 Below mb w wx∧((∃ sv st p,MSt wx mb x y sv st p true R.1 R.2.1 R.2.2) ∨
  (∃ (sv:Value) (st:List Int) (p n f:Nat),MSt wx mb x y sv st p false 0 0 n∧AtStep s l most G p st∧n≤p∧R=runM s x y f p st n∧s.size<f+p∧k=s.size-p))
set_option maxHeartbeats 2000000 in
set_option maxRecDepth 100000 in
theorem machineRun_any(s:ByteArray)(hs:s.size≤4000)(l:List Ins)(most:Nat)(hmost:most<256)(G:Nat→Int)(hc:Chain s 3 l s.size)(hl:Lawful l most G)(h3:3<s.size)(x:Itm)(y:Bn)(hxy:x.Ok∧y.Ok)(w:World)(hg:GlobY w) :
  Calls Tryz.prog 29 #[.string s,itmA x,bnA y] w fun e w'=>Below w.heap.size w w'∧e=.returned (resA (runM s x y (s.size+1) 3 [] 0)):=by
 have HG:Hid (GlobY w):=hg
 have HXY:=mH hxy
 have HA0:=mH (AtStep.start hc hl h3)
 obtain ⟨R,hR⟩:∃ R,R=runM s x y (s.size+1) 3 [] 0:=⟨_,rfl⟩
 rw[← hR]
 have HR:=mH hR
 clear hg hxy hR hc hl
 unfold itmA bnA
 go_enter Tryz.func29,Tryz.ntmps29
 go_wp2
 obtain ⟨W0,hW0⟩:∃ W0,W0=(((w.alloc (.cells #[.int .i64 x.size,.int .i64 x.speed,.int .i64 x.need] 23)).alloc (.cells #[.int .i64 y.id,.int .i64 y.zone,.int .i64 y.cap,.int .i64 y.used,.int .i64 y.has] 25)).alloc (.cells #[.int .i64 0,.int .i64 0,.int .i64 0] 29)).alloc (.cells (mCells x y (.slice none 0 0) 3 false 0 0 0) 129):=⟨_,rfl⟩
 have hM0:MSt W0 (w.heap.size+3) x y (.slice none 0 0) [] 3 false 0 0 0:=by
  refine ⟨?_,World.ownsRow_nil _ _ _ _⟩
  have:=Blk.new (((w.alloc (.cells #[.int .i64 x.size,.int .i64 x.speed,.int .i64 x.need] 23)).alloc (.cells #[.int .i64 y.id,.int .i64 y.zone,.int .i64 y.cap,.int .i64 y.used,.int .i64 y.has] 25)).alloc (.cells #[.int .i64 0,.int .i64 0,.int .i64 0] 29)) (mCells x y (.slice none 0 0) 3 false 0 0 0) 129
  rw[← hW0]at this
  simpa using this
 have hB0:Below w.heap.size w W0:=by
  rw[hW0]
  exact ((((Below.refl _ _).alloc (Nat.le_refl _) _).alloc (by simp) _).alloc (by simp;omega) _).alloc (by simp;omega) _
 have hR0:Blk W0 (w.heap.size+2) #[.int .i64 0,.int .i64 0,.int .i64 0] 29:=by
  have:=(Blk.new ((w.alloc (.cells #[.int .i64 x.size,.int .i64 x.speed,.int .i64 x.need] 23)).alloc (.cells #[.int .i64 y.id,.int .i64 y.zone,.int .i64 y.cap,.int .i64 y.used,.int .i64 y.has] 25)) #[.int .i64 0,.int .i64 0,.int .i64 0] 29).alloc (.cells (mCells x y (.slice none 0 0) 3 false 0 0 0) 129)
  rw[← hW0]at this
  simpa using this
 have HW0:=mH hW0
 have HM0:=mH hM0
 have HB0:=mH hB0
 have HR0:=mH hR0
 have hsz0:w.heap.size+3<W0.heap.size:=hM0.lt
 clear hW0 hM0 hB0 hR0
 go_loopg [9] (s.size-3) (fun k _ wx=>MRel s l most G x y W0 (w.heap.size+3) R k wx)
 case atStart=>exact HW0.out ▸ ⟨Below.refl _ _,.inr ⟨_,[],3,0,s.size+1,HM0.out,HA0.out,by omega,HR.out,by omega,rfl⟩⟩
 case round =>
  obtain ⟨hbl,hor⟩:=hrel
  rcases hor with ⟨sv,st,p,hm⟩ | ⟨sv,st,p,n,f,hm,hat,hnp,hrun,hfp,hk⟩
  ·have c10:=hm.c10
   have c11:=hm.c11
   have c12:=hm.c12
   have c13:=hm.c13
   have r0:wr.cell? ⟨w.heap.size+2,0,none⟩=some (.int .i64 0):=(hbl.cell (p:=⟨w.heap.size+2,0,none⟩) (by simp)).trans (HR0.out.cell 0)
   have r1:wr.cell? ⟨w.heap.size+2,1,none⟩=some (.int .i64 0):=(hbl.cell (p:=⟨w.heap.size+2,1,none⟩) (by simp)).trans (HR0.out.cell 1)
   have r2:wr.cell? ⟨w.heap.size+2,2,none⟩=some (.int .i64 0):=(hbl.cell (p:=⟨w.heap.size+2,2,none⟩) (by simp)).trans (HR0.out.cell 2)
   have f0:wr.frozen? ⟨w.heap.size+2,0,none⟩=false:=(hbl.frozen (p:=⟨w.heap.size+2,0,none⟩) (by simp)).trans (HR0.out.free 0)
   have f1:wr.frozen? ⟨w.heap.size+2,1,none⟩=false:=(hbl.frozen (p:=⟨w.heap.size+2,1,none⟩) (by simp)).trans (HR0.out.free 1)
   have f2:wr.frozen? ⟨w.heap.size+2,2,none⟩=false:=(hbl.frozen (p:=⟨w.heap.size+2,2,none⟩) (by simp)).trans (HR0.out.free 2)
   clear hm
   go_wp2
   refine bodyPost_ret (v:=.agg #[.int .i64 R.1,.int .i64 R.2.1,.int .i64 R.2.2]) (by simp[results,Tryz.results29,go_sem,r0,r1,r2]) rfl ⟨?_,rfl⟩
   exact HB0.out.trans ((((hbl.mono (by omega)).setCell (p:=⟨w.heap.size+2,0,none⟩) (by simp) _).setCell (p:=⟨w.heap.size+2,1,none⟩) (by simp) _).setCell (p:=⟨w.heap.size+2,2,none⟩) (by simp) _)
  ·have c9:=hm.c9
   have c10:=hm.c10
   have HM:=mH hm
   have HOK:=mH hat.ok
   have HAT:=mH hat
   have HRun:=mH hrun
   obtain ⟨c,hc⟩:∃ c,c=bt s p:=⟨_,rfl⟩
   obtain ⟨a,ha⟩:∃ a,a=(mkIns s p).arg:=⟨_,rfl⟩
   obtain ⟨nx,hnx⟩:∃ nx,nx=(mkIns s p).next:=⟨_,rfl⟩
   have HMk:Hid (mkIns s p=⟨p,c,a,nx⟩):=(by rw[hc,ha,hnx];rfl:mkIns s p=⟨p,c,a,nx⟩)
   have HOV:Hid (opV (mkIns s p)=.agg #[.int .i64 c,.int .i64 a,.int .i64 nx]):=(by rw[hc,ha,hnx];rfl:_=_)
   have h17:c≤17:=by rw[hc];exact hat.ok.2.1
   have hfit:nx≤s.size:=by rw[hnx];exact hat.ok.2.2.1
   have hps:p<s.size:=hat.ok.1
   have hja:c=13∨c=14∨c=15→0≤a∧a≤65535:=by
    intro h
    have h1:=jump_arg s p (by rw[hc]at h;exact h)
    have:=lowU_two s (p+1)
    omega
   have HT:Hid (takesN c≤st.length):=(by rw[hc];exact hat.tall:takesN c≤st.length)
   have hstl:st.length≤3000:=by have:=hat.most_le;omega
   have HN:=mH hat.nums
   have HAI:Hid (In64 a):=(by rw[ha];exact in_wrap _:In64 a)
   have hblw:Below w.heap.size w wr:=HB0.out.trans (hbl.mono (by omega))
   have hmlt:w.heap.size+3<wr.heap.size:=hm.lt
   have HJA:=mH hja
   clear hm hat hrun hc ha hnx hja
   have hja:=HJA.out
   obtain ⟨f',rfl⟩:∃ f',f=f'+1:=⟨f-1,by omega⟩
   rcases hst:stepM x y (mkIns s p) st with ⟨kk,vv⟩ | ⟨p',st'⟩
   ·have HST:=mH hst
    have HE:Hid (R=(kk,vv,n+1)):=(by rw[HRun.out];exact runM_end hst:R=(kk,vv,n+1))
    clear hst
    go_wp2_with (first | (go_at_call 55;refine (At_any s hs p (by omega) _ (HG.out.below hblw)).mono ?_;rintro e w1 ⟨hb1,hor⟩;obtain ⟨_,rfl⟩:=hor.resolve_right (fun h=>h.1 HOK.out);rw[HOV.out];have HM1:=mH ((HM.out.below hb1).below (box3 w1 (.cells #[.int .i64 c,.int .i64 a,.int .i64 nx] 131)))) | (go_at_call 56;refine (do_any p c a nx h17 ⟨by omega,by omega⟩ (by omega) hja HT.out hstl HN.out HAI.out HXY.out HM1.out).mono ?_;rintro e w2 ⟨rfl,hb2,hres⟩;rw[← HMk.out,HST.out]at hres))
    go_roundg 0
    case measure=>omega
    case rel=>exact ⟨(hbl.trans ((hb1.mono (by omega)).trans ((Below.refl _ w1).alloc (by have:=hb1.size;omega) _))).trans hb2,.inl (by rw[HE.out];exact hres)⟩
   ·have HST:=mH hst
    have HGo:=mH (HAT.out.go HXY.out.1 HXY.out.2 hst)
    have HE:Hid (R=runM s x y f' p' st' (n+1)):=(by rw[HRun.out];exact runM_go hst:R=runM s x y f' p' st' (n+1))
    clear hst
    go_wp2_with (first | (go_at_call 55;refine (At_any s hs p (by omega) _ (HG.out.below hblw)).mono ?_;rintro e w1 ⟨hb1,hor⟩;obtain ⟨_,rfl⟩:=hor.resolve_right (fun h=>h.1 HOK.out);rw[HOV.out];have HM1:=mH ((HM.out.below hb1).below (box3 w1 (.cells #[.int .i64 c,.int .i64 a,.int .i64 nx] 131)))) | (go_at_call 56;refine (do_any p c a nx h17 ⟨by omega,by omega⟩ (by omega) hja HT.out hstl HN.out HAI.out HXY.out HM1.out).mono ?_;rintro e w2 ⟨rfl,hb2,hres⟩;rw[← HMk.out,HST.out]at hres))
    go_roundg (s.size-p')
    case measure=>have:=HGo.out.2;omega
    case rel =>
     obtain ⟨sv',hm'⟩:=hres
     have hlt:=HGo.out.2
     exact ⟨(hbl.trans ((hb1.mono (by omega)).trans ((Below.refl _ w1).alloc (by have:=hb1.size;omega) _))).trans hb2,.inr ⟨sv',st',p',n+1,f',by push_cast;exact hm',HGo.out.1,by omega,HE.out,by omega,rfl⟩⟩
open Go.Deep
theorem sits_bsN2(l:List Nat)(h:∀ b∈l,b<256):Sits (bsN l) 0 l:=by
 intro i b hi
 have hlt:i<l.length:=(List.getElem?_eq_some_iff.1 hi).1
 have hb:b<256:=h b (List.mem_of_getElem? hi)
 have hsz:i<(bsN l).size:=by rw[bsN_len];exact hlt
 refine ⟨by rw[Nat.zero_add];exact hsz, ?_⟩
 rw[Nat.zero_add,bt_get _ _ hsz]
 have e:(bsN l)[i]=UInt8.ofNat l[i]:=by
  show (bsN l).data[i]'(by rw[ByteArray.size]at hsz;exact hsz)=_
  simp[bsN]
 have hl:l[i]=b:=(List.getElem?_eq_some_iff.1 hi).2
 rw[e,hl]
 simp[UInt8.toNat_ofNat',Nat.mod_eq_of_lt hb]
end Go.Proofs.YtpcjadaeolkngaaGreatDoor
