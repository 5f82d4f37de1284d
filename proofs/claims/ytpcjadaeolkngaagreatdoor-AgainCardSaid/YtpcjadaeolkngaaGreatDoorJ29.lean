/-
  One operation looked at, plain: what the verifier's heights and its mark are then worth.
-/
import Derived.Test.YtpcjadaeolkngaaGreatDoorJ28
import Derived.Deep.RegionHeld3
import Derived.Deep.Cut
set_option linter.unusedVariables false
set_option linter.unusedSimpArgs false
namespace Go.Proofs.YtpcjadaeolkngaaGreatDoor
open Go.RowKit
def LookedV(s:ByteArray)(nx:Nat)(H:Nat→Int)(wg:Bool):Prop:=(wg=true∧¬ IsImg s)∨(wg=false∧∃ l,Found s (bt s 2) H nx l)
def wrong1(s:ByteArray)(H:Nat→Int)(p:Nat):Bool:=decide (H p=-1∨H p<takesN (bt s p))
def wrong2(s:ByteArray)(H:Nat→Int)(p:Nat):Bool:=insideW H (wrong1 s H p) (p+1) (mkIns s p).next
def aft(s:ByteArray)(H:Nat→Int)(p:Nat):Int:=H p-takesN (bt s p)+laysN (bt s p)
theorem wrong2_true{s:ByteArray}{H:Nat→Int}{p:Nat}{l0:List Ins}(h:Found s (bt s 2) H p l0)(hp:p<s.size)(hw:wrong2 s H p=true):¬ IsImg s:=by
 unfold wrong2 insideW wrong1 at hw
 simp only[Bool.or_eq_true,decide_eq_true_eq]at hw
 rcases hw with (h1 | h1) | ⟨i,h1,h2,h3⟩
 ·exact h.bad_none hp h1
 ·by_cases hn:H p=-1
  ·exact h.bad_none hp hn
  ·exact h.bad_low hp hn h1
 ·exact h.bad_inside hp (by omega) h1 h3
theorem wrong2_false{s:ByteArray}{H:Nat→Int}{p:Nat}(hw:wrong2 s H p=false):H p≠-1∧(takesN (bt s p):Int)≤H p∧∀ i,p<i→i<(mkIns s p).next→H i=-1:=by
 unfold wrong2 insideW wrong1 at hw
 simp only[Bool.or_eq_false_iff,decide_eq_false_iff_not,not_or]at hw
 obtain ⟨⟨h1,h2⟩,h3⟩:=hw
 refine ⟨h1,by omega,fun i h4 h5=>?_⟩
 exact Classical.byContradiction fun h6=>h3 ⟨i,h5,h4,h6⟩
theorem looked_ends{s:ByteArray}{H:Nat→Int}{p:Nat}{l0:List Ins}(h:Found s (bt s 2) H p l0)(hp:p<s.size)(ho:OpOkI s p)(hk:bt s p=16∨bt s p=17):LookedV s (mkIns s p).next H (wrong2 s H p):=by
 cases hw:wrong2 s H p
 ·obtain ⟨_,h2,h3⟩:=wrong2_false hw
  refine .inr ⟨rfl,_,h.step ho h2 h3 (fun q hq=>?_) (fun _ _=>rfl)⟩
  rcases hq with ⟨_,h4,h5,_⟩ | ⟨h4,_⟩
  ·simp only[mkIns]at h4 h5;omega
  ·simp only[mkIns]at h4;omega
 ·exact .inl ⟨rfl,wrong2_true h hp hw⟩
theorem looked_one{s:ByteArray}{H:Nat→Int}{p q:Nat}{l0:List Ins}(h:Found s (bt s 2) H p l0)(hp:p<s.size)(ho:OpOkI s p)(hq:∀ r,Flows (mkIns s p) r↔r=q) :
  LookedV s (mkIns s p).next (reachH s (bt s 2) H q (aft s H p)) (reachW s (bt s 2) H (wrong2 s H p) q (aft s H p)):=by
 have hfl:Flows (mkIns s p) q:=(hq q).2 rfl
 cases hw:wrong2 s H p
 ·obtain ⟨h1,h2,h3⟩:=wrong2_false hw
  by_cases hb:s.size≤q∨(bt s 2:Int)<aft s H p∨(H q≠-1∧H q≠aft s H p)
  ·exact .inl ⟨by unfold reachW;rw[decide_eq_true hb];rfl,h.bad_flow hp h1 hfl hb⟩
  ·refine .inr ⟨by unfold reachW;rw[decide_eq_false hb];rfl,_,h.step ho h2 h3 (fun r hr=>?_) (fun r hr=>?_)⟩
   ·obtain rfl:=(hq r).1 hr
    refine ⟨by omega,by unfold aft at hb;omega,by unfold aft at hb;omega, ?_⟩
    unfold reachH
    rw[if_neg (by omega)]
    simp[upd,aft]
   ·unfold reachH
    rw[if_neg (by omega)]
    have:r≠q:=fun e=>hr ((hq r).2 e)
    simp[upd,this]
 ·exact .inl ⟨by unfold reachW;rfl,wrong2_true h hp hw⟩
theorem looked_two{s:ByteArray}{H:Nat→Int}{p q r:Nat}{l0:List Ins}(h:Found s (bt s 2) H p l0)(hp:p<s.size)(ho:OpOkI s p)(hq:∀ t,Flows (mkIns s p) t↔t=q∨t=r) :
  LookedV s (mkIns s p).next (reachH s (bt s 2) (reachH s (bt s 2) H q (aft s H p)) r (aft s H p)) (reachW s (bt s 2) (reachH s (bt s 2) H q (aft s H p)) (reachW s (bt s 2) H (wrong2 s H p) q (aft s H p)) r (aft s H p)):=by
 have hfq:Flows (mkIns s p) q:=(hq q).2 (.inl rfl)
 have hfr:Flows (mkIns s p) r:=(hq r).2 (.inr rfl)
 cases hw:wrong2 s H p
 ·obtain ⟨h1,h2,h3⟩:=wrong2_false hw
  by_cases hb:s.size≤q∨(bt s 2:Int)<aft s H p∨(H q≠-1∧H q≠aft s H p)
  ·refine .inl ⟨?_,h.bad_flow hp h1 hfq hb⟩
   have:reachW s (bt s 2) H false q (aft s H p)=true:=by unfold reachW;rw[decide_eq_true hb];rfl
   rw[this];rfl
  ·have e1:reachW s (bt s 2) H false q (aft s H p)=false:=by unfold reachW;rw[decide_eq_false hb];rfl
   have e2:reachH s (bt s 2) H q (aft s H p)=upd H q (aft s H p):=by unfold reachH;rw[if_neg (by omega)]
   rw[e1,e2]
   by_cases hb2:s.size≤r∨(bt s 2:Int)<aft s H p∨(H r≠-1∧H r≠aft s H p)
   ·by_cases hrq:r=q
    ·subst hrq;exact absurd hb2 hb
    ·refine .inl ⟨?_,h.bad_flow hp h1 hfr hb2⟩
     unfold reachW
     rw[show upd H q (aft s H p) r=H r by simp[upd,hrq],decide_eq_true hb2];rfl
   ·refine .inr ⟨?_,_,h.step ho h2 h3 (fun t ht=>?_) (fun t ht=>?_)⟩
    ·unfold reachW
     rw[decide_eq_false];· rfl
     by_cases hrq:r=q
     ·subst hrq;simp[upd];omega
     ·rw[show upd H q (aft s H p) r=H r by simp[upd,hrq]];exact hb2
    ·have e3:reachH s (bt s 2) (upd H q (aft s H p)) r (aft s H p)=upd (upd H q (aft s H p)) r (aft s H p):=by unfold reachH;rw[if_neg (by omega)]
     rw[e3]
     rcases (hq t).1 ht with rfl | rfl
     ·refine ⟨by omega,by unfold aft at hb;omega,by unfold aft at hb;omega, ?_⟩
      unfold upd aft
      by_cases e:t=r <;> simp[e]
     ·refine ⟨by omega,by unfold aft at hb2;omega,by unfold aft at hb2;omega, ?_⟩
      simp[upd,aft]
    ·have e3:reachH s (bt s 2) (upd H q (aft s H p)) r (aft s H p)=upd (upd H q (aft s H p)) r (aft s H p):=by unfold reachH;rw[if_neg (by omega)]
     rw[e3]
     have h5:t≠q:=fun e=>ht ((hq t).2 (.inl e))
     have h6:t≠r:=fun e=>ht ((hq t).2 (.inr e))
     simp[upd,h5,h6]
 ·exact .inl ⟨by unfold reachW;rfl,wrong2_true h hp hw⟩
theorem LookedV.next_op{s:ByteArray}{p:Nat}(h:bt s p≠13∧bt s p≠14∧bt s p≠15∧bt s p≠16∧bt s p≠17):∀ r,Flows (mkIns s p) r↔r=(mkIns s p).next:=by
 intro r
 constructor
 ·rintro (⟨_,_,_,h4⟩ | ⟨h4,_⟩)
  ·exact h4
  ·simp only[mkIns]at h4;omega
 ·intro h4
  exact .inl ⟨by simp only[mkIns];omega,by simp only[mkIns];omega,by simp only[mkIns];omega,h4⟩
theorem LookedV.jump_op{s:ByteArray}{p:Nat}(h:bt s p=13):∀ r,Flows (mkIns s p) r↔r=(mkIns s p).to:=by
 intro r
 have ht:=jump_to s p (.inl h)
 constructor
 ·rintro (⟨h4,_⟩ | ⟨_,h4⟩)
  ·exact absurd h h4
  ·omega
 ·intro h4
  exact .inr ⟨.inl h,by omega⟩
theorem LookedV.if_op{s:ByteArray}{p:Nat}(h:bt s p=14∨bt s p=15):∀ r,Flows (mkIns s p) r↔r=(mkIns s p).next∨r=(mkIns s p).to:=by
 intro r
 have ht:=jump_to s p (.inr h)
 constructor
 ·rintro (⟨_,_,_,h4⟩ | ⟨_,h4⟩)
  ·exact .inl h4
  ·exact .inr (by omega)
 ·rintro (h4 | h4)
  ·exact .inl ⟨by simp only[mkIns];omega,by simp only[mkIns];omega,by simp only[mkIns];omega,h4⟩
  ·exact .inr ⟨.inr h,by omega⟩
theorem GlobP.drew{w:World}(h:GlobP w):GlobP w.drew:=⟨h.bytes,h.takes,h.lays,h.size⟩
theorem GlobP.belowB{w w':World}{B:Nat}(h:GlobP w)(hb:Below B w w')(h0:0<B)(h1:1<B)(h2:2<B):GlobP w' :=
 ⟨fun c hc=>(hb.cell (p:=⟨0,c,none⟩) h0).trans (h.bytes c hc),fun c hc=>(hb.cell (p:=⟨1,c,none⟩) h1).trans (h.takes c hc),fun c hc=>(hb.cell (p:=⟨2,c,none⟩) h2).trans (h.lays c hc),⟨Nat.lt_of_lt_of_le h.size.1 hb.size,Nat.lt_of_lt_of_le h.size.2.1 hb.size,Nat.lt_of_lt_of_le h.size.2.2 hb.size⟩⟩
theorem VStv.drew{w:World}{vb hb:Nat}{s:ByteArray}{most:Nat}{H:Nat→Int}{wg:Bool}(h:VStv w vb hb s most H wg):VStv w.drew vb hb s most H wg:=⟨h.st,h.ht,h.ne⟩
def MRes(w:World)(mb:Nat)(x:Itm)(y:Bn)(res:(Nat×Int) ⊕ (Nat×List Int))(n:Int):Prop :=
 match res with
 | .inl (k,v)=>∃ sv st p,MSt w mb x y sv st p true k v n
 | .inr (p,st)=>∃ sv,MSt w mb x y sv st p false 0 0 n
theorem MRes.lay0{w:World}{mb:Nat}{x:Itm}{y:Bn}{a:Int}{f p:Nat}{st:List Int}{n:Int}(hf:f=0)(h:∃ sv,MSt w mb x y sv (a :: st) p false 0 0 n):MRes w mb x y (layM (a,f) p st) n:=by
 subst hf;exact h
theorem MRes.lay1{w:World}{mb:Nat}{x:Itm}{y:Bn}{a:Int}{f p:Nat}{st:List Int}{n:Int}(hf:f≠0)(h:∃ sv st p,MSt w mb x y sv st p true 2 f n):MRes w mb x y (layM (a,f) p st) n:=by
 unfold layM;simp only[hf,if_false];exact h
set_option maxHeartbeats 1000000 in
theorem layOrFault_any{w:World}{mb:Nat}{x:Itm}{y:Bn}{sv:Value}{st:List Int}{p:Nat}{n:Int}(z:Int)(f:Nat)(hf:f≤2)(hl:st.length≤4000)(h:MSt w mb x y sv st p false 0 0 n) :
  Calls Tryz.prog 120 #[.pointer (some ⟨mb,0,none⟩),.int .i64 z,.int .i64 f] w fun e w'=>e=.returned (.tuple #[])∧Below mb w w'∧MRes w' mb x y (layM (z,f) p st) n:=by
 have HM:Hid (MSt w mb x y sv st p false 0 0 n):=h
 clear h
 by_cases h0:f=0
 ·subst h0
  go_enter Tryz.func120,Tryz.ntmps120
  go_wp2_with (go_at_call 87;refine (rlay_any z hl HM.out).mono ?_;rintro e w1 ⟨rfl,hb1,hm1⟩)
  go_end0
  exact ⟨rfl,hb1,.lay0 rfl hm1⟩
 ·have e0:((f:Int)==0)=false:=by simp;omega
  have e0':((f:Int) != 0)=true:=by simp;omega
  have H0:Hid (f≠0):=h0
  clear h0
  go_enter Tryz.func120,Tryz.ntmps120
  go_wp2_with (go_at_call 92;refine (end_any 2 f HM.out).mono ?_;rintro e w1 ⟨rfl,hb1,hm1⟩)
  refine bodyPost_ret (results_none rfl _ _ _) rfl ?_
  exact ⟨rfl,hb1,.lay1 H0.out ⟨_,_,_,hm1⟩⟩
theorem neg_le2(a:Int):(negN a).2≤2:=by unfold negN exact64;split <;> simp
theorem one_le2(c:Nat)(a:Int):(oneN c a).2≤2:=by
 unfold oneN;split
 ·exact neg_le2 a
 ·simp
theorem join_le2(c:Nat)(a b:Int):(joinN c a b).2≤2:=by
 have e:∀ v,(exact64 v).2≤2:=fun v=>by unfold exact64;split <;> simp
 unfold joinN
 (repeat' split) <;> first | exact e _ | simp
set_option maxHeartbeats 1000000 in
theorem one_any'{w:World}{mb:Nat}{x:Itm}{y:Bn}{sv:Value}{a:Int}{r:List Int}{p:Nat}{n:Int}(c:Nat)(hc:c=2∨c=3)(ha:In64 a)(hl:r.length≤4000)(h:MSt w mb x y sv (a :: r) p false 0 0 n) :
  Calls Tryz.prog 89 #[.pointer (some ⟨mb,0,none⟩),.int .i64 c] w fun e w'=>e=.returned (.tuple #[])∧Below mb w w'∧MRes w' mb x y (layM (oneN c a) p r) n:=by
 have HM:Hid (MSt w mb x y sv (a :: r) p false 0 0 n):=h
 have HA:Hid (In64 a):=ha
 have HC:Hid (c=2∨c=3):=hc
 obtain ⟨z,hz⟩:∃ z,z=(oneN c a).1:=⟨_,rfl⟩
 obtain ⟨f,hf⟩:∃ f,f=(oneN c a).2:=⟨_,rfl⟩
 have HZ:Hid ((oneN c a).1=z):=hz.symm
 have HF:Hid ((oneN c a).2=f):=hf.symm
 have hf2:f≤2:=by rw[hf];exact one_le2 c a
 have e:layM (oneN c a) p r=layM (z,f) p r:=by rw[hz,hf]
 rw[e]
 clear h ha hc hz hf e
 go_enter Tryz.func89,Tryz.ntmps89
 go_wp2_with (first | (go_at_call 91;refine (take_any hl HM.out).mono ?_;rintro e w1 ⟨rfl,hb1,_,sv1,hm1⟩;have HM1:=mH hm1;clear hm1) | (go_at_call 119;refine (One_any c HC.out a HA.out _).mono ?_;rintro e w2 ⟨rfl,rfl⟩;rw[HZ.out,HF.out]) | (go_at_call 120;refine (layOrFault_any z f hf2 hl HM1.out).mono ?_;rintro e w3 ⟨rfl,hb3,hm3⟩))
 go_end0
 exact ⟨rfl,hb1.trans hb3,hm3⟩
set_option maxHeartbeats 1000000 in
theorem two_any'{w:World}{mb:Nat}{x:Itm}{y:Bn}{sv:Value}{a b:Int}{r:List Int}{p:Nat}{n:Int}(c:Nat)(hc:4≤c∧c≤12)(ha:In64 a)(hb:In64 b)(hl:r.length≤3000)(h:MSt w mb x y sv (b :: a :: r) p false 0 0 n) :
  Calls Tryz.prog 93 #[.pointer (some ⟨mb,0,none⟩),.int .i64 c] w fun e w'=>e=.returned (.tuple #[])∧Below mb w w'∧MRes w' mb x y (layM (joinN c a b) p r) n:=by
 have HM:Hid (MSt w mb x y sv (b :: a :: r) p false 0 0 n):=h
 have HA:Hid (In64 a):=ha
 have HB:Hid (In64 b):=hb
 obtain ⟨z,hz⟩:∃ z,z=(joinN c a b).1:=⟨_,rfl⟩
 obtain ⟨f,hf⟩:∃ f,f=(joinN c a b).2:=⟨_,rfl⟩
 have HZ:Hid ((joinN c a b).1=z):=hz.symm
 have HF:Hid ((joinN c a b).2=f):=hf.symm
 have hf2:f≤2:=by rw[hf];exact join_le2 c a b
 have e:layM (joinN c a b) p r=layM (z,f) p r:=by rw[hz,hf]
 rw[e]
 clear h ha hb hz hf e
 go_enter Tryz.func93,Tryz.ntmps93
 go_wp2_with fail
 refine (take_any (by simp;omega) HM.out).mono ?_
 rintro e w1 ⟨rfl,hb1,_,sv1,hm1⟩
 have HM1:=mH hm1
 clear hm1
 go_wp2_with fail
 refine (take_any (by omega) HM1.out).mono ?_
 rintro e w2 ⟨rfl,hb2,_,sv2,hm2⟩
 have HM2:=mH hm2
 clear hm2
 go_wp2_with (first | (go_at_call 121;refine (Two_any c hc a b HA.out HB.out _).mono ?_;rintro e w2 ⟨rfl,rfl⟩;rw[HZ.out,HF.out]) | (go_at_call 120;refine (layOrFault_any z f hf2 (by omega) HM2.out).mono ?_;rintro e w3 ⟨rfl,hb3,hm3⟩))
 go_end0
 exact ⟨rfl,(hb1.trans hb2).trans hb3,hm3⟩
def insCells(c:Nat)(a:Int)(nx:Nat):Array Value:=#[.int .i64 c,.int .i64 a,.int .i64 nx]
structure LookAt(w0 w:World)(B vb hb:Nat)(s:ByteArray)(H:Nat→Int)(wg:Bool)(xb:Nat)(c:Nat)(a:Int)(nx:Nat):Prop where
 v:VStv w vb hb s (bt s 2) H wg
 x:Blk w xb (insCells c a nx) 131
 g:GlobP w
 bl:Below B w0 w
 ne:xb≠vb∧xb≠hb
 hB:B≤vb∧B≤hb
 hG:0<B∧1<B∧2<B
section
variable {w0 w w':World} {B vb hb:Nat} {s:ByteArray} {H H':Nat→Int} {wg wg':Bool} {xb c:Nat} {a:Int} {nx:Nat}
theorem LookAt.d0(h:LookAt w0 w B vb hb s H wg xb c a nx):w.cell? ⟨xb,0,none⟩=some (.int .i64 c):=by rw[h.x.cell];rfl
theorem LookAt.d1(h:LookAt w0 w B vb hb s H wg xb c a nx):w.cell? ⟨xb,1,none⟩=some (.int .i64 a):=by rw[h.x.cell];rfl
theorem LookAt.d2(h:LookAt w0 w B vb hb s H wg xb c a nx):w.cell? ⟨xb,2,none⟩=some (.int .i64 nx):=by rw[h.x.cell];rfl
theorem LookAt.below(h:LookAt w0 w B vb hb s H wg xb c a nx)(hb':Below w.heap.size w w'):LookAt w0 w' B vb hb s H wg xb c a nx :=
 ⟨h.v.below hb',h.x.below hb' h.x.lt,h.g.below hb',h.bl.trans (hb'.mono (Nat.le_of_lt (Nat.lt_of_le_of_lt h.hB.1 h.v.st.lt))),h.ne,h.hB,h.hG⟩
theorem LookAt.drew(h:LookAt w0 w B vb hb s H wg xb c a nx):LookAt w0 w.drew B vb hb s H wg xb c a nx:=⟨h.v.drew,h.x,h.g.drew,h.bl.drew,h.ne,h.hB,h.hG⟩
theorem LookAt.wrong(h:LookAt w0 w B vb hb s H wg xb c a nx):LookAt w0 (w.setCell ⟨vb,3,none⟩ (.bool true)) B vb hb s H true xb c a nx:=by
 have hs:Below B w (w.setCell ⟨vb,3,none⟩ (.bool true)):=(Below.refl B w).setCell (p:=⟨vb,3,none⟩) h.hB.1 _
 exact ⟨h.v.wrong,h.x.other _ _ h.ne.1,h.g.belowB hs h.hG.1 h.hG.2.1 h.hG.2.2,h.bl.trans hs,h.ne,h.hB,h.hG⟩
theorem LookAt.only(h:LookAt w0 w B vb hb s H wg xb c a nx)(hv:VStv w' vb hb s (bt s 2) H' wg')(hb':Below B w w')(ho:∀ b,b≠vb→b≠hb→w'.heap[b]?=w.heap[b]?):LookAt w0 w' B vb hb s H' wg' xb c a nx :=
 ⟨hv,by have:=h.x;unfold Blk at this ⊢;rw[ho xb h.ne.1 h.ne.2];exact this,h.g.belowB hb' h.hG.1 h.hG.2.1 h.hG.2.2,h.bl.trans hb',h.ne,h.hB,h.hG⟩
end
theorem Hid.mk'{p:Prop}(h:p):Hid p:=h
theorem look_start{w w1:World}{B vb hb:Nat}{s:ByteArray}{H:Nat→Int}{c:Nat}{a:Int}{nx:Nat}(hB:B≤vb∧B≤hb)(hG:0<B∧1<B∧2<B)(hBw:B≤w.heap.size)(hv:VStv w1 vb hb s (bt s 2) H false)(hg:GlobP w1)(hb1:Below w.heap.size w w1) :
  LookAt w (w1.alloc (.cells #[.int .i64 c,.int .i64 a,.int .i64 nx] 131)) B vb hb s H false w1.heap.size c a nx :=
 ⟨hv.below (box3 _ _),Blk.new _ _ _,hg.below (box3 _ _),((hb1.mono hBw).trans ((Below.refl B w1).alloc (Nat.le_trans hBw hb1.size) _)),⟨by have:=hv.st.lt;omega,by have:=hv.ht.lt;omega⟩,hB,hG⟩
theorem Takes_c(c:Nat)(a:Int)(nx:Nat)(hc:c≤17)(w:World)(hg:GlobP w) :
  Calls Tryz.prog 80 #[.agg #[.int .i64 c,.int .i64 a,.int .i64 nx]] w fun e w'=>e=.returned (.int .i64 (takesN c))∧Below w.heap.size w w':=Takes_any ⟨0,c,a,nx⟩ hc w hg
theorem Lays_c(c:Nat)(a:Int)(nx:Nat)(hc:c≤17)(w:World)(hg:GlobP w) :
  Calls Tryz.prog 83 #[.agg #[.int .i64 c,.int .i64 a,.int .i64 nx]] w fun e w'=>e=.returned (.int .i64 (laysN c))∧Below w.heap.size w w':=Lays_any ⟨0,c,a,nx⟩ hc w hg
theorem Ends_c(c:Nat)(a:Int)(nx:Nat)(w:World) :
  Calls Tryz.prog 82 #[.agg #[.int .i64 c,.int .i64 a,.int .i64 nx]] w fun e w'=>e=.returned (.bool (((c:Int)==16)||((c:Int)==17)))∧Below w.heap.size w w':=Ends_any ⟨0,c,a,nx⟩ w
theorem Jumps_c(c:Nat)(a:Int)(nx:Nat)(w:World) :
  Calls Tryz.prog 84 #[.agg #[.int .i64 c,.int .i64 a,.int .i64 nx]] w fun e w'=>e=.returned (.bool ((((c:Int)==13)||((c:Int)==14))||((c:Int)==15)))∧Below w.heap.size w w':=Jumps_any ⟨0,c,a,nx⟩ w
theorem Target_c(c:Nat)(a:Int)(nx:Nat)(h1:0≤a)(h2:a≤65535)(h3:nx≤100000)(w:World) :
  Calls Tryz.prog 85 #[.agg #[.int .i64 c,.int .i64 a,.int .i64 nx]] w fun e w'=>e=.returned (.int .i64 ((nx:Int)+a))∧Below w.heap.size w w':=Target_any ⟨0,c,a,nx⟩ h1 h2 h3 w
set_option maxHeartbeats 2000000 in
set_option maxRecDepth 100000 in
theorem vlook_any(s:ByteArray)(hs:s.size≤4000)(p:Nat)(hp:p<s.size)(w:World)(B vb hb:Nat)(hB:B≤vb∧B≤hb)(hG:0<B∧1<B∧2<B)
  (H:Nat→Int) (h:VStv w vb hb s (bt s 2) H false) (hg:GlobP w) (l0:List Ins) (hF:Found s (bt s 2) H p l0) :
  Calls Tryz.prog 52 #[.pointer (some ⟨vb,0,none⟩),.int .i64 p] w fun e w'=>Below B w w'∧∃ (nx:Nat) (H':Nat→Int) (wg:Bool),e=.returned (.int .i64 nx)∧VStv w' vb hb s (bt s 2) H' wg∧p<nx∧nx≤s.size∧LookedV s nx H' wg:=by
 have c0:=h.c0
 have HV:Hid (VStv w vb hb s (bt s 2) H false):=h
 have HG:Hid (GlobP w):=hg
 have HF:Hid (Found s (bt s 2) H p l0):=hF
 have hBw:B≤w.heap.size:=Nat.le_of_lt (Nat.lt_of_le_of_lt hB.1 h.st.lt)
 clear h hg hF
 by_cases hop:OpOkI s p
 case neg =>
  have HK:Hid (¬ OpOkI s p):=hop
  clear hop
  go_enter Tryz.func52,Tryz.ntmps52
  go_wp2_with (go_at_call 55;refine (At_any s hs p (by omega) _ HG.out.y).mono ?_;rintro e w1 ⟨hb1,hor⟩;obtain ⟨_,rfl⟩:=hor.resolve_left (fun h=>HK.out h.1);unfold noV;have hv1:Hid (VStv (w1.alloc (.cells #[.int .i64 0,.int .i64 0,.int .i64 0] 131)) vb hb s (bt s 2) H false):=(HV.out.below hb1).below (box3 _ _);have f3:=hv1.out.st.free 3;have c3:=hv1.out.c3;have c0':=hv1.out.wrong.c0)
  go_ret
  exact ⟨(hb1.mono hBw).trans (((Below.refl B w1).alloc (Nat.le_trans hBw hb1.size) _).setCell (p:=⟨vb,3,none⟩) hB.1 _),s.size,H,true,rfl,hv1.out.wrong,hp,Nat.le_refl _,.inl ⟨rfl,HF.out.bad_op hp HK.out⟩⟩
 have HK:Hid (OpOkI s p):=hop
 obtain ⟨c,hc⟩:∃ c,c=bt s p:=⟨_,rfl⟩
 obtain ⟨a,ha⟩:∃ a,a=(mkIns s p).arg:=⟨_,rfl⟩
 obtain ⟨nx,hnx⟩:∃ nx,nx=(mkIns s p).next:=⟨_,rfl⟩
 have HOV:Hid (opV (mkIns s p)=.agg #[.int .i64 c,.int .i64 a,.int .i64 nx]):=(by rw[hc,ha,hnx];rfl:_=_)
 have h17:c≤17:=by rw[hc];exact hop.2.1
 have hpn:p<nx:=by rw[hnx];exact next_pos s p
 have hfit:nx≤s.size:=by rw[hnx];exact hop.2.2.1
 have hja:c=13∨c=14∨c=15→0≤a∧a≤65535:=by
  intro h
  have h1:=jump_arg s p (by rw[hc]at h;exact h)
  have:=lowU_two s (p+1)
  omega
 have hlo:-1≤H p:=HF.out.low p
 have hhi:H p≤bt s 2:=HF.out.high p
 have hmo:bt s 2<256:=bt_lt s 2
 obtain ⟨tk,htk⟩:∃ tk,tk=takesN c:=⟨_,rfl⟩
 obtain ⟨ly,hly⟩:∃ ly,ly=laysN c:=⟨_,rfl⟩
 have htk2:tk≤2:=by rw[htk];unfold takesN;(repeat' split) <;> omega
 have hly1:ly≤1:=by rw[hly];unfold laysN;split <;> omega
 have HTk:Hid (takesN c=tk):=htk.symm
 have HLy:Hid (laysN c=ly):=hly.symm
 have HAf:Hid (aft s H p=H p-tk+ly):=(by unfold aft;rw[htk,hly,hc]:_=_)
 have HC:Hid (bt s p=c):=hc.symm
 have HNx:Hid ((mkIns s p).next=nx):=hnx.symm
 have HAr:Hid ((mkIns s p).arg=a):=ha.symm
 have hw1:wrong1 s H p=decide (H p=-1∨H p<tk):=by unfold wrong1;rw[htk,hc]
 have HW0:Hid (∀ b,wrong1 s H p=b→insideW H b (p+1) nx=wrong2 s H p):=(by intro b hb;unfold wrong2;rw[hb,hnx]:∀ b,wrong1 s H p=b→insideW H b (p+1) nx=wrong2 s H p)
 have hcase:((H p==-1)=true∧wrong1 s H p=true)∨((H p==-1)=false∧decide (H p<tk)=true∧wrong1 s H p=true)∨((H p==-1)=false∧decide (H p<tk)=false∧wrong1 s H p=false):=by
  rw[hw1]
  by_cases e1:H p=-1
  ·exact .inl ⟨by simpa using e1,by simp[e1]⟩
  ·by_cases e2:H p<tk
   ·exact .inr (.inl ⟨by simpa using e1,by simpa using e2,by simp[e2]⟩)
   ·exact .inr (.inr ⟨by simpa using e1,by simpa using e2,by simp[e1,e2]⟩)
 clear hop hc ha hnx htk hly hw1
 rcases hcase with ⟨hh1,hw⟩ | ⟨hh1,hh2,hw⟩ | ⟨hh1,hh2,hw⟩
 all_goals
  have HW2:=Hid.mk' (HW0.out _ hw)
  clear hw
  go_enter Tryz.func52,Tryz.ntmps52
  go_upto_region 9 with (first | (go_at_call 55;refine (At_any s hs p (by omega) _ HG.out.y).mono ?_;rintro e w1 ⟨hb1,hor⟩;obtain ⟨_,rfl⟩:=hor.resolve_right (fun h=>h.1 HK.out);rw[HOV.out];have hv1:=HV.out.below hb1;have HL:Hid (LookAt w (w1.alloc (.cells #[.int .i64 c,.int .i64 a,.int .i64 nx] 131)) B vb hb s H false w1.heap.size c a nx):=look_start hB hG hBw hv1 (HG.out.below hb1) hb1;have d0:=HL.out.d0;have d1:=HL.out.d1;have d2:=HL.out.d2;have f3:=HL.out.v.st.free 3;have c3:=HL.out.v.c3) | (go_at_call 79;refine (heightAt_any hs p hp HL.out.v).mono ?_;rintro e w' ⟨rfl,rfl⟩) | (go_at_call 80;refine (Takes_c c a nx h17 _ HL.out.g).mono ?_;rintro e w2 ⟨rfl,hb2⟩;rw[HTk.out];replace HL:=Hid.mk' (HL.out.below hb2);have d0:=HL.out.d0;have d1:=HL.out.d1;have d2:=HL.out.d2;have f3:=HL.out.v.st.free 3;have c3:=HL.out.v.c3) | (go_at_call 81;refine (refuseInside_any hs B hB (p+1) nx (by omega) hfit (by first | exact HL.out.v | exact HL.out.wrong.v)).mono ?_;rintro e w3 ⟨rfl,hv3,hbl3,hsz3,ho3⟩;rw[HW2.out]at hv3;replace HL:=Hid.mk' (by first | exact HL.out.only hv3 hbl3 ho3 | exact HL.out.wrong.only hv3 hbl3 ho3:LookAt w w3 B vb hb s H (wrong2 s H p) w1.heap.size c a nx);have d0:=HL.out.d0;have d1:=HL.out.d1;have d2:=HL.out.d2;have f3:=HL.out.v.st.free 3;have c3:=HL.out.v.c3))
  have hk:(c=16∨c=17)∨c=13∨(c=14∨c=15)∨(c≠13∧c≠14∧c≠15∧c≠16∧c≠17):=by omega
  rcases hk with hk | hk | hk | hk
  ·have e16:(((c:Int)==16)||((c:Int)==17))=true:=by rcases hk with h | h <;> simp[h]
   have HKd:Hid (c=16∨c=17):=hk
   clear hk hja
   go_wp2_with (go_at_call 82;refine (Ends_c c a nx _).mono ?_;rintro e w2 ⟨rfl,hb2⟩;rw[e16];replace HL:=Hid.mk' (HL.out.below hb2);have d0:=HL.out.d0;have d1:=HL.out.d1;have d2:=HL.out.d2;have f3:=HL.out.v.st.free 3;have c3:=HL.out.v.c3)
   go_ret
   have:=looked_ends HF.out hp HK.out (by rw[HC.out];exact HKd.out)
   rw[HNx.out]at this
   exact ⟨HL.out.bl,nx,H,_,rfl,HL.out.v,hpn,hfit,this⟩
  ·have e16:(((c:Int)==16)||((c:Int)==17))=false:=by simp[hk]
   have eJ:((((c:Int)==13)||((c:Int)==14))||((c:Int)==15))=true:=by simp[hk]
   have e13:((c:Int)==13)=true:=by simp[hk]
   have e13':((c:Int) != 13)=false:=by simp[hk]
   have HKd:Hid (c=13):=hk
   obtain ⟨ha0,ha6⟩:=hja (.inl hk)
   obtain ⟨q,hq⟩:∃ q:Nat,(nx:Int)+a=q:=⟨((nx:Int)+a).toNat,by omega⟩
   have HQ:Hid ((nx:Int)+a=(q:Nat)):=hq
   have HTo:Hid ((mkIns s p).to=q):=(by unfold Ins.to;rw[HNx.out,HAr.out,hq];simp:(mkIns s p).to=q)
   clear hq
   clear hk hja
   go_wp2_with (go_at_call 82;refine (Ends_c c a nx _).mono ?_;rintro e w2 ⟨rfl,hb2⟩;rw[e16];replace HL:=Hid.mk' (HL.out.below hb2);have d0:=HL.out.d0;have d1:=HL.out.d1;have d2:=HL.out.d2;have f3:=HL.out.v.st.free 3;have c3:=HL.out.v.c3)
   go_region_held3 (fun w'=>w'.cell? ⟨w1.heap.size,0,none⟩=some (.int .i64 c)∧w'.cell? ⟨w1.heap.size,1,none⟩=some (.int .i64 a)∧w'.cell? ⟨w1.heap.size,2,none⟩=some (.int .i64 nx)) (go_keep) (first | (go_at_call 80;refine (Takes_c c a nx h17 _ HL.out.drew.g).mono ?_;rintro e w2 ⟨rfl,hb2⟩;rw[HTk.out];replace HL:=Hid.mk' (HL.out.drew.below hb2);have d0:=HL.out.d0;have d1:=HL.out.d1;have d2:=HL.out.d2;have f3:=HL.out.v.st.free 3;have c3:=HL.out.v.c3) | (go_at_call 80;refine (Takes_c c a nx h17 _ HL.out.g).mono ?_;rintro e w2 ⟨rfl,hb2⟩;rw[HTk.out];replace HL:=Hid.mk' (HL.out.below hb2);have d0:=HL.out.d0;have d1:=HL.out.d1;have d2:=HL.out.d2;have f3:=HL.out.v.st.free 3;have c3:=HL.out.v.c3) | (go_at_call 83;refine (Lays_c c a nx h17 _ HL.out.drew.g).mono ?_;rintro e w2 ⟨rfl,hb2⟩;rw[HLy.out];replace HL:=Hid.mk' (HL.out.drew.below hb2);have d0:=HL.out.d0;have d1:=HL.out.d1;have d2:=HL.out.d2;have f3:=HL.out.v.st.free 3;have c3:=HL.out.v.c3) | (go_at_call 83;refine (Lays_c c a nx h17 _ HL.out.g).mono ?_;rintro e w2 ⟨rfl,hb2⟩;rw[HLy.out];replace HL:=Hid.mk' (HL.out.below hb2);have d0:=HL.out.d0;have d1:=HL.out.d1;have d2:=HL.out.d2;have f3:=HL.out.v.st.free 3;have c3:=HL.out.v.c3))
   all_goals
    go_wp2_with (first | (go_at_call 84;refine (Jumps_c c a nx _).mono ?_;rintro e w2 ⟨rfl,hb2⟩;rw[eJ];replace HL:=Hid.mk' (HL.out.below hb2);have d0:=HL.out.d0;have d1:=HL.out.d1;have d2:=HL.out.d2;have f3:=HL.out.v.st.free 3;have c3:=HL.out.v.c3) | (go_at_call 85;refine (Target_c c a nx ha0 ha6 (by omega) _).mono ?_;rintro e w2 ⟨rfl,hb2⟩;rw[HQ.out];replace HL:=Hid.mk' (HL.out.below hb2);have d0:=HL.out.d0;have d1:=HL.out.d1;have d2:=HL.out.d2;have f3:=HL.out.v.st.free 3;have c3:=HL.out.v.c3) | (go_at_call 51;refine (reach_any hs B hB _ _ HL.out.v).mono ?_;rintro e w4 ⟨rfl,hv4,hbl4,hsz4,ho4⟩;replace HL:=Hid.mk' (HL.out.only hv4 hbl4 ho4);have d0:=HL.out.d0;have d1:=HL.out.d1;have d2:=HL.out.d2;have f3:=HL.out.v.st.free 3;have c3:=HL.out.v.c3))
    go_ret
    have:=looked_one HF.out hp HK.out (LookedV.jump_op (by rw[HC.out];exact HKd.out))
    rw[HNx.out,HTo.out,HAf.out]at this
    exact ⟨HL.out.bl,nx,_,_,rfl,HL.out.v,hpn,hfit,this⟩
  ·have e16:(((c:Int)==16)||((c:Int)==17))=false:=by rcases hk with h | h <;> simp[h]
   have eJ:((((c:Int)==13)||((c:Int)==14))||((c:Int)==15))=true:=by rcases hk with h | h <;> simp[h]
   have e13:((c:Int)==13)=false:=by rcases hk with h | h <;> simp[h]
   have e13':((c:Int) != 13)=true:=by rcases hk with h | h <;> simp[h]
   have HKd:Hid (c=14∨c=15):=hk
   obtain ⟨ha0,ha6⟩:=hja (.inr hk)
   obtain ⟨q,hq⟩:∃ q:Nat,(nx:Int)+a=q:=⟨((nx:Int)+a).toNat,by omega⟩
   have HQ:Hid ((nx:Int)+a=(q:Nat)):=hq
   have HTo:Hid ((mkIns s p).to=q):=(by unfold Ins.to;rw[HNx.out,HAr.out,hq];simp:(mkIns s p).to=q)
   clear hq
   clear hk hja
   go_wp2_with (go_at_call 82;refine (Ends_c c a nx _).mono ?_;rintro e w2 ⟨rfl,hb2⟩;rw[e16];replace HL:=Hid.mk' (HL.out.below hb2);have d0:=HL.out.d0;have d1:=HL.out.d1;have d2:=HL.out.d2;have f3:=HL.out.v.st.free 3;have c3:=HL.out.v.c3)
   go_region_held3 (fun w'=>w'.cell? ⟨w1.heap.size,0,none⟩=some (.int .i64 c)∧w'.cell? ⟨w1.heap.size,1,none⟩=some (.int .i64 a)∧w'.cell? ⟨w1.heap.size,2,none⟩=some (.int .i64 nx)) (go_keep) (first | (go_at_call 80;refine (Takes_c c a nx h17 _ HL.out.drew.g).mono ?_;rintro e w2 ⟨rfl,hb2⟩;rw[HTk.out];replace HL:=Hid.mk' (HL.out.drew.below hb2);have d0:=HL.out.d0;have d1:=HL.out.d1;have d2:=HL.out.d2;have f3:=HL.out.v.st.free 3;have c3:=HL.out.v.c3) | (go_at_call 80;refine (Takes_c c a nx h17 _ HL.out.g).mono ?_;rintro e w2 ⟨rfl,hb2⟩;rw[HTk.out];replace HL:=Hid.mk' (HL.out.below hb2);have d0:=HL.out.d0;have d1:=HL.out.d1;have d2:=HL.out.d2;have f3:=HL.out.v.st.free 3;have c3:=HL.out.v.c3) | (go_at_call 83;refine (Lays_c c a nx h17 _ HL.out.drew.g).mono ?_;rintro e w2 ⟨rfl,hb2⟩;rw[HLy.out];replace HL:=Hid.mk' (HL.out.drew.below hb2);have d0:=HL.out.d0;have d1:=HL.out.d1;have d2:=HL.out.d2;have f3:=HL.out.v.st.free 3;have c3:=HL.out.v.c3) | (go_at_call 83;refine (Lays_c c a nx h17 _ HL.out.g).mono ?_;rintro e w2 ⟨rfl,hb2⟩;rw[HLy.out];replace HL:=Hid.mk' (HL.out.below hb2);have d0:=HL.out.d0;have d1:=HL.out.d1;have d2:=HL.out.d2;have f3:=HL.out.v.st.free 3;have c3:=HL.out.v.c3))
   all_goals
    go_wp2_with (first | (go_at_call 84;refine (Jumps_c c a nx _).mono ?_;rintro e w2 ⟨rfl,hb2⟩;rw[eJ];replace HL:=Hid.mk' (HL.out.below hb2);have d0:=HL.out.d0;have d1:=HL.out.d1;have d2:=HL.out.d2;have f3:=HL.out.v.st.free 3;have c3:=HL.out.v.c3) | (go_at_call 85;refine (Target_c c a nx ha0 ha6 (by omega) _).mono ?_;rintro e w2 ⟨rfl,hb2⟩;rw[HQ.out];replace HL:=Hid.mk' (HL.out.below hb2);have d0:=HL.out.d0;have d1:=HL.out.d1;have d2:=HL.out.d2;have f3:=HL.out.v.st.free 3;have c3:=HL.out.v.c3) | (go_at_call 51;refine (reach_any hs B hB _ _ HL.out.v).mono ?_;rintro e w4 ⟨rfl,hv4,hbl4,hsz4,ho4⟩;replace HL:=Hid.mk' (HL.out.only hv4 hbl4 ho4);have d0:=HL.out.d0;have d1:=HL.out.d1;have d2:=HL.out.d2;have f3:=HL.out.v.st.free 3;have c3:=HL.out.v.c3))
    go_ret
    have:=looked_two HF.out hp HK.out (LookedV.if_op (by rw[HC.out];exact HKd.out))
    rw[HNx.out,HTo.out,HAf.out]at this
    exact ⟨HL.out.bl,nx,_,_,rfl,HL.out.v,hpn,hfit,this⟩
  ·have e16:(((c:Int)==16)||((c:Int)==17))=false:=by simp;omega
   have eJ:((((c:Int)==13)||((c:Int)==14))||((c:Int)==15))=false:=by simp;omega
   have e13:((c:Int)==13)=false:=by simp;omega
   have e13':((c:Int) != 13)=true:=by simp;omega
   have HKd:Hid (c≠13∧c≠14∧c≠15∧c≠16∧c≠17):=hk
   clear hk hja
   go_wp2_with (go_at_call 82;refine (Ends_c c a nx _).mono ?_;rintro e w2 ⟨rfl,hb2⟩;rw[e16];replace HL:=Hid.mk' (HL.out.below hb2);have d0:=HL.out.d0;have d1:=HL.out.d1;have d2:=HL.out.d2;have f3:=HL.out.v.st.free 3;have c3:=HL.out.v.c3)
   go_region_held3 (fun w'=>w'.cell? ⟨w1.heap.size,0,none⟩=some (.int .i64 c)∧w'.cell? ⟨w1.heap.size,1,none⟩=some (.int .i64 a)∧w'.cell? ⟨w1.heap.size,2,none⟩=some (.int .i64 nx)) (go_keep) (first | (go_at_call 80;refine (Takes_c c a nx h17 _ HL.out.drew.g).mono ?_;rintro e w2 ⟨rfl,hb2⟩;rw[HTk.out];replace HL:=Hid.mk' (HL.out.drew.below hb2);have d0:=HL.out.d0;have d1:=HL.out.d1;have d2:=HL.out.d2;have f3:=HL.out.v.st.free 3;have c3:=HL.out.v.c3) | (go_at_call 80;refine (Takes_c c a nx h17 _ HL.out.g).mono ?_;rintro e w2 ⟨rfl,hb2⟩;rw[HTk.out];replace HL:=Hid.mk' (HL.out.below hb2);have d0:=HL.out.d0;have d1:=HL.out.d1;have d2:=HL.out.d2;have f3:=HL.out.v.st.free 3;have c3:=HL.out.v.c3) | (go_at_call 83;refine (Lays_c c a nx h17 _ HL.out.drew.g).mono ?_;rintro e w2 ⟨rfl,hb2⟩;rw[HLy.out];replace HL:=Hid.mk' (HL.out.drew.below hb2);have d0:=HL.out.d0;have d1:=HL.out.d1;have d2:=HL.out.d2;have f3:=HL.out.v.st.free 3;have c3:=HL.out.v.c3) | (go_at_call 83;refine (Lays_c c a nx h17 _ HL.out.g).mono ?_;rintro e w2 ⟨rfl,hb2⟩;rw[HLy.out];replace HL:=Hid.mk' (HL.out.below hb2);have d0:=HL.out.d0;have d1:=HL.out.d1;have d2:=HL.out.d2;have f3:=HL.out.v.st.free 3;have c3:=HL.out.v.c3))
   all_goals
    go_wp2_with (first | (go_at_call 84;refine (Jumps_c c a nx _).mono ?_;rintro e w2 ⟨rfl,hb2⟩;rw[eJ];replace HL:=Hid.mk' (HL.out.below hb2);have d0:=HL.out.d0;have d1:=HL.out.d1;have d2:=HL.out.d2;have f3:=HL.out.v.st.free 3;have c3:=HL.out.v.c3) | (go_at_call 51;refine (reach_any hs B hB _ _ HL.out.v).mono ?_;rintro e w4 ⟨rfl,hv4,hbl4,hsz4,ho4⟩;replace HL:=Hid.mk' (HL.out.only hv4 hbl4 ho4);have d0:=HL.out.d0;have d1:=HL.out.d1;have d2:=HL.out.d2;have f3:=HL.out.v.st.free 3;have c3:=HL.out.v.c3))
    go_ret
    have:=looked_one HF.out hp HK.out (LookedV.next_op (by rw[HC.out];exact HKd.out))
    rw[HNx.out,HAf.out]at this
    exact ⟨HL.out.bl,nx,_,_,rfl,HL.out.v,hpn,hfit,this⟩
end Go.Proofs.YtpcjadaeolkngaaGreatDoor
