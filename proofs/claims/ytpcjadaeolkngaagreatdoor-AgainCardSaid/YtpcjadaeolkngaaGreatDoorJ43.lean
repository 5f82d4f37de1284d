/-
  Pieces: joined by a sign of numbers.
-/
import Derived.Test.YtpcjadaeolkngaaGreatDoorJ42
set_option linter.unusedVariables false
set_option linter.unusedSimpArgs false
namespace Go.Proofs.YtpcjadaeolkngaaGreatDoor
open Go.RowKit
set_option maxHeartbeats 8000000 in
set_option maxRecDepth 100000 in
theorem joined_ar_t(o t1 t2 T1 T2:ByteArray)(b1:Nat)(v1:Int)(f1 s1 b2:Nat)(v2:Int)(f2 s2:Nat)(g:Bool)(n lv:Nat)(hT:TwoT (ag t1 b1 v1 f1 s1 true) (ag t2 b2 v2 f2 s2 g) o T1 T2 lv)(hs1:s1≤10000)(hs2:s2≤10000)(hq1:(o.toList==[60])=false)(hq2:(o.toList==[60,61])=false)(hq3:(o.toList==[61])=false)(hq4:(o.toList==[33,61])=false)(V:Int)(F:Nat)(hj:joinN (opK n 2) v1 v2=(V,F))(hc:∀ wx,Calls Tryz.prog 61 #[.string o,.int .i64 v1,.int .i64 v2] wx fun e w'=>e=.returned (.tuple #[.int .i64 V,.int .i64 F])∧Below wx.heap.size wx w')(w:World) :
  Calls Tryz.prog 37 #[.agg (ag t1 b1 v1 f1 s1 true),.string o,.int .i64 lv,.agg (ag t2 b2 v2 f2 s2 g)] w fun e w'=>e=.returned (pcV (T1++⟨#[32]⟩++o++⟨#[32]⟩++T2) lv (twoW n ⟨v1,f1,s1,true⟩ ⟨v2,f2,s2,g⟩))∧Below w.heap.size w w':=by
 have HTT:=mH hT
 clear hT
 have HC:=mH hc
 obtain ⟨K,hK⟩:∃ K,K=settleW ⟨V,F,s1+s2+1,g⟩:=⟨_,rfl⟩
 have HRES:Hid (twoW n ⟨v1,0,s1,true⟩ ⟨v2,0,s2,g⟩=K):=by
  rw[Hid,hK]
  unfold twoW
  rw[if_neg (by simp),if_neg (by simp),hj]
  rfl
 have HSE:Hid (∀ wx,Calls Tryz.prog 62 #[.agg (ag (T1++⟨#[32]⟩++o++⟨#[32]⟩++T2) lv V F ((s1:Int)+s2+1) g)] wx fun e w'=>e=.returned (pcV (T1++⟨#[32]⟩++o++⟨#[32]⟩++T2) lv K)∧Below wx.heap.size wx w'):=fun wx=>by
  rw[hK]
  exact settled_any (T1++⟨#[32]⟩++o++⟨#[32]⟩++T2) lv ⟨V,F,s1+s2+1,g⟩ wx
 clear hK hj hc
 have y1:=HTT.out.y1
 have y2:=HTT.out.y2
 have y3:=HTT.out.y3
 have y4:=HTT.out.y4
 have HQ:=mH (qua_start w (ag t1 b1 v1 f1 s1 true) (ag t2 b2 v2 f2 s2 g) ag0 (ag ⟨#[]⟩ lv 0 0 0 g))
 go_enter Tryz.func37,Tryz.ntmps37
 go_upto_region 2 with fail
 generalize (((w.alloc (.cells (ag t1 b1 v1 f1 s1 true) 62)).alloc (.cells (ag t2 b2 v2 f2 s2 g) 62)).alloc (.cells ag0 62)).alloc (.cells (ag ⟨#[]⟩ lv 0 0 0 g) 62)=W at HQ ⊢
 obtain ⟨k1,k2,k3,k4,k5,k6⟩:=HQ.out.facts
 go_cut [] (fun wx=>QuaP w wx (ag t1 b1 v1 f1 s1 true) (ag t2 b2 v2 f2 s2 g) ag0 (ag (T1++⟨#[32]⟩++o++⟨#[32]⟩++T2) lv 0 0 0 g))
 case first =>
  go_region_held3 (fun w'=>w'.cell? ⟨w.heap.size,0,none⟩=some (.string t1)∧w'.cell? ⟨w.heap.size,1,none⟩=some (.int .i64 b1)∧w'.cell? ⟨w.heap.size,2,none⟩=some (.int .i64 v1)∧w'.cell? ⟨w.heap.size,3,none⟩=some (.int .i64 f1)∧w'.cell? ⟨w.heap.size,4,none⟩=some (.int .i64 s1)∧w'.cell? ⟨w.heap.size,5,none⟩=some (.bool true)∧w'.cell? ⟨w.heap.size+1,0,none⟩=some (.string t2)∧w'.cell? ⟨w.heap.size+1,1,none⟩=some (.int .i64 b2)∧w'.cell? ⟨w.heap.size+1,2,none⟩=some (.int .i64 v2)∧w'.cell? ⟨w.heap.size+1,3,none⟩=some (.int .i64 f2)∧w'.cell? ⟨w.heap.size+1,4,none⟩=some (.int .i64 s2)∧w'.cell? ⟨w.heap.size+1,5,none⟩=some (.bool g)) (first | with_reducible exact HQ.out.drew.twelve | with_reducible exact HQ.out.twelve | with_reducible exact (HQ.out.setR _ _).twelve) (first | (go_at_call_of 60 (Value.int IntKind.i64 (lv:Int));refine (HTT.out.t1 _).mono ?_;rintro e w1 ⟨rfl,hb⟩;have HQ':QuaP w w1 (ag t1 b1 v1 f1 s1 true) (ag t2 b2 v2 f2 s2 g) ag0 (ag ⟨#[]⟩ lv 0 0 0 g):=(by first | with_reducible exact HQ.out.below hb | with_reducible exact HQ.out.drew.below hb);replace HQ:=mH HQ';clear hb HQ';clear k1 k2 k3 k4 k5 k6;obtain ⟨k1,k2,k3,k4,k5,k6⟩:=HQ.out.facts) | (go_at_call 60;rw[HTT.out.wl];refine (HTT.out.t2 _).mono ?_;rintro e w2 ⟨rfl,hb⟩;have HQ':QuaP w w2 (ag t1 b1 v1 f1 s1 true) (ag t2 b2 v2 f2 s2 g) ag0 (ag ⟨#[]⟩ lv 0 0 0 g):=(by first | with_reducible exact HQ.out.below hb | with_reducible exact HQ.out.drew.below hb);replace HQ:=mH HQ';clear hb HQ';clear k1 k2 k3 k4 k5 k6;obtain ⟨k1,k2,k3,k4,k5,k6⟩:=HQ.out.facts))
  all_goals go_wp2_with fail
  all_goals go_meet
  all_goals (try exact HQ.out.setR 0 _)
 case rest =>
  clear HQ k1 k2 k3 k4 k5 k6 y1 y2 y3 y4
  have HQ:=mH hcut
  clear hcut
  obtain ⟨k1,k2,k3,k4,k5,k6⟩:=HQ.out.facts
  by_cases hf1:f1=0
  case neg =>
   have hf':((f1:Int) != 0)=true:=by simp;omega
   go_wp2
   obtain ⟨gg,hbl⟩:=((HQ.out.setR 3 (.int .i64 f1)).setR 4 (.int .i64 s1)).fin (.string (T1++⟨#[32]⟩++o++⟨#[32]⟩++T2)) (.int .i64 lv) (.int .i64 0) (.int .i64 f1) (.int .i64 s1) (.bool g)
   unfold finQ6 at gg hbl
   exact bodyPost_ret (v:=.agg #[.string (T1++⟨#[32]⟩++o++⟨#[32]⟩++T2),.int .i64 lv,.int .i64 0,.int .i64 f1,.int .i64 s1,.bool g]) (by simp[results,Tryz.results37,go_sem,gg]) rfl ⟨by unfold twoW;rw[if_pos hf1];rfl,hbl⟩
  case pos =>
   subst hf1
   by_cases hf2:f2=0
   case neg =>
    have hf':((f2:Int) != 0)=true:=by simp;omega
    go_wp2
    obtain ⟨gg,hbl⟩:=((HQ.out.setR 3 (.int .i64 f2)).setR 4 (.int .i64 ((s1:Int)+s2))).fin (.string (T1++⟨#[32]⟩++o++⟨#[32]⟩++T2)) (.int .i64 lv) (.int .i64 0) (.int .i64 f2) (.int .i64 ((s1:Int)+s2)) (.bool g)
    unfold finQ6 at gg hbl
    exact bodyPost_ret (v:=.agg #[.string (T1++⟨#[32]⟩++o++⟨#[32]⟩++T2),.int .i64 lv,.int .i64 0,.int .i64 f2,.int .i64 ((s1:Int)+s2),.bool g]) (by simp[results,Tryz.results37,go_sem,gg]) rfl ⟨by unfold twoW;rw[if_neg (by simp),if_pos hf2];rfl,hbl⟩
   case pos =>
    subst hf2
    obtain ⟨sv,sf,ss,sx⟩:=K
    go_wp2_with (first
     | (go_at_call 61;refine (HC.out _).mono ?_;rintro e w2 ⟨rfl,hb2⟩;replace HQ:=mH ((HQ.out.setR 4 (.int .i64 ((s1:Int)+s2+1))).below hb2);clear hb2;clear k1 k2 k3 k4 k5 k6;obtain ⟨k1,k2,k3,k4,k5,k6⟩:=HQ.out.facts)
     | (go_at_call 62;refine (HSE.out _).mono ?_;rintro e w3 ⟨rfl,hb3⟩;unfold pcV pcA;replace HQ:=mH (((HQ.out.setR 2 (.int .i64 V)).setR 3 (.int .i64 F)).below hb3);clear hb3;clear k1 k2 k3 k4 k5 k6;obtain ⟨k1,k2,k3,k4,k5,k6⟩:=HQ.out.facts))
    obtain ⟨gg,hbl⟩:=HQ.out.fin (.string (T1++⟨#[32]⟩++o++⟨#[32]⟩++T2)) (.int .i64 lv) (.int .i64 sv) (.int .i64 sf) (.int .i64 ss) (.bool sx)
    unfold finQ6 at gg hbl
    exact bodyPost_ret (v:=.agg #[.string (T1++⟨#[32]⟩++o++⟨#[32]⟩++T2),.int .i64 lv,.int .i64 sv,.int .i64 sf,.int .i64 ss,.bool sx]) (by simp[results,Tryz.results37,go_sem,gg]) rfl ⟨by rw[HRES.out];rfl,hbl⟩
set_option maxHeartbeats 8000000 in
set_option maxRecDepth 100000 in
theorem joined_ar_f(o t1 t2 T1 T2:ByteArray)(b1:Nat)(v1:Int)(f1 s1 b2:Nat)(v2:Int)(f2 s2:Nat)(g:Bool)(n lv:Nat)(hT:TwoT (ag t1 b1 v1 f1 s1 false) (ag t2 b2 v2 f2 s2 g) o T1 T2 lv)(hs1:s1≤10000)(hs2:s2≤10000)(hq1:(o.toList==[60])=false)(hq2:(o.toList==[60,61])=false)(hq3:(o.toList==[61])=false)(hq4:(o.toList==[33,61])=false)(V:Int)(F:Nat)(hj:joinN (opK n 2) v1 v2=(V,F))(hc:∀ wx,Calls Tryz.prog 61 #[.string o,.int .i64 v1,.int .i64 v2] wx fun e w'=>e=.returned (.tuple #[.int .i64 V,.int .i64 F])∧Below wx.heap.size wx w')(w:World) :
  Calls Tryz.prog 37 #[.agg (ag t1 b1 v1 f1 s1 false),.string o,.int .i64 lv,.agg (ag t2 b2 v2 f2 s2 g)] w fun e w'=>e=.returned (pcV (T1++⟨#[32]⟩++o++⟨#[32]⟩++T2) lv (twoW n ⟨v1,f1,s1,false⟩ ⟨v2,f2,s2,g⟩))∧Below w.heap.size w w':=by
 have HTT:=mH hT
 clear hT
 have HC:=mH hc
 obtain ⟨K,hK⟩:∃ K,K=settleW ⟨V,F,s1+s2+1,false⟩:=⟨_,rfl⟩
 have HRES:Hid (twoW n ⟨v1,0,s1,false⟩ ⟨v2,0,s2,g⟩=K):=by
  rw[Hid,hK]
  unfold twoW
  rw[if_neg (by simp),if_neg (by simp),hj]
  rfl
 have HSE:Hid (∀ wx,Calls Tryz.prog 62 #[.agg (ag (T1++⟨#[32]⟩++o++⟨#[32]⟩++T2) lv V F ((s1:Int)+s2+1) false)] wx fun e w'=>e=.returned (pcV (T1++⟨#[32]⟩++o++⟨#[32]⟩++T2) lv K)∧Below wx.heap.size wx w'):=fun wx=>by
  rw[hK]
  exact settled_any (T1++⟨#[32]⟩++o++⟨#[32]⟩++T2) lv ⟨V,F,s1+s2+1,false⟩ wx
 clear hK hj hc
 have y1:=HTT.out.y1
 have y2:=HTT.out.y2
 have y3:=HTT.out.y3
 have y4:=HTT.out.y4
 have HQ:=mH (qua_start w (ag t1 b1 v1 f1 s1 false) (ag t2 b2 v2 f2 s2 g) ag0 (ag ⟨#[]⟩ lv 0 0 0 false))
 go_enter Tryz.func37,Tryz.ntmps37
 go_upto_region 2 with fail
 generalize (((w.alloc (.cells (ag t1 b1 v1 f1 s1 false) 62)).alloc (.cells (ag t2 b2 v2 f2 s2 g) 62)).alloc (.cells ag0 62)).alloc (.cells (ag ⟨#[]⟩ lv 0 0 0 false) 62)=W at HQ ⊢
 obtain ⟨k1,k2,k3,k4,k5,k6⟩:=HQ.out.facts
 go_cut [] (fun wx=>QuaP w wx (ag t1 b1 v1 f1 s1 false) (ag t2 b2 v2 f2 s2 g) ag0 (ag (T1++⟨#[32]⟩++o++⟨#[32]⟩++T2) lv 0 0 0 false))
 case first =>
  go_region_held3 (fun w'=>w'.cell? ⟨w.heap.size,0,none⟩=some (.string t1)∧w'.cell? ⟨w.heap.size,1,none⟩=some (.int .i64 b1)∧w'.cell? ⟨w.heap.size,2,none⟩=some (.int .i64 v1)∧w'.cell? ⟨w.heap.size,3,none⟩=some (.int .i64 f1)∧w'.cell? ⟨w.heap.size,4,none⟩=some (.int .i64 s1)∧w'.cell? ⟨w.heap.size,5,none⟩=some (.bool false)∧w'.cell? ⟨w.heap.size+1,0,none⟩=some (.string t2)∧w'.cell? ⟨w.heap.size+1,1,none⟩=some (.int .i64 b2)∧w'.cell? ⟨w.heap.size+1,2,none⟩=some (.int .i64 v2)∧w'.cell? ⟨w.heap.size+1,3,none⟩=some (.int .i64 f2)∧w'.cell? ⟨w.heap.size+1,4,none⟩=some (.int .i64 s2)∧w'.cell? ⟨w.heap.size+1,5,none⟩=some (.bool g)) (first | with_reducible exact HQ.out.drew.twelve | with_reducible exact HQ.out.twelve | with_reducible exact (HQ.out.setR _ _).twelve) (first | (go_at_call_of 60 (Value.int IntKind.i64 (lv:Int));refine (HTT.out.t1 _).mono ?_;rintro e w1 ⟨rfl,hb⟩;have HQ':QuaP w w1 (ag t1 b1 v1 f1 s1 false) (ag t2 b2 v2 f2 s2 g) ag0 (ag ⟨#[]⟩ lv 0 0 0 false):=(by first | with_reducible exact HQ.out.below hb | with_reducible exact HQ.out.drew.below hb);replace HQ:=mH HQ';clear hb HQ';clear k1 k2 k3 k4 k5 k6;obtain ⟨k1,k2,k3,k4,k5,k6⟩:=HQ.out.facts) | (go_at_call 60;rw[HTT.out.wl];refine (HTT.out.t2 _).mono ?_;rintro e w2 ⟨rfl,hb⟩;have HQ':QuaP w w2 (ag t1 b1 v1 f1 s1 false) (ag t2 b2 v2 f2 s2 g) ag0 (ag ⟨#[]⟩ lv 0 0 0 false):=(by first | with_reducible exact HQ.out.below hb | with_reducible exact HQ.out.drew.below hb);replace HQ:=mH HQ';clear hb HQ';clear k1 k2 k3 k4 k5 k6;obtain ⟨k1,k2,k3,k4,k5,k6⟩:=HQ.out.facts))
  all_goals go_wp2_with fail
  all_goals go_meet
  all_goals (try exact HQ.out.setR 0 _)
 case rest =>
  clear HQ k1 k2 k3 k4 k5 k6 y1 y2 y3 y4
  have HQ:=mH hcut
  clear hcut
  obtain ⟨k1,k2,k3,k4,k5,k6⟩:=HQ.out.facts
  by_cases hf1:f1=0
  case neg =>
   have hf':((f1:Int) != 0)=true:=by simp;omega
   go_wp2
   obtain ⟨gg,hbl⟩:=((HQ.out.setR 3 (.int .i64 f1)).setR 4 (.int .i64 s1)).fin (.string (T1++⟨#[32]⟩++o++⟨#[32]⟩++T2)) (.int .i64 lv) (.int .i64 0) (.int .i64 f1) (.int .i64 s1) (.bool false)
   unfold finQ6 at gg hbl
   exact bodyPost_ret (v:=.agg #[.string (T1++⟨#[32]⟩++o++⟨#[32]⟩++T2),.int .i64 lv,.int .i64 0,.int .i64 f1,.int .i64 s1,.bool false]) (by simp[results,Tryz.results37,go_sem,gg]) rfl ⟨by unfold twoW;rw[if_pos hf1];rfl,hbl⟩
  case pos =>
   subst hf1
   by_cases hf2:f2=0
   case neg =>
    have hf':((f2:Int) != 0)=true:=by simp;omega
    go_wp2
    obtain ⟨gg,hbl⟩:=((HQ.out.setR 3 (.int .i64 f2)).setR 4 (.int .i64 ((s1:Int)+s2))).fin (.string (T1++⟨#[32]⟩++o++⟨#[32]⟩++T2)) (.int .i64 lv) (.int .i64 0) (.int .i64 f2) (.int .i64 ((s1:Int)+s2)) (.bool false)
    unfold finQ6 at gg hbl
    exact bodyPost_ret (v:=.agg #[.string (T1++⟨#[32]⟩++o++⟨#[32]⟩++T2),.int .i64 lv,.int .i64 0,.int .i64 f2,.int .i64 ((s1:Int)+s2),.bool false]) (by simp[results,Tryz.results37,go_sem,gg]) rfl ⟨by unfold twoW;rw[if_neg (by simp),if_pos hf2];rfl,hbl⟩
   case pos =>
    subst hf2
    obtain ⟨sv,sf,ss,sx⟩:=K
    go_wp2_with (first
     | (go_at_call 61;refine (HC.out _).mono ?_;rintro e w2 ⟨rfl,hb2⟩;replace HQ:=mH ((HQ.out.setR 4 (.int .i64 ((s1:Int)+s2+1))).below hb2);clear hb2;clear k1 k2 k3 k4 k5 k6;obtain ⟨k1,k2,k3,k4,k5,k6⟩:=HQ.out.facts)
     | (go_at_call 62;refine (HSE.out _).mono ?_;rintro e w3 ⟨rfl,hb3⟩;unfold pcV pcA;replace HQ:=mH (((HQ.out.setR 2 (.int .i64 V)).setR 3 (.int .i64 F)).below hb3);clear hb3;clear k1 k2 k3 k4 k5 k6;obtain ⟨k1,k2,k3,k4,k5,k6⟩:=HQ.out.facts))
    obtain ⟨gg,hbl⟩:=HQ.out.fin (.string (T1++⟨#[32]⟩++o++⟨#[32]⟩++T2)) (.int .i64 lv) (.int .i64 sv) (.int .i64 sf) (.int .i64 ss) (.bool sx)
    unfold finQ6 at gg hbl
    exact bodyPost_ret (v:=.agg #[.string (T1++⟨#[32]⟩++o++⟨#[32]⟩++T2),.int .i64 lv,.int .i64 sv,.int .i64 sf,.int .i64 ss,.bool sx]) (by simp[results,Tryz.results37,go_sem,gg]) rfl ⟨by rw[HRES.out];rfl,hbl⟩
set_option maxHeartbeats 8000000 in
set_option maxRecDepth 100000 in
theorem joined_cp_t(o t1 t2 T1 T2:ByteArray)(b1:Nat)(v1:Int)(f1 s1 b2:Nat)(v2:Int)(f2 s2:Nat)(g:Bool)(n lv:Nat)(hT:TwoT (ag t1 b1 v1 f1 s1 true) (ag t2 b2 v2 f2 s2 g) o T1 T2 lv)(hs1:s1≤10000)(hs2:s2≤10000)(yes:Bool)(hj:joinN (opK n 2) v1 v2=(bitN yes,0))(hsel:((o.toList==[60])=true∧decide (v1<v2)=yes)∨((o.toList==[60])=false∧(o.toList==[60,61])=true∧decide (v1≤v2)=yes)∨((o.toList==[60])=false∧(o.toList==[60,61])=false∧(o.toList==[61])=true∧(v1==v2)=yes)∨((o.toList==[60])=false∧(o.toList==[60,61])=false∧(o.toList==[61])=false∧(o.toList==[33,61])=true∧(v1 != v2)=yes))(w:World) :
  Calls Tryz.prog 37 #[.agg (ag t1 b1 v1 f1 s1 true),.string o,.int .i64 lv,.agg (ag t2 b2 v2 f2 s2 g)] w fun e w'=>e=.returned (pcV (T1++⟨#[32]⟩++o++⟨#[32]⟩++T2) lv (twoW n ⟨v1,f1,s1,true⟩ ⟨v2,f2,s2,g⟩))∧Below w.heap.size w w':=by
 have HTT:=mH hT
 clear hT
 obtain ⟨K,hK⟩:∃ K,K=settleW ⟨bitN yes,0,s1+s2+1,g⟩:=⟨_,rfl⟩
 have HRES:Hid (twoW n ⟨v1,0,s1,true⟩ ⟨v2,0,s2,g⟩=K):=by
  rw[Hid,hK]
  unfold twoW
  rw[if_neg (by simp),if_neg (by simp),hj]
  rfl
 have HSE:Hid (∀ wx,Calls Tryz.prog 62 #[.agg (ag (T1++⟨#[32]⟩++o++⟨#[32]⟩++T2) lv (bitN yes) 0 ((s1:Int)+s2+1) g)] wx fun e w'=>e=.returned (pcV (T1++⟨#[32]⟩++o++⟨#[32]⟩++T2) lv K)∧Below wx.heap.size wx w'):=fun wx=>by
  rw[hK]
  exact settled_any (T1++⟨#[32]⟩++o++⟨#[32]⟩++T2) lv ⟨(bitN yes),0,s1+s2+1,g⟩ wx
 clear hK hj
 have y1:=HTT.out.y1
 have y2:=HTT.out.y2
 have y3:=HTT.out.y3
 have y4:=HTT.out.y4
 have HQ:=mH (qua_start w (ag t1 b1 v1 f1 s1 true) (ag t2 b2 v2 f2 s2 g) ag0 (ag ⟨#[]⟩ lv 0 0 0 g))
 go_enter Tryz.func37,Tryz.ntmps37
 go_upto_region 2 with fail
 generalize (((w.alloc (.cells (ag t1 b1 v1 f1 s1 true) 62)).alloc (.cells (ag t2 b2 v2 f2 s2 g) 62)).alloc (.cells ag0 62)).alloc (.cells (ag ⟨#[]⟩ lv 0 0 0 g) 62)=W at HQ ⊢
 obtain ⟨k1,k2,k3,k4,k5,k6⟩:=HQ.out.facts
 go_cut [] (fun wx=>QuaP w wx (ag t1 b1 v1 f1 s1 true) (ag t2 b2 v2 f2 s2 g) ag0 (ag (T1++⟨#[32]⟩++o++⟨#[32]⟩++T2) lv 0 0 0 g))
 case first =>
  go_region_held3 (fun w'=>w'.cell? ⟨w.heap.size,0,none⟩=some (.string t1)∧w'.cell? ⟨w.heap.size,1,none⟩=some (.int .i64 b1)∧w'.cell? ⟨w.heap.size,2,none⟩=some (.int .i64 v1)∧w'.cell? ⟨w.heap.size,3,none⟩=some (.int .i64 f1)∧w'.cell? ⟨w.heap.size,4,none⟩=some (.int .i64 s1)∧w'.cell? ⟨w.heap.size,5,none⟩=some (.bool true)∧w'.cell? ⟨w.heap.size+1,0,none⟩=some (.string t2)∧w'.cell? ⟨w.heap.size+1,1,none⟩=some (.int .i64 b2)∧w'.cell? ⟨w.heap.size+1,2,none⟩=some (.int .i64 v2)∧w'.cell? ⟨w.heap.size+1,3,none⟩=some (.int .i64 f2)∧w'.cell? ⟨w.heap.size+1,4,none⟩=some (.int .i64 s2)∧w'.cell? ⟨w.heap.size+1,5,none⟩=some (.bool g)) (first | with_reducible exact HQ.out.drew.twelve | with_reducible exact HQ.out.twelve | with_reducible exact (HQ.out.setR _ _).twelve) (first | (go_at_call_of 60 (Value.int IntKind.i64 (lv:Int));refine (HTT.out.t1 _).mono ?_;rintro e w1 ⟨rfl,hb⟩;have HQ':QuaP w w1 (ag t1 b1 v1 f1 s1 true) (ag t2 b2 v2 f2 s2 g) ag0 (ag ⟨#[]⟩ lv 0 0 0 g):=(by first | with_reducible exact HQ.out.below hb | with_reducible exact HQ.out.drew.below hb);replace HQ:=mH HQ';clear hb HQ';clear k1 k2 k3 k4 k5 k6;obtain ⟨k1,k2,k3,k4,k5,k6⟩:=HQ.out.facts) | (go_at_call 60;rw[HTT.out.wl];refine (HTT.out.t2 _).mono ?_;rintro e w2 ⟨rfl,hb⟩;have HQ':QuaP w w2 (ag t1 b1 v1 f1 s1 true) (ag t2 b2 v2 f2 s2 g) ag0 (ag ⟨#[]⟩ lv 0 0 0 g):=(by first | with_reducible exact HQ.out.below hb | with_reducible exact HQ.out.drew.below hb);replace HQ:=mH HQ';clear hb HQ';clear k1 k2 k3 k4 k5 k6;obtain ⟨k1,k2,k3,k4,k5,k6⟩:=HQ.out.facts))
  all_goals go_wp2_with fail
  all_goals go_meet
  all_goals (try exact HQ.out.setR 0 _)
 case rest =>
  clear HQ k1 k2 k3 k4 k5 k6 y1 y2 y3 y4
  have HQ:=mH hcut
  clear hcut
  obtain ⟨k1,k2,k3,k4,k5,k6⟩:=HQ.out.facts
  by_cases hf1:f1=0
  case neg =>
   have hf':((f1:Int) != 0)=true:=by simp;omega
   go_wp2
   obtain ⟨gg,hbl⟩:=((HQ.out.setR 3 (.int .i64 f1)).setR 4 (.int .i64 s1)).fin (.string (T1++⟨#[32]⟩++o++⟨#[32]⟩++T2)) (.int .i64 lv) (.int .i64 0) (.int .i64 f1) (.int .i64 s1) (.bool g)
   unfold finQ6 at gg hbl
   exact bodyPost_ret (v:=.agg #[.string (T1++⟨#[32]⟩++o++⟨#[32]⟩++T2),.int .i64 lv,.int .i64 0,.int .i64 f1,.int .i64 s1,.bool g]) (by simp[results,Tryz.results37,go_sem,gg]) rfl ⟨by unfold twoW;rw[if_pos hf1];rfl,hbl⟩
  case pos =>
   subst hf1
   by_cases hf2:f2=0
   case neg =>
    have hf':((f2:Int) != 0)=true:=by simp;omega
    go_wp2
    obtain ⟨gg,hbl⟩:=((HQ.out.setR 3 (.int .i64 f2)).setR 4 (.int .i64 ((s1:Int)+s2))).fin (.string (T1++⟨#[32]⟩++o++⟨#[32]⟩++T2)) (.int .i64 lv) (.int .i64 0) (.int .i64 f2) (.int .i64 ((s1:Int)+s2)) (.bool g)
    unfold finQ6 at gg hbl
    exact bodyPost_ret (v:=.agg #[.string (T1++⟨#[32]⟩++o++⟨#[32]⟩++T2),.int .i64 lv,.int .i64 0,.int .i64 f2,.int .i64 ((s1:Int)+s2),.bool g]) (by simp[results,Tryz.results37,go_sem,gg]) rfl ⟨by unfold twoW;rw[if_neg (by simp),if_pos hf2];rfl,hbl⟩
   case pos =>
    subst hf2
    cases yes with
    | false =>
     rw[show bitN false=0 from rfl]at HSE
     obtain ⟨sv,sf,ss,sx⟩:=K
     rcases hsel with ⟨q0,hy⟩ | ⟨q0,q1,hy⟩ | ⟨q0,q1,q2,hy⟩ | ⟨q0,q1,q2,q3,hy⟩
     all_goals go_wp2_with (go_at_call 62;refine (HSE.out _).mono ?_;rintro e w3 ⟨rfl,hb3⟩;unfold pcV pcA;replace HQ:=mH ((HQ.out.setR 4 (.int .i64 ((s1:Int)+s2+1))).below hb3);clear hb3;clear k1 k2 k3 k4 k5 k6;obtain ⟨k1,k2,k3,k4,k5,k6⟩:=HQ.out.facts)
     all_goals
      obtain ⟨gg,hbl⟩:=HQ.out.fin (.string (T1++⟨#[32]⟩++o++⟨#[32]⟩++T2)) (.int .i64 lv) (.int .i64 sv) (.int .i64 sf) (.int .i64 ss) (.bool sx)
      unfold finQ6 at gg hbl
      exact bodyPost_ret (v:=.agg #[.string (T1++⟨#[32]⟩++o++⟨#[32]⟩++T2),.int .i64 lv,.int .i64 sv,.int .i64 sf,.int .i64 ss,.bool sx]) (by simp[results,Tryz.results37,go_sem,gg]) rfl ⟨by rw[HRES.out];rfl,hbl⟩
    | true =>
     rw[show bitN true=1 from rfl]at HSE
     obtain ⟨sv,sf,ss,sx⟩:=K
     rcases hsel with ⟨q0,hy⟩ | ⟨q0,q1,hy⟩ | ⟨q0,q1,q2,hy⟩ | ⟨q0,q1,q2,q3,hy⟩
     all_goals go_wp2_with (go_at_call 62;refine (HSE.out _).mono ?_;rintro e w3 ⟨rfl,hb3⟩;unfold pcV pcA;replace HQ:=mH (((HQ.out.setR 4 (.int .i64 ((s1:Int)+s2+1))).setR 2 (.int .i64 1)).below hb3);clear hb3;clear k1 k2 k3 k4 k5 k6;obtain ⟨k1,k2,k3,k4,k5,k6⟩:=HQ.out.facts)
     all_goals
      obtain ⟨gg,hbl⟩:=HQ.out.fin (.string (T1++⟨#[32]⟩++o++⟨#[32]⟩++T2)) (.int .i64 lv) (.int .i64 sv) (.int .i64 sf) (.int .i64 ss) (.bool sx)
      unfold finQ6 at gg hbl
      exact bodyPost_ret (v:=.agg #[.string (T1++⟨#[32]⟩++o++⟨#[32]⟩++T2),.int .i64 lv,.int .i64 sv,.int .i64 sf,.int .i64 ss,.bool sx]) (by simp[results,Tryz.results37,go_sem,gg]) rfl ⟨by rw[HRES.out];rfl,hbl⟩
set_option maxHeartbeats 8000000 in
set_option maxRecDepth 100000 in
theorem joined_cp_f(o t1 t2 T1 T2:ByteArray)(b1:Nat)(v1:Int)(f1 s1 b2:Nat)(v2:Int)(f2 s2:Nat)(g:Bool)(n lv:Nat)(hT:TwoT (ag t1 b1 v1 f1 s1 false) (ag t2 b2 v2 f2 s2 g) o T1 T2 lv)(hs1:s1≤10000)(hs2:s2≤10000)(yes:Bool)(hj:joinN (opK n 2) v1 v2=(bitN yes,0))(hsel:((o.toList==[60])=true∧decide (v1<v2)=yes)∨((o.toList==[60])=false∧(o.toList==[60,61])=true∧decide (v1≤v2)=yes)∨((o.toList==[60])=false∧(o.toList==[60,61])=false∧(o.toList==[61])=true∧(v1==v2)=yes)∨((o.toList==[60])=false∧(o.toList==[60,61])=false∧(o.toList==[61])=false∧(o.toList==[33,61])=true∧(v1 != v2)=yes))(w:World) :
  Calls Tryz.prog 37 #[.agg (ag t1 b1 v1 f1 s1 false),.string o,.int .i64 lv,.agg (ag t2 b2 v2 f2 s2 g)] w fun e w'=>e=.returned (pcV (T1++⟨#[32]⟩++o++⟨#[32]⟩++T2) lv (twoW n ⟨v1,f1,s1,false⟩ ⟨v2,f2,s2,g⟩))∧Below w.heap.size w w':=by
 have HTT:=mH hT
 clear hT
 obtain ⟨K,hK⟩:∃ K,K=settleW ⟨bitN yes,0,s1+s2+1,false⟩:=⟨_,rfl⟩
 have HRES:Hid (twoW n ⟨v1,0,s1,false⟩ ⟨v2,0,s2,g⟩=K):=by
  rw[Hid,hK]
  unfold twoW
  rw[if_neg (by simp),if_neg (by simp),hj]
  rfl
 have HSE:Hid (∀ wx,Calls Tryz.prog 62 #[.agg (ag (T1++⟨#[32]⟩++o++⟨#[32]⟩++T2) lv (bitN yes) 0 ((s1:Int)+s2+1) false)] wx fun e w'=>e=.returned (pcV (T1++⟨#[32]⟩++o++⟨#[32]⟩++T2) lv K)∧Below wx.heap.size wx w'):=fun wx=>by
  rw[hK]
  exact settled_any (T1++⟨#[32]⟩++o++⟨#[32]⟩++T2) lv ⟨(bitN yes),0,s1+s2+1,false⟩ wx
 clear hK hj
 have y1:=HTT.out.y1
 have y2:=HTT.out.y2
 have y3:=HTT.out.y3
 have y4:=HTT.out.y4
 have HQ:=mH (qua_start w (ag t1 b1 v1 f1 s1 false) (ag t2 b2 v2 f2 s2 g) ag0 (ag ⟨#[]⟩ lv 0 0 0 false))
 go_enter Tryz.func37,Tryz.ntmps37
 go_upto_region 2 with fail
 generalize (((w.alloc (.cells (ag t1 b1 v1 f1 s1 false) 62)).alloc (.cells (ag t2 b2 v2 f2 s2 g) 62)).alloc (.cells ag0 62)).alloc (.cells (ag ⟨#[]⟩ lv 0 0 0 false) 62)=W at HQ ⊢
 obtain ⟨k1,k2,k3,k4,k5,k6⟩:=HQ.out.facts
 go_cut [] (fun wx=>QuaP w wx (ag t1 b1 v1 f1 s1 false) (ag t2 b2 v2 f2 s2 g) ag0 (ag (T1++⟨#[32]⟩++o++⟨#[32]⟩++T2) lv 0 0 0 false))
 case first =>
  go_region_held3 (fun w'=>w'.cell? ⟨w.heap.size,0,none⟩=some (.string t1)∧w'.cell? ⟨w.heap.size,1,none⟩=some (.int .i64 b1)∧w'.cell? ⟨w.heap.size,2,none⟩=some (.int .i64 v1)∧w'.cell? ⟨w.heap.size,3,none⟩=some (.int .i64 f1)∧w'.cell? ⟨w.heap.size,4,none⟩=some (.int .i64 s1)∧w'.cell? ⟨w.heap.size,5,none⟩=some (.bool false)∧w'.cell? ⟨w.heap.size+1,0,none⟩=some (.string t2)∧w'.cell? ⟨w.heap.size+1,1,none⟩=some (.int .i64 b2)∧w'.cell? ⟨w.heap.size+1,2,none⟩=some (.int .i64 v2)∧w'.cell? ⟨w.heap.size+1,3,none⟩=some (.int .i64 f2)∧w'.cell? ⟨w.heap.size+1,4,none⟩=some (.int .i64 s2)∧w'.cell? ⟨w.heap.size+1,5,none⟩=some (.bool g)) (first | with_reducible exact HQ.out.drew.twelve | with_reducible exact HQ.out.twelve | with_reducible exact (HQ.out.setR _ _).twelve) (first | (go_at_call_of 60 (Value.int IntKind.i64 (lv:Int));refine (HTT.out.t1 _).mono ?_;rintro e w1 ⟨rfl,hb⟩;have HQ':QuaP w w1 (ag t1 b1 v1 f1 s1 false) (ag t2 b2 v2 f2 s2 g) ag0 (ag ⟨#[]⟩ lv 0 0 0 false):=(by first | with_reducible exact HQ.out.below hb | with_reducible exact HQ.out.drew.below hb);replace HQ:=mH HQ';clear hb HQ';clear k1 k2 k3 k4 k5 k6;obtain ⟨k1,k2,k3,k4,k5,k6⟩:=HQ.out.facts) | (go_at_call 60;rw[HTT.out.wl];refine (HTT.out.t2 _).mono ?_;rintro e w2 ⟨rfl,hb⟩;have HQ':QuaP w w2 (ag t1 b1 v1 f1 s1 false) (ag t2 b2 v2 f2 s2 g) ag0 (ag ⟨#[]⟩ lv 0 0 0 false):=(by first | with_reducible exact HQ.out.below hb | with_reducible exact HQ.out.drew.below hb);replace HQ:=mH HQ';clear hb HQ';clear k1 k2 k3 k4 k5 k6;obtain ⟨k1,k2,k3,k4,k5,k6⟩:=HQ.out.facts))
  all_goals go_wp2_with fail
  all_goals go_meet
  all_goals (try exact HQ.out.setR 0 _)
 case rest =>
  clear HQ k1 k2 k3 k4 k5 k6 y1 y2 y3 y4
  have HQ:=mH hcut
  clear hcut
  obtain ⟨k1,k2,k3,k4,k5,k6⟩:=HQ.out.facts
  by_cases hf1:f1=0
  case neg =>
   have hf':((f1:Int) != 0)=true:=by simp;omega
   go_wp2
   obtain ⟨gg,hbl⟩:=((HQ.out.setR 3 (.int .i64 f1)).setR 4 (.int .i64 s1)).fin (.string (T1++⟨#[32]⟩++o++⟨#[32]⟩++T2)) (.int .i64 lv) (.int .i64 0) (.int .i64 f1) (.int .i64 s1) (.bool false)
   unfold finQ6 at gg hbl
   exact bodyPost_ret (v:=.agg #[.string (T1++⟨#[32]⟩++o++⟨#[32]⟩++T2),.int .i64 lv,.int .i64 0,.int .i64 f1,.int .i64 s1,.bool false]) (by simp[results,Tryz.results37,go_sem,gg]) rfl ⟨by unfold twoW;rw[if_pos hf1];rfl,hbl⟩
  case pos =>
   subst hf1
   by_cases hf2:f2=0
   case neg =>
    have hf':((f2:Int) != 0)=true:=by simp;omega
    go_wp2
    obtain ⟨gg,hbl⟩:=((HQ.out.setR 3 (.int .i64 f2)).setR 4 (.int .i64 ((s1:Int)+s2))).fin (.string (T1++⟨#[32]⟩++o++⟨#[32]⟩++T2)) (.int .i64 lv) (.int .i64 0) (.int .i64 f2) (.int .i64 ((s1:Int)+s2)) (.bool false)
    unfold finQ6 at gg hbl
    exact bodyPost_ret (v:=.agg #[.string (T1++⟨#[32]⟩++o++⟨#[32]⟩++T2),.int .i64 lv,.int .i64 0,.int .i64 f2,.int .i64 ((s1:Int)+s2),.bool false]) (by simp[results,Tryz.results37,go_sem,gg]) rfl ⟨by unfold twoW;rw[if_neg (by simp),if_pos hf2];rfl,hbl⟩
   case pos =>
    subst hf2
    cases yes with
    | false =>
     rw[show bitN false=0 from rfl]at HSE
     obtain ⟨sv,sf,ss,sx⟩:=K
     rcases hsel with ⟨q0,hy⟩ | ⟨q0,q1,hy⟩ | ⟨q0,q1,q2,hy⟩ | ⟨q0,q1,q2,q3,hy⟩
     all_goals go_wp2_with (go_at_call 62;refine (HSE.out _).mono ?_;rintro e w3 ⟨rfl,hb3⟩;unfold pcV pcA;replace HQ:=mH ((HQ.out.setR 4 (.int .i64 ((s1:Int)+s2+1))).below hb3);clear hb3;clear k1 k2 k3 k4 k5 k6;obtain ⟨k1,k2,k3,k4,k5,k6⟩:=HQ.out.facts)
     all_goals
      obtain ⟨gg,hbl⟩:=HQ.out.fin (.string (T1++⟨#[32]⟩++o++⟨#[32]⟩++T2)) (.int .i64 lv) (.int .i64 sv) (.int .i64 sf) (.int .i64 ss) (.bool sx)
      unfold finQ6 at gg hbl
      exact bodyPost_ret (v:=.agg #[.string (T1++⟨#[32]⟩++o++⟨#[32]⟩++T2),.int .i64 lv,.int .i64 sv,.int .i64 sf,.int .i64 ss,.bool sx]) (by simp[results,Tryz.results37,go_sem,gg]) rfl ⟨by rw[HRES.out];rfl,hbl⟩
    | true =>
     rw[show bitN true=1 from rfl]at HSE
     obtain ⟨sv,sf,ss,sx⟩:=K
     rcases hsel with ⟨q0,hy⟩ | ⟨q0,q1,hy⟩ | ⟨q0,q1,q2,hy⟩ | ⟨q0,q1,q2,q3,hy⟩
     all_goals go_wp2_with (go_at_call 62;refine (HSE.out _).mono ?_;rintro e w3 ⟨rfl,hb3⟩;unfold pcV pcA;replace HQ:=mH (((HQ.out.setR 4 (.int .i64 ((s1:Int)+s2+1))).setR 2 (.int .i64 1)).below hb3);clear hb3;clear k1 k2 k3 k4 k5 k6;obtain ⟨k1,k2,k3,k4,k5,k6⟩:=HQ.out.facts)
     all_goals
      obtain ⟨gg,hbl⟩:=HQ.out.fin (.string (T1++⟨#[32]⟩++o++⟨#[32]⟩++T2)) (.int .i64 lv) (.int .i64 sv) (.int .i64 sf) (.int .i64 ss) (.bool sx)
      unfold finQ6 at gg hbl
      exact bodyPost_ret (v:=.agg #[.string (T1++⟨#[32]⟩++o++⟨#[32]⟩++T2),.int .i64 lv,.int .i64 sv,.int .i64 sf,.int .i64 ss,.bool sx]) (by simp[results,Tryz.results37,go_sem,gg]) rfl ⟨by rw[HRES.out];rfl,hbl⟩
end Go.Proofs.YtpcjadaeolkngaaGreatDoor
