/-
  Pieces: either, where the second is asked.
-/
import Derived.Test.YtpcjadaeolkngaaGreatDoorJ42
set_option linter.unusedVariables false
set_option linter.unusedSimpArgs false
namespace Go.Proofs.YtpcjadaeolkngaaGreatDoor
open Go.RowKit
set_option maxHeartbeats 8000000 in
set_option maxRecDepth 100000 in
theorem either_a_t(o t1 t2 T1 T2:ByteArray)(b1:Nat)(v1:Int)(f1 s1 b2:Nat)(v2:Int)(f2 s2:Nat)(g:Bool)(n lv:Nat)(hT:TwoT (ag t1 b1 v1 f1 s1 true) (ag t2 b2 v2 f2 s2 g) o T1 T2 lv)(hs1:s1≤10000)(hs2:s2≤10000)(hn1:f1≠0→v1=0)(hn2:f2≠0→v2=0)(hd:f1=0→v1≠decK n)(hob:((o.toList==[97,110,100])==(v1==1))=true)(w:World) :
  Calls Tryz.prog 64 #[.agg (ag t1 b1 v1 f1 s1 true),.string o,.int .i64 lv,.agg (ag t2 b2 v2 f2 s2 g)] w fun e w'=>e=.returned (pcV (T1++⟨#[32]⟩++o++⟨#[32]⟩++T2) lv (choW n ⟨v1,f1,s1,true⟩ ⟨v2,f2,s2,g⟩))∧Below w.heap.size w w':=by
 have HTT:=mH hT
 have HN1:=mH hn1
 have HN2:=mH hn2
 have HD:=mH hd
 clear hT hn1 hn2 hd
 have y1:=HTT.out.y1
 have y2:=HTT.out.y2
 have y3:=HTT.out.y3
 have y4:=HTT.out.y4
 have HQ:=mH (qua_start w (ag t1 b1 v1 f1 s1 true) (ag t2 b2 v2 f2 s2 g) ag0 (ag ⟨#[]⟩ lv v1 f1 s1 g))
 go_enter Tryz.func64,Tryz.ntmps64
 go_upto_region 2 with fail
 generalize (((w.alloc (.cells (ag t1 b1 v1 f1 s1 true) 62)).alloc (.cells (ag t2 b2 v2 f2 s2 g) 62)).alloc (.cells ag0 62)).alloc (.cells (ag ⟨#[]⟩ lv v1 f1 s1 g) 62)=W at HQ ⊢
 obtain ⟨k1,k2,k3,k4,k5,k6⟩:=HQ.out.facts
 go_cut [] (fun wx=>QuaP w wx (ag t1 b1 v1 f1 s1 true) (ag t2 b2 v2 f2 s2 g) ag0 (ag (T1++⟨#[32]⟩++o++⟨#[32]⟩++T2) lv v1 f1 s1 g))
 case first =>
  go_region_held3 (fun w'=>w'.cell? ⟨w.heap.size,0,none⟩=some (.string t1)∧w'.cell? ⟨w.heap.size,1,none⟩=some (.int .i64 b1)∧w'.cell? ⟨w.heap.size,2,none⟩=some (.int .i64 v1)∧w'.cell? ⟨w.heap.size,3,none⟩=some (.int .i64 f1)∧w'.cell? ⟨w.heap.size,4,none⟩=some (.int .i64 s1)∧w'.cell? ⟨w.heap.size,5,none⟩=some (.bool true)∧w'.cell? ⟨w.heap.size+1,0,none⟩=some (.string t2)∧w'.cell? ⟨w.heap.size+1,1,none⟩=some (.int .i64 b2)∧w'.cell? ⟨w.heap.size+1,2,none⟩=some (.int .i64 v2)∧w'.cell? ⟨w.heap.size+1,3,none⟩=some (.int .i64 f2)∧w'.cell? ⟨w.heap.size+1,4,none⟩=some (.int .i64 s2)∧w'.cell? ⟨w.heap.size+1,5,none⟩=some (.bool g)) (first | with_reducible exact HQ.out.drew.twelve | with_reducible exact HQ.out.twelve | with_reducible exact (HQ.out.setR _ _).twelve) (first | (go_at_call_of 60 (Value.int IntKind.i64 (lv:Int));refine (HTT.out.t1 _).mono ?_;rintro e w1 ⟨rfl,hb⟩;have HQ':QuaP w w1 (ag t1 b1 v1 f1 s1 true) (ag t2 b2 v2 f2 s2 g) ag0 (ag ⟨#[]⟩ lv v1 f1 s1 g):=(by first | with_reducible exact HQ.out.below hb | with_reducible exact HQ.out.drew.below hb);replace HQ:=mH HQ';clear hb HQ';clear k1 k2 k3 k4 k5 k6;obtain ⟨k1,k2,k3,k4,k5,k6⟩:=HQ.out.facts) | (go_at_call 60;rw[HTT.out.wl];refine (HTT.out.t2 _).mono ?_;rintro e w2 ⟨rfl,hb⟩;have HQ':QuaP w w2 (ag t1 b1 v1 f1 s1 true) (ag t2 b2 v2 f2 s2 g) ag0 (ag ⟨#[]⟩ lv v1 f1 s1 g):=(by first | with_reducible exact HQ.out.below hb | with_reducible exact HQ.out.drew.below hb);replace HQ:=mH HQ';clear hb HQ';clear k1 k2 k3 k4 k5 k6;obtain ⟨k1,k2,k3,k4,k5,k6⟩:=HQ.out.facts))
  all_goals go_wp2_with fail
  all_goals go_meet
  all_goals (try exact HQ.out.setR 0 _)
 case rest =>
  clear HQ k1 k2 k3 k4 k5 k6 y1 y2 y3 y4
  have HQ:=mH hcut
  clear hcut
  obtain ⟨k1,k2,k3,k4,k5,k6⟩:=HQ.out.facts
  by_cases hf1:f1=0
  case neg =>
   have hf':((f1:Int) != 0)=true:=by simp;omega
   go_wp2
   obtain ⟨gg,hbl⟩:=HQ.out.fin (.string (T1++⟨#[32]⟩++o++⟨#[32]⟩++T2)) (.int .i64 lv) (.int .i64 v1) (.int .i64 f1) (.int .i64 s1) (.bool g)
   unfold finQ6 at gg hbl
   exact bodyPost_ret (v:=.agg #[.string (T1++⟨#[32]⟩++o++⟨#[32]⟩++T2),.int .i64 lv,.int .i64 v1,.int .i64 f1,.int .i64 s1,.bool g]) (by simp[results,Tryz.results64,go_sem,gg]) rfl ⟨by unfold choW;rw[if_pos hf1,HN1.out hf1];rfl,hbl⟩
  case pos =>
   have HF1:=mH hf1
   have hf':((f1:Int) != 0)=false:=by simp;omega
   clear hf1
   by_cases hf2:f2=0
   case neg =>
    have hf0:((f2:Int)==0)=false:=by simp;omega
    obtain ⟨K,hK⟩:∃ K,K=settleW ⟨v2,f2,s1+1+s2,g⟩:=⟨_,rfl⟩
    have HRES:Hid (choW n ⟨v1,f1,s1,true⟩ ⟨v2,f2,s2,g⟩=K):=by
     rw[Hid,hK]
     have h1:=HF1.out
     have h2:=HD.out
     have h3:=HN2.out
     clear HQ k1 k2 k3 k4 k5 k6 HTT hK
     subst h1
     rw[h3 hf2];unfold choW;rw[if_neg (by simp),if_neg (h2 rfl),if_pos hf2];unfold settleW;rw[if_neg (fun h=>hf2 h.2)];rfl
    have HSE:Hid (∀ wx,Calls Tryz.prog 62 #[.agg (ag (T1++⟨#[32]⟩++o++⟨#[32]⟩++T2) lv v2 f2 ((s1:Int)+1+s2) g)] wx fun e w'=>e=.returned (pcV (T1++⟨#[32]⟩++o++⟨#[32]⟩++T2) lv K)∧Below wx.heap.size wx w'):=fun wx=>by
     rw[hK]
     exact settled_any (T1++⟨#[32]⟩++o++⟨#[32]⟩++T2) lv ⟨v2,f2,s1+1+s2,g⟩ wx
    clear hK
    obtain ⟨sv,sf,ss,sx⟩:=K
    go_upto_region 12 with fail
    have HQ2:=((((HQ.out.setR 4 (.int .i64 ((s1:Int)+1))).setR 2 (.int .i64 v2)).setR 3 (.int .i64 f2)).setR 4 (.int .i64 ((s1:Int)+1+s2)))
    simp only[List.setIfInBounds_toArray,List.set_cons_zero,List.set_cons_succ]at HQ2
    clear HQ k1 k2 k3 k4 k5 k6
    generalize ((((wc.setCell ⟨w.heap.size+1+1+1,4,none⟩ (.int .i64 ((s1:Int)+1))).setCell ⟨w.heap.size+1+1+1,2,none⟩ (.int .i64 v2)).setCell ⟨w.heap.size+1+1+1,3,none⟩ (.int .i64 f2)).setCell ⟨w.heap.size+1+1+1,4,none⟩ (.int .i64 ((s1:Int)+1+s2)))=W5 at HQ2 ⊢
    have HQ:=mH HQ2
    clear HQ2
    obtain ⟨k1,k2,k3,k4,k5,k6⟩:=HQ.out.facts
    go_wp2_with (go_at_call 62;refine (HSE.out _).mono ?_;rintro e w3 ⟨rfl,hb3⟩;unfold pcV pcA;replace HQ:=mH (HQ.out.below hb3);clear hb3;clear k1 k2 k3 k4 k5 k6;obtain ⟨k1,k2,k3,k4,k5,k6⟩:=HQ.out.facts)
    obtain ⟨gg,hbl⟩:=HQ.out.fin (.string (T1++⟨#[32]⟩++o++⟨#[32]⟩++T2)) (.int .i64 lv) (.int .i64 sv) (.int .i64 sf) (.int .i64 ss) (.bool sx)
    unfold finQ6 at gg hbl
    exact bodyPost_ret (v:=.agg #[.string (T1++⟨#[32]⟩++o++⟨#[32]⟩++T2),.int .i64 lv,.int .i64 sv,.int .i64 sf,.int .i64 ss,.bool sx]) (by simp[results,Tryz.results64,go_sem,gg]) rfl ⟨by rw[HRES.out];rfl,hbl⟩
   case pos =>
    have hf0:((f2:Int)==0)=true:=by simp;omega
    have HF2:=mH hf2
    clear hf2
    obtain ⟨K,hK⟩:∃ K,K=settleW ⟨v2,f2,s1+1+s2+1,g⟩:=⟨_,rfl⟩
    have HRES:Hid (choW n ⟨v1,f1,s1,true⟩ ⟨v2,f2,s2,g⟩=K):=by
     rw[Hid,hK]
     have h1:=HF1.out
     have h2:=HD.out
     have h3:=HN2.out
     clear HQ k1 k2 k3 k4 k5 k6 HTT hK
     subst h1
     have h4:=HF2.out;clear HF2 HN2 h3 hf0;subst h4;unfold choW;rw[if_neg (by simp),if_neg (h2 rfl),if_neg (by simp)];rfl
    have HSE:Hid (∀ wx,Calls Tryz.prog 62 #[.agg (ag (T1++⟨#[32]⟩++o++⟨#[32]⟩++T2) lv v2 f2 ((s1:Int)+1+s2+1) g)] wx fun e w'=>e=.returned (pcV (T1++⟨#[32]⟩++o++⟨#[32]⟩++T2) lv K)∧Below wx.heap.size wx w'):=fun wx=>by
     rw[hK]
     exact settled_any (T1++⟨#[32]⟩++o++⟨#[32]⟩++T2) lv ⟨v2,f2,s1+1+s2+1,g⟩ wx
    clear hK
    obtain ⟨sv,sf,ss,sx⟩:=K
    go_upto_region 12 with fail
    have HQ2:=(((((HQ.out.setR 4 (.int .i64 ((s1:Int)+1))).setR 2 (.int .i64 v2)).setR 3 (.int .i64 f2)).setR 4 (.int .i64 ((s1:Int)+1+s2))).setR 4 (.int .i64 ((s1:Int)+1+s2+1)))
    simp only[List.setIfInBounds_toArray,List.set_cons_zero,List.set_cons_succ]at HQ2
    clear HQ k1 k2 k3 k4 k5 k6
    generalize (((((wc.setCell ⟨w.heap.size+1+1+1,4,none⟩ (.int .i64 ((s1:Int)+1))).setCell ⟨w.heap.size+1+1+1,2,none⟩ (.int .i64 v2)).setCell ⟨w.heap.size+1+1+1,3,none⟩ (.int .i64 f2)).setCell ⟨w.heap.size+1+1+1,4,none⟩ (.int .i64 ((s1:Int)+1+s2))).setCell ⟨w.heap.size+1+1+1,4,none⟩ (.int .i64 ((s1:Int)+1+s2+1)))=W5 at HQ2 ⊢
    have HQ:=mH HQ2
    clear HQ2
    obtain ⟨k1,k2,k3,k4,k5,k6⟩:=HQ.out.facts
    go_wp2_with (go_at_call 62;refine (HSE.out _).mono ?_;rintro e w3 ⟨rfl,hb3⟩;unfold pcV pcA;replace HQ:=mH (HQ.out.below hb3);clear hb3;clear k1 k2 k3 k4 k5 k6;obtain ⟨k1,k2,k3,k4,k5,k6⟩:=HQ.out.facts)
    obtain ⟨gg,hbl⟩:=HQ.out.fin (.string (T1++⟨#[32]⟩++o++⟨#[32]⟩++T2)) (.int .i64 lv) (.int .i64 sv) (.int .i64 sf) (.int .i64 ss) (.bool sx)
    unfold finQ6 at gg hbl
    exact bodyPost_ret (v:=.agg #[.string (T1++⟨#[32]⟩++o++⟨#[32]⟩++T2),.int .i64 lv,.int .i64 sv,.int .i64 sf,.int .i64 ss,.bool sx]) (by simp[results,Tryz.results64,go_sem,gg]) rfl ⟨by rw[HRES.out];rfl,hbl⟩
set_option maxHeartbeats 8000000 in
set_option maxRecDepth 100000 in
theorem either_a_f(o t1 t2 T1 T2:ByteArray)(b1:Nat)(v1:Int)(f1 s1 b2:Nat)(v2:Int)(f2 s2:Nat)(g:Bool)(n lv:Nat)(hT:TwoT (ag t1 b1 v1 f1 s1 false) (ag t2 b2 v2 f2 s2 g) o T1 T2 lv)(hs1:s1≤10000)(hs2:s2≤10000)(hn1:f1≠0→v1=0)(hn2:f2≠0→v2=0)(hd:f1=0→v1≠decK n)(hob:((o.toList==[97,110,100])==(v1==1))=true)(w:World) :
  Calls Tryz.prog 64 #[.agg (ag t1 b1 v1 f1 s1 false),.string o,.int .i64 lv,.agg (ag t2 b2 v2 f2 s2 g)] w fun e w'=>e=.returned (pcV (T1++⟨#[32]⟩++o++⟨#[32]⟩++T2) lv (choW n ⟨v1,f1,s1,false⟩ ⟨v2,f2,s2,g⟩))∧Below w.heap.size w w':=by
 have HTT:=mH hT
 have HN1:=mH hn1
 have HN2:=mH hn2
 have HD:=mH hd
 clear hT hn1 hn2 hd
 have y1:=HTT.out.y1
 have y2:=HTT.out.y2
 have y3:=HTT.out.y3
 have y4:=HTT.out.y4
 have HQ:=mH (qua_start w (ag t1 b1 v1 f1 s1 false) (ag t2 b2 v2 f2 s2 g) ag0 (ag ⟨#[]⟩ lv v1 f1 s1 false))
 go_enter Tryz.func64,Tryz.ntmps64
 go_upto_region 2 with fail
 generalize (((w.alloc (.cells (ag t1 b1 v1 f1 s1 false) 62)).alloc (.cells (ag t2 b2 v2 f2 s2 g) 62)).alloc (.cells ag0 62)).alloc (.cells (ag ⟨#[]⟩ lv v1 f1 s1 false) 62)=W at HQ ⊢
 obtain ⟨k1,k2,k3,k4,k5,k6⟩:=HQ.out.facts
 go_cut [] (fun wx=>QuaP w wx (ag t1 b1 v1 f1 s1 false) (ag t2 b2 v2 f2 s2 g) ag0 (ag (T1++⟨#[32]⟩++o++⟨#[32]⟩++T2) lv v1 f1 s1 false))
 case first =>
  go_region_held3 (fun w'=>w'.cell? ⟨w.heap.size,0,none⟩=some (.string t1)∧w'.cell? ⟨w.heap.size,1,none⟩=some (.int .i64 b1)∧w'.cell? ⟨w.heap.size,2,none⟩=some (.int .i64 v1)∧w'.cell? ⟨w.heap.size,3,none⟩=some (.int .i64 f1)∧w'.cell? ⟨w.heap.size,4,none⟩=some (.int .i64 s1)∧w'.cell? ⟨w.heap.size,5,none⟩=some (.bool false)∧w'.cell? ⟨w.heap.size+1,0,none⟩=some (.string t2)∧w'.cell? ⟨w.heap.size+1,1,none⟩=some (.int .i64 b2)∧w'.cell? ⟨w.heap.size+1,2,none⟩=some (.int .i64 v2)∧w'.cell? ⟨w.heap.size+1,3,none⟩=some (.int .i64 f2)∧w'.cell? ⟨w.heap.size+1,4,none⟩=some (.int .i64 s2)∧w'.cell? ⟨w.heap.size+1,5,none⟩=some (.bool g)) (first | with_reducible exact HQ.out.drew.twelve | with_reducible exact HQ.out.twelve | with_reducible exact (HQ.out.setR _ _).twelve) (first | (go_at_call_of 60 (Value.int IntKind.i64 (lv:Int));refine (HTT.out.t1 _).mono ?_;rintro e w1 ⟨rfl,hb⟩;have HQ':QuaP w w1 (ag t1 b1 v1 f1 s1 false) (ag t2 b2 v2 f2 s2 g) ag0 (ag ⟨#[]⟩ lv v1 f1 s1 false):=(by first | with_reducible exact HQ.out.below hb | with_reducible exact HQ.out.drew.below hb);replace HQ:=mH HQ';clear hb HQ';clear k1 k2 k3 k4 k5 k6;obtain ⟨k1,k2,k3,k4,k5,k6⟩:=HQ.out.facts) | (go_at_call 60;rw[HTT.out.wl];refine (HTT.out.t2 _).mono ?_;rintro e w2 ⟨rfl,hb⟩;have HQ':QuaP w w2 (ag t1 b1 v1 f1 s1 false) (ag t2 b2 v2 f2 s2 g) ag0 (ag ⟨#[]⟩ lv v1 f1 s1 false):=(by first | with_reducible exact HQ.out.below hb | with_reducible exact HQ.out.drew.below hb);replace HQ:=mH HQ';clear hb HQ';clear k1 k2 k3 k4 k5 k6;obtain ⟨k1,k2,k3,k4,k5,k6⟩:=HQ.out.facts))
  all_goals go_wp2_with fail
  all_goals go_meet
  all_goals (try exact HQ.out.setR 0 _)
 case rest =>
  clear HQ k1 k2 k3 k4 k5 k6 y1 y2 y3 y4
  have HQ:=mH hcut
  clear hcut
  obtain ⟨k1,k2,k3,k4,k5,k6⟩:=HQ.out.facts
  by_cases hf1:f1=0
  case neg =>
   have hf':((f1:Int) != 0)=true:=by simp;omega
   go_wp2
   obtain ⟨gg,hbl⟩:=HQ.out.fin (.string (T1++⟨#[32]⟩++o++⟨#[32]⟩++T2)) (.int .i64 lv) (.int .i64 v1) (.int .i64 f1) (.int .i64 s1) (.bool false)
   unfold finQ6 at gg hbl
   exact bodyPost_ret (v:=.agg #[.string (T1++⟨#[32]⟩++o++⟨#[32]⟩++T2),.int .i64 lv,.int .i64 v1,.int .i64 f1,.int .i64 s1,.bool false]) (by simp[results,Tryz.results64,go_sem,gg]) rfl ⟨by unfold choW;rw[if_pos hf1,HN1.out hf1];rfl,hbl⟩
  case pos =>
   have HF1:=mH hf1
   have hf':((f1:Int) != 0)=false:=by simp;omega
   clear hf1
   by_cases hf2:f2=0
   case neg =>
    have hf0:((f2:Int)==0)=false:=by simp;omega
    obtain ⟨K,hK⟩:∃ K,K=settleW ⟨v2,f2,s1+1+s2,false⟩:=⟨_,rfl⟩
    have HRES:Hid (choW n ⟨v1,f1,s1,false⟩ ⟨v2,f2,s2,g⟩=K):=by
     rw[Hid,hK]
     have h1:=HF1.out
     have h2:=HD.out
     have h3:=HN2.out
     clear HQ k1 k2 k3 k4 k5 k6 HTT hK
     subst h1
     rw[h3 hf2];unfold choW;rw[if_neg (by simp),if_neg (h2 rfl),if_pos hf2];unfold settleW;rw[if_neg (fun h=>hf2 h.2)];rfl
    have HSE:Hid (∀ wx,Calls Tryz.prog 62 #[.agg (ag (T1++⟨#[32]⟩++o++⟨#[32]⟩++T2) lv v2 f2 ((s1:Int)+1+s2) false)] wx fun e w'=>e=.returned (pcV (T1++⟨#[32]⟩++o++⟨#[32]⟩++T2) lv K)∧Below wx.heap.size wx w'):=fun wx=>by
     rw[hK]
     exact settled_any (T1++⟨#[32]⟩++o++⟨#[32]⟩++T2) lv ⟨v2,f2,s1+1+s2,false⟩ wx
    clear hK
    obtain ⟨sv,sf,ss,sx⟩:=K
    go_upto_region 12 with fail
    have HQ2:=((((HQ.out.setR 4 (.int .i64 ((s1:Int)+1))).setR 2 (.int .i64 v2)).setR 3 (.int .i64 f2)).setR 4 (.int .i64 ((s1:Int)+1+s2)))
    simp only[List.setIfInBounds_toArray,List.set_cons_zero,List.set_cons_succ]at HQ2
    clear HQ k1 k2 k3 k4 k5 k6
    generalize ((((wc.setCell ⟨w.heap.size+1+1+1,4,none⟩ (.int .i64 ((s1:Int)+1))).setCell ⟨w.heap.size+1+1+1,2,none⟩ (.int .i64 v2)).setCell ⟨w.heap.size+1+1+1,3,none⟩ (.int .i64 f2)).setCell ⟨w.heap.size+1+1+1,4,none⟩ (.int .i64 ((s1:Int)+1+s2)))=W5 at HQ2 ⊢
    have HQ:=mH HQ2
    clear HQ2
    obtain ⟨k1,k2,k3,k4,k5,k6⟩:=HQ.out.facts
    go_wp2_with (go_at_call 62;refine (HSE.out _).mono ?_;rintro e w3 ⟨rfl,hb3⟩;unfold pcV pcA;replace HQ:=mH (HQ.out.below hb3);clear hb3;clear k1 k2 k3 k4 k5 k6;obtain ⟨k1,k2,k3,k4,k5,k6⟩:=HQ.out.facts)
    obtain ⟨gg,hbl⟩:=HQ.out.fin (.string (T1++⟨#[32]⟩++o++⟨#[32]⟩++T2)) (.int .i64 lv) (.int .i64 sv) (.int .i64 sf) (.int .i64 ss) (.bool sx)
    unfold finQ6 at gg hbl
    exact bodyPost_ret (v:=.agg #[.string (T1++⟨#[32]⟩++o++⟨#[32]⟩++T2),.int .i64 lv,.int .i64 sv,.int .i64 sf,.int .i64 ss,.bool sx]) (by simp[results,Tryz.results64,go_sem,gg]) rfl ⟨by rw[HRES.out];rfl,hbl⟩
   case pos =>
    have hf0:((f2:Int)==0)=true:=by simp;omega
    have HF2:=mH hf2
    clear hf2
    obtain ⟨K,hK⟩:∃ K,K=settleW ⟨v2,f2,s1+1+s2+1,false⟩:=⟨_,rfl⟩
    have HRES:Hid (choW n ⟨v1,f1,s1,false⟩ ⟨v2,f2,s2,g⟩=K):=by
     rw[Hid,hK]
     have h1:=HF1.out
     have h2:=HD.out
     have h3:=HN2.out
     clear HQ k1 k2 k3 k4 k5 k6 HTT hK
     subst h1
     have h4:=HF2.out;clear HF2 HN2 h3 hf0;subst h4;unfold choW;rw[if_neg (by simp),if_neg (h2 rfl),if_neg (by simp)];rfl
    have HSE:Hid (∀ wx,Calls Tryz.prog 62 #[.agg (ag (T1++⟨#[32]⟩++o++⟨#[32]⟩++T2) lv v2 f2 ((s1:Int)+1+s2+1) false)] wx fun e w'=>e=.returned (pcV (T1++⟨#[32]⟩++o++⟨#[32]⟩++T2) lv K)∧Below wx.heap.size wx w'):=fun wx=>by
     rw[hK]
     exact settled_any (T1++⟨#[32]⟩++o++⟨#[32]⟩++T2) lv ⟨v2,f2,s1+1+s2+1,false⟩ wx
    clear hK
    obtain ⟨sv,sf,ss,sx⟩:=K
    go_upto_region 12 with fail
    have HQ2:=(((((HQ.out.setR 4 (.int .i64 ((s1:Int)+1))).setR 2 (.int .i64 v2)).setR 3 (.int .i64 f2)).setR 4 (.int .i64 ((s1:Int)+1+s2))).setR 4 (.int .i64 ((s1:Int)+1+s2+1)))
    simp only[List.setIfInBounds_toArray,List.set_cons_zero,List.set_cons_succ]at HQ2
    clear HQ k1 k2 k3 k4 k5 k6
    generalize (((((wc.setCell ⟨w.heap.size+1+1+1,4,none⟩ (.int .i64 ((s1:Int)+1))).setCell ⟨w.heap.size+1+1+1,2,none⟩ (.int .i64 v2)).setCell ⟨w.heap.size+1+1+1,3,none⟩ (.int .i64 f2)).setCell ⟨w.heap.size+1+1+1,4,none⟩ (.int .i64 ((s1:Int)+1+s2))).setCell ⟨w.heap.size+1+1+1,4,none⟩ (.int .i64 ((s1:Int)+1+s2+1)))=W5 at HQ2 ⊢
    have HQ:=mH HQ2
    clear HQ2
    obtain ⟨k1,k2,k3,k4,k5,k6⟩:=HQ.out.facts
    go_wp2_with (go_at_call 62;refine (HSE.out _).mono ?_;rintro e w3 ⟨rfl,hb3⟩;unfold pcV pcA;replace HQ:=mH (HQ.out.below hb3);clear hb3;clear k1 k2 k3 k4 k5 k6;obtain ⟨k1,k2,k3,k4,k5,k6⟩:=HQ.out.facts)
    obtain ⟨gg,hbl⟩:=HQ.out.fin (.string (T1++⟨#[32]⟩++o++⟨#[32]⟩++T2)) (.int .i64 lv) (.int .i64 sv) (.int .i64 sf) (.int .i64 ss) (.bool sx)
    unfold finQ6 at gg hbl
    exact bodyPost_ret (v:=.agg #[.string (T1++⟨#[32]⟩++o++⟨#[32]⟩++T2),.int .i64 lv,.int .i64 sv,.int .i64 sf,.int .i64 ss,.bool sx]) (by simp[results,Tryz.results64,go_sem,gg]) rfl ⟨by rw[HRES.out];rfl,hbl⟩
set_option maxHeartbeats 8000000 in
set_option maxRecDepth 100000 in
theorem either_b_t(o t1 t2 T1 T2:ByteArray)(b1:Nat)(v1:Int)(f1 s1 b2:Nat)(v2:Int)(f2 s2:Nat)(g:Bool)(n lv:Nat)(hT:TwoT (ag t1 b1 v1 f1 s1 true) (ag t2 b2 v2 f2 s2 g) o T1 T2 lv)(hs1:s1≤10000)(hs2:s2≤10000)(hn1:f1≠0→v1=0)(hn2:f2≠0→v2=0)(hd:v1=decK n)(hob:((o.toList==[97,110,100])==(v1==1))=false)(w:World) :
  Calls Tryz.prog 64 #[.agg (ag t1 b1 v1 f1 s1 true),.string o,.int .i64 lv,.agg (ag t2 b2 v2 f2 s2 g)] w fun e w'=>e=.returned (pcV (T1++⟨#[32]⟩++o++⟨#[32]⟩++T2) lv (choW n ⟨v1,f1,s1,true⟩ ⟨v2,f2,s2,g⟩))∧Below w.heap.size w w':=by
 have HTT:=mH hT
 have HN1:=mH hn1
 have HN2:=mH hn2
 have HD:=mH hd
 clear hT hn1 hn2 hd
 have y1:=HTT.out.y1
 have y2:=HTT.out.y2
 have y3:=HTT.out.y3
 have y4:=HTT.out.y4
 have HQ:=mH (qua_start w (ag t1 b1 v1 f1 s1 true) (ag t2 b2 v2 f2 s2 g) ag0 (ag ⟨#[]⟩ lv v1 f1 s1 g))
 go_enter Tryz.func64,Tryz.ntmps64
 go_upto_region 2 with fail
 generalize (((w.alloc (.cells (ag t1 b1 v1 f1 s1 true) 62)).alloc (.cells (ag t2 b2 v2 f2 s2 g) 62)).alloc (.cells ag0 62)).alloc (.cells (ag ⟨#[]⟩ lv v1 f1 s1 g) 62)=W at HQ ⊢
 obtain ⟨k1,k2,k3,k4,k5,k6⟩:=HQ.out.facts
 go_cut [] (fun wx=>QuaP w wx (ag t1 b1 v1 f1 s1 true) (ag t2 b2 v2 f2 s2 g) ag0 (ag (T1++⟨#[32]⟩++o++⟨#[32]⟩++T2) lv v1 f1 s1 g))
 case first =>
  go_region_held3 (fun w'=>w'.cell? ⟨w.heap.size,0,none⟩=some (.string t1)∧w'.cell? ⟨w.heap.size,1,none⟩=some (.int .i64 b1)∧w'.cell? ⟨w.heap.size,2,none⟩=some (.int .i64 v1)∧w'.cell? ⟨w.heap.size,3,none⟩=some (.int .i64 f1)∧w'.cell? ⟨w.heap.size,4,none⟩=some (.int .i64 s1)∧w'.cell? ⟨w.heap.size,5,none⟩=some (.bool true)∧w'.cell? ⟨w.heap.size+1,0,none⟩=some (.string t2)∧w'.cell? ⟨w.heap.size+1,1,none⟩=some (.int .i64 b2)∧w'.cell? ⟨w.heap.size+1,2,none⟩=some (.int .i64 v2)∧w'.cell? ⟨w.heap.size+1,3,none⟩=some (.int .i64 f2)∧w'.cell? ⟨w.heap.size+1,4,none⟩=some (.int .i64 s2)∧w'.cell? ⟨w.heap.size+1,5,none⟩=some (.bool g)) (first | with_reducible exact HQ.out.drew.twelve | with_reducible exact HQ.out.twelve | with_reducible exact (HQ.out.setR _ _).twelve) (first | (go_at_call_of 60 (Value.int IntKind.i64 (lv:Int));refine (HTT.out.t1 _).mono ?_;rintro e w1 ⟨rfl,hb⟩;have HQ':QuaP w w1 (ag t1 b1 v1 f1 s1 true) (ag t2 b2 v2 f2 s2 g) ag0 (ag ⟨#[]⟩ lv v1 f1 s1 g):=(by first | with_reducible exact HQ.out.below hb | with_reducible exact HQ.out.drew.below hb);replace HQ:=mH HQ';clear hb HQ';clear k1 k2 k3 k4 k5 k6;obtain ⟨k1,k2,k3,k4,k5,k6⟩:=HQ.out.facts) | (go_at_call 60;rw[HTT.out.wl];refine (HTT.out.t2 _).mono ?_;rintro e w2 ⟨rfl,hb⟩;have HQ':QuaP w w2 (ag t1 b1 v1 f1 s1 true) (ag t2 b2 v2 f2 s2 g) ag0 (ag ⟨#[]⟩ lv v1 f1 s1 g):=(by first | with_reducible exact HQ.out.below hb | with_reducible exact HQ.out.drew.below hb);replace HQ:=mH HQ';clear hb HQ';clear k1 k2 k3 k4 k5 k6;obtain ⟨k1,k2,k3,k4,k5,k6⟩:=HQ.out.facts))
  all_goals go_wp2_with fail
  all_goals go_meet
  all_goals (try exact HQ.out.setR 0 _)
 case rest =>
  clear HQ k1 k2 k3 k4 k5 k6 y1 y2 y3 y4
  have HQ:=mH hcut
  clear hcut
  obtain ⟨k1,k2,k3,k4,k5,k6⟩:=HQ.out.facts
  by_cases hf1:f1=0
  case neg =>
   have hf':((f1:Int) != 0)=true:=by simp;omega
   go_wp2
   obtain ⟨gg,hbl⟩:=HQ.out.fin (.string (T1++⟨#[32]⟩++o++⟨#[32]⟩++T2)) (.int .i64 lv) (.int .i64 v1) (.int .i64 f1) (.int .i64 s1) (.bool g)
   unfold finQ6 at gg hbl
   exact bodyPost_ret (v:=.agg #[.string (T1++⟨#[32]⟩++o++⟨#[32]⟩++T2),.int .i64 lv,.int .i64 v1,.int .i64 f1,.int .i64 s1,.bool g]) (by simp[results,Tryz.results64,go_sem,gg]) rfl ⟨by unfold choW;rw[if_pos hf1,HN1.out hf1];rfl,hbl⟩
  case pos =>
   have HF1:=mH hf1
   have hf':((f1:Int) != 0)=false:=by simp;omega
   clear hf1
   have hf0:((f1:Int)==0)=true:=by have:=HF1.out;simp;omega
   obtain ⟨K,hK⟩:∃ K,K=settleW ⟨v1,f1,s1+1+1,g⟩:=⟨_,rfl⟩
   have HRES:Hid (choW n ⟨v1,f1,s1,true⟩ ⟨v2,f2,s2,g⟩=K):=by
    rw[Hid,hK]
    have h1:=HF1.out
    have h2:=HD.out
    have h3:=HN2.out
    clear HQ k1 k2 k3 k4 k5 k6 HTT hK
    subst h1
    unfold choW;rw[if_neg (by simp),if_pos h2];rw[h2];rfl
   have HSE:Hid (∀ wx,Calls Tryz.prog 62 #[.agg (ag (T1++⟨#[32]⟩++o++⟨#[32]⟩++T2) lv v1 f1 ((s1:Int)+1+1) g)] wx fun e w'=>e=.returned (pcV (T1++⟨#[32]⟩++o++⟨#[32]⟩++T2) lv K)∧Below wx.heap.size wx w'):=fun wx=>by
    rw[hK]
    exact settled_any (T1++⟨#[32]⟩++o++⟨#[32]⟩++T2) lv ⟨v1,f1,s1+1+1,g⟩ wx
   clear hK
   obtain ⟨sv,sf,ss,sx⟩:=K
   go_upto_region 12 with fail
   have HQ2:=((HQ.out.setR 4 (.int .i64 ((s1:Int)+1))).setR 4 (.int .i64 ((s1:Int)+1+1)))
   simp only[List.setIfInBounds_toArray,List.set_cons_zero,List.set_cons_succ]at HQ2
   clear HQ k1 k2 k3 k4 k5 k6
   generalize ((wc.setCell ⟨w.heap.size+1+1+1,4,none⟩ (.int .i64 ((s1:Int)+1))).setCell ⟨w.heap.size+1+1+1,4,none⟩ (.int .i64 ((s1:Int)+1+1)))=W5 at HQ2 ⊢
   have HQ:=mH HQ2
   clear HQ2
   obtain ⟨k1,k2,k3,k4,k5,k6⟩:=HQ.out.facts
   go_wp2_with (go_at_call 62;refine (HSE.out _).mono ?_;rintro e w3 ⟨rfl,hb3⟩;unfold pcV pcA;replace HQ:=mH (HQ.out.below hb3);clear hb3;clear k1 k2 k3 k4 k5 k6;obtain ⟨k1,k2,k3,k4,k5,k6⟩:=HQ.out.facts)
   obtain ⟨gg,hbl⟩:=HQ.out.fin (.string (T1++⟨#[32]⟩++o++⟨#[32]⟩++T2)) (.int .i64 lv) (.int .i64 sv) (.int .i64 sf) (.int .i64 ss) (.bool sx)
   unfold finQ6 at gg hbl
   exact bodyPost_ret (v:=.agg #[.string (T1++⟨#[32]⟩++o++⟨#[32]⟩++T2),.int .i64 lv,.int .i64 sv,.int .i64 sf,.int .i64 ss,.bool sx]) (by simp[results,Tryz.results64,go_sem,gg]) rfl ⟨by rw[HRES.out];rfl,hbl⟩
set_option maxHeartbeats 8000000 in
set_option maxRecDepth 100000 in
theorem either_b_f(o t1 t2 T1 T2:ByteArray)(b1:Nat)(v1:Int)(f1 s1 b2:Nat)(v2:Int)(f2 s2:Nat)(g:Bool)(n lv:Nat)(hT:TwoT (ag t1 b1 v1 f1 s1 false) (ag t2 b2 v2 f2 s2 g) o T1 T2 lv)(hs1:s1≤10000)(hs2:s2≤10000)(hn1:f1≠0→v1=0)(hn2:f2≠0→v2=0)(hd:v1=decK n)(hob:((o.toList==[97,110,100])==(v1==1))=false)(w:World) :
  Calls Tryz.prog 64 #[.agg (ag t1 b1 v1 f1 s1 false),.string o,.int .i64 lv,.agg (ag t2 b2 v2 f2 s2 g)] w fun e w'=>e=.returned (pcV (T1++⟨#[32]⟩++o++⟨#[32]⟩++T2) lv (choW n ⟨v1,f1,s1,false⟩ ⟨v2,f2,s2,g⟩))∧Below w.heap.size w w':=by
 have HTT:=mH hT
 have HN1:=mH hn1
 have HN2:=mH hn2
 have HD:=mH hd
 clear hT hn1 hn2 hd
 have y1:=HTT.out.y1
 have y2:=HTT.out.y2
 have y3:=HTT.out.y3
 have y4:=HTT.out.y4
 have HQ:=mH (qua_start w (ag t1 b1 v1 f1 s1 false) (ag t2 b2 v2 f2 s2 g) ag0 (ag ⟨#[]⟩ lv v1 f1 s1 false))
 go_enter Tryz.func64,Tryz.ntmps64
 go_upto_region 2 with fail
 generalize (((w.alloc (.cells (ag t1 b1 v1 f1 s1 false) 62)).alloc (.cells (ag t2 b2 v2 f2 s2 g) 62)).alloc (.cells ag0 62)).alloc (.cells (ag ⟨#[]⟩ lv v1 f1 s1 false) 62)=W at HQ ⊢
 obtain ⟨k1,k2,k3,k4,k5,k6⟩:=HQ.out.facts
 go_cut [] (fun wx=>QuaP w wx (ag t1 b1 v1 f1 s1 false) (ag t2 b2 v2 f2 s2 g) ag0 (ag (T1++⟨#[32]⟩++o++⟨#[32]⟩++T2) lv v1 f1 s1 false))
 case first =>
  go_region_held3 (fun w'=>w'.cell? ⟨w.heap.size,0,none⟩=some (.string t1)∧w'.cell? ⟨w.heap.size,1,none⟩=some (.int .i64 b1)∧w'.cell? ⟨w.heap.size,2,none⟩=some (.int .i64 v1)∧w'.cell? ⟨w.heap.size,3,none⟩=some (.int .i64 f1)∧w'.cell? ⟨w.heap.size,4,none⟩=some (.int .i64 s1)∧w'.cell? ⟨w.heap.size,5,none⟩=some (.bool false)∧w'.cell? ⟨w.heap.size+1,0,none⟩=some (.string t2)∧w'.cell? ⟨w.heap.size+1,1,none⟩=some (.int .i64 b2)∧w'.cell? ⟨w.heap.size+1,2,none⟩=some (.int .i64 v2)∧w'.cell? ⟨w.heap.size+1,3,none⟩=some (.int .i64 f2)∧w'.cell? ⟨w.heap.size+1,4,none⟩=some (.int .i64 s2)∧w'.cell? ⟨w.heap.size+1,5,none⟩=some (.bool g)) (first | with_reducible exact HQ.out.drew.twelve | with_reducible exact HQ.out.twelve | with_reducible exact (HQ.out.setR _ _).twelve) (first | (go_at_call_of 60 (Value.int IntKind.i64 (lv:Int));refine (HTT.out.t1 _).mono ?_;rintro e w1 ⟨rfl,hb⟩;have HQ':QuaP w w1 (ag t1 b1 v1 f1 s1 false) (ag t2 b2 v2 f2 s2 g) ag0 (ag ⟨#[]⟩ lv v1 f1 s1 false):=(by first | with_reducible exact HQ.out.below hb | with_reducible exact HQ.out.drew.below hb);replace HQ:=mH HQ';clear hb HQ';clear k1 k2 k3 k4 k5 k6;obtain ⟨k1,k2,k3,k4,k5,k6⟩:=HQ.out.facts) | (go_at_call 60;rw[HTT.out.wl];refine (HTT.out.t2 _).mono ?_;rintro e w2 ⟨rfl,hb⟩;have HQ':QuaP w w2 (ag t1 b1 v1 f1 s1 false) (ag t2 b2 v2 f2 s2 g) ag0 (ag ⟨#[]⟩ lv v1 f1 s1 false):=(by first | with_reducible exact HQ.out.below hb | with_reducible exact HQ.out.drew.below hb);replace HQ:=mH HQ';clear hb HQ';clear k1 k2 k3 k4 k5 k6;obtain ⟨k1,k2,k3,k4,k5,k6⟩:=HQ.out.facts))
  all_goals go_wp2_with fail
  all_goals go_meet
  all_goals (try exact HQ.out.setR 0 _)
 case rest =>
  clear HQ k1 k2 k3 k4 k5 k6 y1 y2 y3 y4
  have HQ:=mH hcut
  clear hcut
  obtain ⟨k1,k2,k3,k4,k5,k6⟩:=HQ.out.facts
  by_cases hf1:f1=0
  case neg =>
   have hf':((f1:Int) != 0)=true:=by simp;omega
   go_wp2
   obtain ⟨gg,hbl⟩:=HQ.out.fin (.string (T1++⟨#[32]⟩++o++⟨#[32]⟩++T2)) (.int .i64 lv) (.int .i64 v1) (.int .i64 f1) (.int .i64 s1) (.bool false)
   unfold finQ6 at gg hbl
   exact bodyPost_ret (v:=.agg #[.string (T1++⟨#[32]⟩++o++⟨#[32]⟩++T2),.int .i64 lv,.int .i64 v1,.int .i64 f1,.int .i64 s1,.bool false]) (by simp[results,Tryz.results64,go_sem,gg]) rfl ⟨by unfold choW;rw[if_pos hf1,HN1.out hf1];rfl,hbl⟩
  case pos =>
   have HF1:=mH hf1
   have hf':((f1:Int) != 0)=false:=by simp;omega
   clear hf1
   have hf0:((f1:Int)==0)=true:=by have:=HF1.out;simp;omega
   obtain ⟨K,hK⟩:∃ K,K=settleW ⟨v1,f1,s1+1+1,false⟩:=⟨_,rfl⟩
   have HRES:Hid (choW n ⟨v1,f1,s1,false⟩ ⟨v2,f2,s2,g⟩=K):=by
    rw[Hid,hK]
    have h1:=HF1.out
    have h2:=HD.out
    have h3:=HN2.out
    clear HQ k1 k2 k3 k4 k5 k6 HTT hK
    subst h1
    unfold choW;rw[if_neg (by simp),if_pos h2];rw[h2];rfl
   have HSE:Hid (∀ wx,Calls Tryz.prog 62 #[.agg (ag (T1++⟨#[32]⟩++o++⟨#[32]⟩++T2) lv v1 f1 ((s1:Int)+1+1) false)] wx fun e w'=>e=.returned (pcV (T1++⟨#[32]⟩++o++⟨#[32]⟩++T2) lv K)∧Below wx.heap.size wx w'):=fun wx=>by
    rw[hK]
    exact settled_any (T1++⟨#[32]⟩++o++⟨#[32]⟩++T2) lv ⟨v1,f1,s1+1+1,false⟩ wx
   clear hK
   obtain ⟨sv,sf,ss,sx⟩:=K
   go_upto_region 12 with fail
   have HQ2:=((HQ.out.setR 4 (.int .i64 ((s1:Int)+1))).setR 4 (.int .i64 ((s1:Int)+1+1)))
   simp only[List.setIfInBounds_toArray,List.set_cons_zero,List.set_cons_succ]at HQ2
   clear HQ k1 k2 k3 k4 k5 k6
   generalize ((wc.setCell ⟨w.heap.size+1+1+1,4,none⟩ (.int .i64 ((s1:Int)+1))).setCell ⟨w.heap.size+1+1+1,4,none⟩ (.int .i64 ((s1:Int)+1+1)))=W5 at HQ2 ⊢
   have HQ:=mH HQ2
   clear HQ2
   obtain ⟨k1,k2,k3,k4,k5,k6⟩:=HQ.out.facts
   go_wp2_with (go_at_call 62;refine (HSE.out _).mono ?_;rintro e w3 ⟨rfl,hb3⟩;unfold pcV pcA;replace HQ:=mH (HQ.out.below hb3);clear hb3;clear k1 k2 k3 k4 k5 k6;obtain ⟨k1,k2,k3,k4,k5,k6⟩:=HQ.out.facts)
   obtain ⟨gg,hbl⟩:=HQ.out.fin (.string (T1++⟨#[32]⟩++o++⟨#[32]⟩++T2)) (.int .i64 lv) (.int .i64 sv) (.int .i64 sf) (.int .i64 ss) (.bool sx)
   unfold finQ6 at gg hbl
   exact bodyPost_ret (v:=.agg #[.string (T1++⟨#[32]⟩++o++⟨#[32]⟩++T2),.int .i64 lv,.int .i64 sv,.int .i64 sf,.int .i64 ss,.bool sx]) (by simp[results,Tryz.results64,go_sem,gg]) rfl ⟨by rw[HRES.out];rfl,hbl⟩
end Go.Proofs.YtpcjadaeolkngaaGreatDoor
