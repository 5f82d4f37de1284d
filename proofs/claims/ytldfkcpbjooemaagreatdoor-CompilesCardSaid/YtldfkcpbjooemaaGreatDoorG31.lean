/-
  Compile: the fact of a node: choices, and operators of two.
-/
import Derived.Test.YtldfkcpbjooemaaGreatDoorG30
set_option linter.unusedVariables false
set_option linter.unusedSimpArgs false
namespace Go.Proofs.YtldfkcpbjooemaaGreatDoor
open Go.RowKit Go.Deep
set_option maxHeartbeats 4000000 in
set_option maxRecDepth 100000 in
theorem factOf_choice (n:PNode) (hn:NodeOk n) (h1:n.ops≠1) (hc:isChK (kindP n.tok.text)=true) (lv fv:Value) (ls:List PLet) (gs:List Fact) (w:World) (hl:Reads w lv ls.length (cellsLt ls)) (hlb:ls.length≤401) (hx:∀ p∈ls,1≤p.val.behind∧p.val.behind≤401) (hf:Reads w fv gs.length (cellsF gs)) (hgb:gs.length≤401) (hgi:∀ i,FactIn (atF gs i)) :
  Calls Tryz.prog 125 #[nodA n,lv,fv] w fun e w'=>e=.returned (factA (factN ls gs n))∧Below w.heap.size w w':=by
 have HM:=Hid.mk2 (FoSt.start (n:=n) hl hf)
 have hnl:=hn.left
 have hnr:=hn.right
 have HE:Hid (factN ls gs n=choiceF (kindP n.tok.text) (atF gs n.left) (atF gs n.right)):=by rw[Hid,factN,if_neg h1,if_pos hc]
 rw[HE.out]
 have e1:((n.ops:Int)==1)=false:=by simp;omega
 have HGI:=Hid.mk2 hgi
 have HXS:=Hid.mk2 hx
 have hfi1:=hgi n.left
 have hfi2:=hgi n.right
 obtain ⟨f1,hf1⟩:∃ f,atF gs n.left=f:=⟨_,rfl⟩
 obtain ⟨f2,hf2⟩:∃ f,atF gs n.right=f:=⟨_,rfl⟩
 rw[hf1] at hfi1
 rw[hf2] at hfi2
 have HI1:=Hid.mk2 hfi1
 have HI2:=Hid.mk2 hfi2
 have HF1:=Hid.mk2 hf1
 have HF2:=Hid.mk2 hf2
 rw[hf1,hf2]
 have HCH:=Hid.mk2 hc
 clear hl hf hn hgi h1 hf1 hf2 hfi1 hfi2 HE hx hc
 unfold nodA
 go_enter Tryz.func125,Tryz.ntmps125
 go_upto_region 5 with (first
  | (go_at_call_of 150 (Value.int IntKind.i64 (n.left:Int));refine (factAt_any gs _ (n.left:Int) _ HM.out.f hgb ⟨by omega,by omega⟩).mono ?_;rintro e w1 ⟨rfl,hb1⟩;rw[HF1.out];unfold factA;replace HM:=Hid.mk2 (HM.out.below hb1);clear hb1;have n0:=HM.out.nd.cell 0;have n1:=HM.out.nd.cell 1;have n2:=HM.out.nd.cell 2;have n3:=HM.out.nd.cell 3;have n4:=HM.out.nd.cell 4;have n5:=HM.out.nd.cell 5;have r0:=HM.out.rs.cell 0;have r1:=HM.out.rs.cell 1;have fr0:=HM.out.rs.free 0;have fr1:=HM.out.rs.free 1;have hlw:=HM.out.bl.size;have hlr:=HM.out.rs.lt;have hln:=HM.out.nd.lt;simp only[nodC,List.getElem?_toArray,List.getElem?_cons_zero,List.getElem?_cons_succ] at n0 n1 n2 n3 n4 n5 r0 r1)
  | (go_at_call_of 150 (Value.int IntKind.i64 (n.right:Int));refine (factAt_any gs _ (n.right:Int) _ (HM.out.al _).f hgb ⟨by omega,by omega⟩).mono ?_;rintro e w2 ⟨rfl,hb2⟩;rw[HF2.out];unfold factA;clear n0 n1 n2 n3 n4 n5 r0 r1 fr0 fr1 hlw hlr hln;have H7:=Hid.mk2 ((Blk.new w1 #[.bool f1.isSome,.int .i64 (f1.getD 0)] 172).below hb2 (Blk.new w1 #[.bool f1.isSome,.int .i64 (f1.getD 0)] 172).lt);replace HM:=Hid.mk2 ((HM.out.al _).below hb2);clear hb2;have n0:=HM.out.nd.cell 0;have n1:=HM.out.nd.cell 1;have n2:=HM.out.nd.cell 2;have n3:=HM.out.nd.cell 3;have n4:=HM.out.nd.cell 4;have n5:=HM.out.nd.cell 5;have r0:=HM.out.rs.cell 0;have r1:=HM.out.rs.cell 1;have fr0:=HM.out.rs.free 0;have fr1:=HM.out.rs.free 1;have hlw:=HM.out.bl.size;have hlr:=HM.out.rs.lt;have hln:=HM.out.nd.lt;simp only[nodC,List.getElem?_toArray,List.getElem?_cons_zero,List.getElem?_cons_succ] at n0 n1 n2 n3 n4 n5 r0 r1;have t70:=H7.out.cell 0;have t71:=H7.out.cell 1;simp only[List.getElem?_toArray,List.getElem?_cons_zero,List.getElem?_cons_succ] at t70 t71;have hl7:=H7.out.lt))
 have H8:=Hid.mk2 (Blk.new w2 #[.bool f2.isSome,.int .i64 (f2.getD 0)] 172)
 replace H7:=Hid.mk2 (H7.out.alloc (.cells #[.bool f2.isSome,.int .i64 (f2.getD 0)] 172))
 replace HM:=Hid.mk2 (HM.out.al (.cells #[.bool f2.isSome,.int .i64 (f2.getD 0)] 172))
 clear n0 n1 n2 n3 n4 n5 r0 r1 fr0 fr1 hlw hlr hln t70 t71 hl7
 generalize w2.alloc (.cells #[.bool f2.isSome,.int .i64 (f2.getD 0)] 172)=w3 at *
 have h7n:=H7.out.lt
 have h8n:=H8.out.lt
 have n0:=HM.out.nd.cell 0;have n1:=HM.out.nd.cell 1;have n2:=HM.out.nd.cell 2;have n3:=HM.out.nd.cell 3;have n4:=HM.out.nd.cell 4;have n5:=HM.out.nd.cell 5;have r0:=HM.out.rs.cell 0;have r1:=HM.out.rs.cell 1;have fr0:=HM.out.rs.free 0;have fr1:=HM.out.rs.free 1;have hlw:=HM.out.bl.size;have hlr:=HM.out.rs.lt;have hln:=HM.out.nd.lt
 have t70:=H7.out.cell 0;have t71:=H7.out.cell 1;have t80:=H8.out.cell 0;have t81:=H8.out.cell 1
 simp only[nodC,List.getElem?_toArray,List.getElem?_cons_zero,List.getElem?_cons_succ] at n0 n1 n2 n3 n4 n5 r0 r1 t70 t71 t80 t81
 go_wp2_with (first
  | (go_at_call 153;refine (isChoice_any n _).mono ?_;rintro e w4 ⟨rfl,hb4⟩;rw[HCH.out];replace HM:=Hid.mk2 (HM.out.below hb4);replace H7:=Hid.mk2 (H7.out.below hb4 H7.out.lt);replace H8:=Hid.mk2 (H8.out.below hb4 H8.out.lt);have u0:=H7.out.cell 0;have u1:=H7.out.cell 1;have u2:=H8.out.cell 0;have u3:=H8.out.cell 1;simp only[List.getElem?_toArray,List.getElem?_cons_zero,List.getElem?_cons_succ] at u0 u1 u2 u3;have m0:=HM.out.nd.cell 0;simp only[nodC,List.getElem?_toArray,List.getElem?_cons_zero,List.getElem?_cons_succ] at m0;clear hb4)
  | (go_at_call 154;refine (factOfChoice_any (kindP n.tok.text) f1 f2 _).mono ?_;rintro e w5 ⟨rfl,hb5⟩;unfold factA;replace HM:=Hid.mk2 (HM.out.below hb5);have r0:=HM.out.rs.cell 0;have r1:=HM.out.rs.cell 1;have fr0:=HM.out.rs.free 0;have fr1:=HM.out.rs.free 1;clear hb5))
 all_goals
  have hfb:=(HM.out.rs.set 0 (.bool (choiceF (kindP n.tok.text) f1 f2).isSome)).set 1 (.int .i64 ((choiceF (kindP n.tok.text) f1 f2).getD 0))
  have g0:=hfb.cell 0
  have g1:=hfb.cell 1
  refine bodyPost_ret (v:=.agg #[.bool (choiceF (kindP n.tok.text) f1 f2).isSome,.int .i64 ((choiceF (kindP n.tok.text) f1 f2).getD 0)]) (by simp[results,Tryz.results125,go_sem,g0,g1]) rfl ⟨rfl,sets2 HM.out.bl (by omega) _ _⟩
set_option maxHeartbeats 4000000 in
set_option maxRecDepth 100000 in
theorem factOf_two (n:PNode) (hn:NodeOk n) (h1:n.ops=2) (hc:isChK (kindP n.tok.text)=false) (lv fv:Value) (ls:List PLet) (gs:List Fact) (w:World) (hl:Reads w lv ls.length (cellsLt ls)) (hlb:ls.length≤401) (hx:∀ p∈ls,1≤p.val.behind∧p.val.behind≤401) (hf:Reads w fv gs.length (cellsF gs)) (hgb:gs.length≤401) (hgi:∀ i,FactIn (atF gs i)) :
  Calls Tryz.prog 125 #[nodA n,lv,fv] w fun e w'=>e=.returned (factA (factN ls gs n))∧Below w.heap.size w w':=by
 have HM:=Hid.mk2 (FoSt.start (n:=n) hl hf)
 have hnl:=hn.left
 have hnr:=hn.right
 have HTW:=Hid.mk2 (hn.two hc h1)
 have HE:Hid (factN ls gs n=twoF (opK (kindP n.tok.text) n.ops) (atF gs n.left) (atF gs n.right)):=by rw[Hid,factN,if_neg (by omega),hc,if_neg (by simp),if_pos h1]
 rw[HE.out]
 have e1:((n.ops:Int)==1)=false:=by simp;omega
 have e2:((n.ops:Int)==2)=true:=by simp;omega
 have HGI:=Hid.mk2 hgi
 have HXS:=Hid.mk2 hx
 have hfi1:=hgi n.left
 have hfi2:=hgi n.right
 obtain ⟨f1,hf1⟩:∃ f,atF gs n.left=f:=⟨_,rfl⟩
 obtain ⟨f2,hf2⟩:∃ f,atF gs n.right=f:=⟨_,rfl⟩
 rw[hf1] at hfi1
 rw[hf2] at hfi2
 have HI1:=Hid.mk2 hfi1
 have HI2:=Hid.mk2 hfi2
 have HF1:=Hid.mk2 hf1
 have HF2:=Hid.mk2 hf2
 rw[hf1,hf2]
 have HCH:=Hid.mk2 hc
 clear hl hf hn hgi h1 hf1 hf2 hfi1 hfi2 HE hx hc
 obtain ⟨op,hop⟩:∃ op,opK (kindP n.tok.text) n.ops=op:=⟨_,rfl⟩
 rw[hop] at HTW ⊢
 have HOP:=Hid.mk2 hop
 clear hop
 unfold nodA
 go_enter Tryz.func125,Tryz.ntmps125
 go_upto_region 5 with (first
  | (go_at_call_of 150 (Value.int IntKind.i64 (n.left:Int));refine (factAt_any gs _ (n.left:Int) _ HM.out.f hgb ⟨by omega,by omega⟩).mono ?_;rintro e w1 ⟨rfl,hb1⟩;rw[HF1.out];unfold factA;replace HM:=Hid.mk2 (HM.out.below hb1);clear hb1;have n0:=HM.out.nd.cell 0;have n1:=HM.out.nd.cell 1;have n2:=HM.out.nd.cell 2;have n3:=HM.out.nd.cell 3;have n4:=HM.out.nd.cell 4;have n5:=HM.out.nd.cell 5;have r0:=HM.out.rs.cell 0;have r1:=HM.out.rs.cell 1;have fr0:=HM.out.rs.free 0;have fr1:=HM.out.rs.free 1;have hlw:=HM.out.bl.size;have hlr:=HM.out.rs.lt;have hln:=HM.out.nd.lt;simp only[nodC,List.getElem?_toArray,List.getElem?_cons_zero,List.getElem?_cons_succ] at n0 n1 n2 n3 n4 n5 r0 r1)
  | (go_at_call_of 150 (Value.int IntKind.i64 (n.right:Int));refine (factAt_any gs _ (n.right:Int) _ (HM.out.al _).f hgb ⟨by omega,by omega⟩).mono ?_;rintro e w2 ⟨rfl,hb2⟩;rw[HF2.out];unfold factA;clear n0 n1 n2 n3 n4 n5 r0 r1 fr0 fr1 hlw hlr hln;have H7:=Hid.mk2 ((Blk.new w1 #[.bool f1.isSome,.int .i64 (f1.getD 0)] 172).below hb2 (Blk.new w1 #[.bool f1.isSome,.int .i64 (f1.getD 0)] 172).lt);replace HM:=Hid.mk2 ((HM.out.al _).below hb2);clear hb2;have n0:=HM.out.nd.cell 0;have n1:=HM.out.nd.cell 1;have n2:=HM.out.nd.cell 2;have n3:=HM.out.nd.cell 3;have n4:=HM.out.nd.cell 4;have n5:=HM.out.nd.cell 5;have r0:=HM.out.rs.cell 0;have r1:=HM.out.rs.cell 1;have fr0:=HM.out.rs.free 0;have fr1:=HM.out.rs.free 1;have hlw:=HM.out.bl.size;have hlr:=HM.out.rs.lt;have hln:=HM.out.nd.lt;simp only[nodC,List.getElem?_toArray,List.getElem?_cons_zero,List.getElem?_cons_succ] at n0 n1 n2 n3 n4 n5 r0 r1;have t70:=H7.out.cell 0;have t71:=H7.out.cell 1;simp only[List.getElem?_toArray,List.getElem?_cons_zero,List.getElem?_cons_succ] at t70 t71;have hl7:=H7.out.lt))
 have H8:=Hid.mk2 (Blk.new w2 #[.bool f2.isSome,.int .i64 (f2.getD 0)] 172)
 replace H7:=Hid.mk2 (H7.out.alloc (.cells #[.bool f2.isSome,.int .i64 (f2.getD 0)] 172))
 replace HM:=Hid.mk2 (HM.out.al (.cells #[.bool f2.isSome,.int .i64 (f2.getD 0)] 172))
 clear n0 n1 n2 n3 n4 n5 r0 r1 fr0 fr1 hlw hlr hln t70 t71 hl7
 generalize w2.alloc (.cells #[.bool f2.isSome,.int .i64 (f2.getD 0)] 172)=w3 at *
 have h7n:=H7.out.lt
 have h8n:=H8.out.lt
 have n0:=HM.out.nd.cell 0;have n1:=HM.out.nd.cell 1;have n2:=HM.out.nd.cell 2;have n3:=HM.out.nd.cell 3;have n4:=HM.out.nd.cell 4;have n5:=HM.out.nd.cell 5;have r0:=HM.out.rs.cell 0;have r1:=HM.out.rs.cell 1;have fr0:=HM.out.rs.free 0;have fr1:=HM.out.rs.free 1;have hlw:=HM.out.bl.size;have hlr:=HM.out.rs.lt;have hln:=HM.out.nd.lt
 have t70:=H7.out.cell 0;have t71:=H7.out.cell 1;have t80:=H8.out.cell 0;have t81:=H8.out.cell 1
 simp only[nodC,List.getElem?_toArray,List.getElem?_cons_zero,List.getElem?_cons_succ] at n0 n1 n2 n3 n4 n5 r0 r1 t70 t71 t80 t81
 go_upto_region 8 with (go_at_call 153;refine (isChoice_any n _).mono ?_;rintro e w4 ⟨rfl,hb4⟩;rw[HCH.out];replace HM:=Hid.mk2 (HM.out.below hb4);replace H7:=Hid.mk2 (H7.out.below hb4 H7.out.lt);replace H8:=Hid.mk2 (H8.out.below hb4 H8.out.lt);have u0:=H7.out.cell 0;have u1:=H7.out.cell 1;have u2:=H8.out.cell 0;have u3:=H8.out.cell 1;simp only[List.getElem?_toArray,List.getElem?_cons_zero,List.getElem?_cons_succ] at u0 u1 u2 u3;have m0:=HM.out.nd.cell 0;have m1:=HM.out.nd.cell 1;have m2:=HM.out.nd.cell 2;have m3:=HM.out.nd.cell 3;have m4:=HM.out.nd.cell 4;have m5:=HM.out.nd.cell 5;have r0:=HM.out.rs.cell 0;have r1:=HM.out.rs.cell 1;have fr0:=HM.out.rs.free 0;have fr1:=HM.out.rs.free 1;have hlw:=HM.out.bl.size;have hlr:=HM.out.rs.lt;have hln:=HM.out.nd.lt;simp only[nodC,List.getElem?_toArray,List.getElem?_cons_zero,List.getElem?_cons_succ] at m0 m1 m2 m3 m4 m5;clear hb4)
 go_region_with (first
  | (go_at_call 152;refine (operationOf_any n _).mono ?_;rintro e w6 ⟨rfl,hb6⟩;rw[HOP.out];replace HM:=Hid.mk2 (HM.out.dr.below hb6);clear u0 u1 u2 u3;replace H7:=Hid.mk2 (H7.out.drew.below hb6 H7.out.lt);replace H8:=Hid.mk2 (H8.out.drew.below hb6 H8.out.lt);have u0:=H7.out.cell 0;have u1:=H7.out.cell 1;have u2:=H8.out.cell 0;have u3:=H8.out.cell 1;simp only[List.getElem?_toArray,List.getElem?_cons_zero,List.getElem?_cons_succ] at u0 u1 u2 u3;clear hb6)
  | (go_at_call 155;refine (factOfTwo_any op HTW.out f1 f2 HI1.out HI2.out _).mono ?_;rintro e w7 ⟨rfl,hb7⟩;unfold factA;replace HM:=Hid.mk2 (HM.out.below hb7);have r0:=HM.out.rs.cell 0;have r1:=HM.out.rs.cell 1;have fr0:=HM.out.rs.free 0;have fr1:=HM.out.rs.free 1;clear hb7))
 all_goals
  go_wp2
  have hfb:=(HM.out.rs.set 0 (.bool (twoF op f1 f2).isSome)).set 1 (.int .i64 ((twoF op f1 f2).getD 0))
  have g0:=hfb.cell 0
  have g1:=hfb.cell 1
  refine bodyPost_ret (v:=.agg #[.bool (twoF op f1 f2).isSome,.int .i64 ((twoF op f1 f2).getD 0)]) (by simp[results,Tryz.results125,go_sem,g0,g1]) rfl ⟨rfl,sets2 HM.out.bl (by omega) _ _⟩
end Go.Proofs.YtldfkcpbjooemaaGreatDoor
namespace Go.Proofs.YtldfkcpbjooemaaGreatDoor
open Go.RowKit Go.Deep
set_option maxHeartbeats 4000000 in
set_option maxRecDepth 100000 in
theorem factOf_name (n:PNode) (hn:NodeOk n) (h1:n.ops=0) (hc:isChK (kindP n.tok.text)=false) (hk:kindP n.tok.text=2) (lv fv:Value) (ls:List PLet) (gs:List Fact) (w:World) (hl:Reads w lv ls.length (cellsLt ls)) (hlb:ls.length≤401) (hx:∀ p∈ls,1≤p.val.behind∧p.val.behind≤401) (hf:Reads w fv gs.length (cellsF gs)) (hgb:gs.length≤401) (hgi:∀ i,FactIn (atF gs i)) :
  Calls Tryz.prog 125 #[nodA n,lv,fv] w fun e w'=>e=.returned (factA (factN ls gs n))∧Below w.heap.size w w':=by
 have HM:=Hid.mk2 (FoSt.start (n:=n) hl hf)
 have hnl:=hn.left
 have hnr:=hn.right
 have HE:Hid (factN ls gs n=atF gs (meantI ls n.tok.text)):=by rw[Hid,factN,if_neg (by omega),hc,if_neg (by simp),if_neg (by omega),if_pos hk]
 rw[HE.out]
 have e1:((n.ops:Int)==1)=false:=by simp;omega
 have e2:((n.ops:Int)==2)=false:=by simp;omega
 have e3:((kindP n.tok.text:Int)==2)=true:=by simp;omega
 have hmi:-2≤meantI ls n.tok.text∧meantI ls n.tok.text≤1000:=by
  unfold meantI
  split
  ·omega
  ·rename_i p hp
   have:=hx p (List.mem_of_getElem? hp)
   omega
 have HMI:=Hid.mk2 hmi
 obtain ⟨f3,hf3⟩:∃ f,atF gs (meantI ls n.tok.text)=f:=⟨_,rfl⟩
 rw[hf3]
 have HF3:=Hid.mk2 hf3
 have HLB:=Hid.mk2 hlb
 have HBT:Hid ((bsOf n.tok.text).toList=n.tok.text):=bsOf_toList _
 have HGI:=Hid.mk2 hgi
 have HXS:=Hid.mk2 hx
 have hfi1:=hgi n.left
 have hfi2:=hgi n.right
 obtain ⟨f1,hf1⟩:∃ f,atF gs n.left=f:=⟨_,rfl⟩
 obtain ⟨f2,hf2⟩:∃ f,atF gs n.right=f:=⟨_,rfl⟩
 rw[hf1] at hfi1
 rw[hf2] at hfi2
 have HI1:=Hid.mk2 hfi1
 have HI2:=Hid.mk2 hfi2
 have HF1:=Hid.mk2 hf1
 have HF2:=Hid.mk2 hf2
 have HCH:=Hid.mk2 hc
 clear hl hf hn hgi h1 hf1 hf2 hfi1 hfi2 HE hx hc hk hmi hf3
 obtain ⟨mi,hmi⟩:∃ mi,meantI ls n.tok.text=mi:=⟨_,rfl⟩
 rw[hmi] at HMI HF3
 have HME:=Hid.mk2 hmi
 clear hmi
 unfold nodA
 go_enter Tryz.func125,Tryz.ntmps125
 go_upto_region 5 with (first
  | (go_at_call_of 150 (Value.int IntKind.i64 (n.left:Int));refine (factAt_any gs _ (n.left:Int) _ HM.out.f hgb ⟨by omega,by omega⟩).mono ?_;rintro e w1 ⟨rfl,hb1⟩;rw[HF1.out];unfold factA;replace HM:=Hid.mk2 (HM.out.below hb1);clear hb1;have n0:=HM.out.nd.cell 0;have n1:=HM.out.nd.cell 1;have n2:=HM.out.nd.cell 2;have n3:=HM.out.nd.cell 3;have n4:=HM.out.nd.cell 4;have n5:=HM.out.nd.cell 5;have r0:=HM.out.rs.cell 0;have r1:=HM.out.rs.cell 1;have fr0:=HM.out.rs.free 0;have fr1:=HM.out.rs.free 1;have hlw:=HM.out.bl.size;have hlr:=HM.out.rs.lt;have hln:=HM.out.nd.lt;simp only[nodC,List.getElem?_toArray,List.getElem?_cons_zero,List.getElem?_cons_succ] at n0 n1 n2 n3 n4 n5 r0 r1)
  | (go_at_call_of 150 (Value.int IntKind.i64 (n.right:Int));refine (factAt_any gs _ (n.right:Int) _ (HM.out.al _).f hgb ⟨by omega,by omega⟩).mono ?_;rintro e w2 ⟨rfl,hb2⟩;rw[HF2.out];unfold factA;clear n0 n1 n2 n3 n4 n5 r0 r1 fr0 fr1 hlw hlr hln;have H7:=Hid.mk2 ((Blk.new w1 #[.bool f1.isSome,.int .i64 (f1.getD 0)] 172).below hb2 (Blk.new w1 #[.bool f1.isSome,.int .i64 (f1.getD 0)] 172).lt);replace HM:=Hid.mk2 ((HM.out.al _).below hb2);clear hb2;have n0:=HM.out.nd.cell 0;have n1:=HM.out.nd.cell 1;have n2:=HM.out.nd.cell 2;have n3:=HM.out.nd.cell 3;have n4:=HM.out.nd.cell 4;have n5:=HM.out.nd.cell 5;have r0:=HM.out.rs.cell 0;have r1:=HM.out.rs.cell 1;have fr0:=HM.out.rs.free 0;have fr1:=HM.out.rs.free 1;have hlw:=HM.out.bl.size;have hlr:=HM.out.rs.lt;have hln:=HM.out.nd.lt;simp only[nodC,List.getElem?_toArray,List.getElem?_cons_zero,List.getElem?_cons_succ] at n0 n1 n2 n3 n4 n5 r0 r1;have t70:=H7.out.cell 0;have t71:=H7.out.cell 1;simp only[List.getElem?_toArray,List.getElem?_cons_zero,List.getElem?_cons_succ] at t70 t71;have hl7:=H7.out.lt))
 have H8:=Hid.mk2 (Blk.new w2 #[.bool f2.isSome,.int .i64 (f2.getD 0)] 172)
 replace H7:=Hid.mk2 (H7.out.alloc (.cells #[.bool f2.isSome,.int .i64 (f2.getD 0)] 172))
 replace HM:=Hid.mk2 (HM.out.al (.cells #[.bool f2.isSome,.int .i64 (f2.getD 0)] 172))
 clear n0 n1 n2 n3 n4 n5 r0 r1 fr0 fr1 hlw hlr hln t70 t71 hl7
 generalize w2.alloc (.cells #[.bool f2.isSome,.int .i64 (f2.getD 0)] 172)=w3 at *
 have h7n:=H7.out.lt
 have h8n:=H8.out.lt
 have n0:=HM.out.nd.cell 0;have n1:=HM.out.nd.cell 1;have n2:=HM.out.nd.cell 2;have n3:=HM.out.nd.cell 3;have n4:=HM.out.nd.cell 4;have n5:=HM.out.nd.cell 5;have r0:=HM.out.rs.cell 0;have r1:=HM.out.rs.cell 1;have fr0:=HM.out.rs.free 0;have fr1:=HM.out.rs.free 1;have hlw:=HM.out.bl.size;have hlr:=HM.out.rs.lt;have hln:=HM.out.nd.lt
 have t70:=H7.out.cell 0;have t71:=H7.out.cell 1;have t80:=H8.out.cell 0;have t81:=H8.out.cell 1
 simp only[nodC,List.getElem?_toArray,List.getElem?_cons_zero,List.getElem?_cons_succ] at n0 n1 n2 n3 n4 n5 r0 r1 t70 t71 t80 t81
 go_wp2_with (first
  | (go_at_call 153;refine (isChoice_any n _).mono ?_;rintro e w4 ⟨rfl,hb4⟩;rw[HCH.out];replace HM:=Hid.mk2 (HM.out.below hb4);have m0:=HM.out.nd.cell 0;have m1:=HM.out.nd.cell 1;have m2:=HM.out.nd.cell 2;have m3:=HM.out.nd.cell 3;have m4:=HM.out.nd.cell 4;have m5:=HM.out.nd.cell 5;have r0:=HM.out.rs.cell 0;have r1:=HM.out.rs.cell 1;have fr0:=HM.out.rs.free 0;have fr1:=HM.out.rs.free 1;have hlw:=HM.out.bl.size;have hlr:=HM.out.rs.lt;have hln:=HM.out.nd.lt;simp only[nodC,List.getElem?_toArray,List.getElem?_cons_zero,List.getElem?_cons_succ] at m0 m1 m2 m3 m4 m5;clear hb4)
  | (go_at_call 156;refine (meantBy_any ls _ (bsOf n.tok.text) _ (by first | with_reducible exact HM.out.l | with_reducible exact HM.out.dr.l) HLB.out HXS.out).mono ?_;rintro e w6 ⟨rfl,hb6⟩;rw[HBT.out,HME.out];replace HM:=Hid.mk2 (by first | with_reducible exact HM.out.below hb6 | with_reducible exact HM.out.dr.below hb6);clear hb6)
  | (go_at_call 150;refine (factAt_any gs _ mi _ HM.out.f hgb HMI.out).mono ?_;rintro e w7 ⟨rfl,hb7⟩;rw[HF3.out];unfold factA;replace HM:=Hid.mk2 (HM.out.below hb7);have r0:=HM.out.rs.cell 0;have r1:=HM.out.rs.cell 1;have fr0:=HM.out.rs.free 0;have fr1:=HM.out.rs.free 1;clear hb7))
 all_goals
  have hfb:=(HM.out.rs.set 0 (.bool f3.isSome)).set 1 (.int .i64 (f3.getD 0))
  have g0:=hfb.cell 0
  have g1:=hfb.cell 1
  refine bodyPost_ret (v:=.agg #[.bool f3.isSome,.int .i64 (f3.getD 0)]) (by simp[results,Tryz.results125,go_sem,g0,g1]) rfl ⟨rfl,sets2 HM.out.bl (by omega) _ _⟩
set_option maxHeartbeats 4000000 in
set_option maxRecDepth 100000 in
theorem factOf_single (n:PNode) (hn:NodeOk n) (h1:n.ops=0) (hc:isChK (kindP n.tok.text)=false) (hk:kindP n.tok.text≠2) (lv fv:Value) (ls:List PLet) (gs:List Fact) (w:World) (hl:Reads w lv ls.length (cellsLt ls)) (hlb:ls.length≤401) (hx:∀ p∈ls,1≤p.val.behind∧p.val.behind≤401) (hf:Reads w fv gs.length (cellsF gs)) (hgb:gs.length≤401) (hgi:∀ i,FactIn (atF gs i)) :
  Calls Tryz.prog 125 #[nodA n,lv,fv] w fun e w'=>e=.returned (factA (factN ls gs n))∧Below w.heap.size w w':=by
 have HM:=Hid.mk2 (FoSt.start (n:=n) hl hf)
 have hnl:=hn.left
 have hnr:=hn.right
 have HE:Hid (factN ls gs n=singleF n.tok):=by rw[Hid,factN,if_neg (by omega),hc,if_neg (by simp),if_neg (by omega),if_neg hk]
 rw[HE.out]
 have e1:((n.ops:Int)==1)=false:=by simp;omega
 have e2:((n.ops:Int)==2)=false:=by simp;omega
 have e3:((kindP n.tok.text:Int)==2)=false:=by simp;omega
 have HNU:=Hid.mk2 hn.num
 have HGI:=Hid.mk2 hgi
 have HXS:=Hid.mk2 hx
 have hfi1:=hgi n.left
 have hfi2:=hgi n.right
 obtain ⟨f1,hf1⟩:∃ f,atF gs n.left=f:=⟨_,rfl⟩
 obtain ⟨f2,hf2⟩:∃ f,atF gs n.right=f:=⟨_,rfl⟩
 rw[hf1] at hfi1
 rw[hf2] at hfi2
 have HI1:=Hid.mk2 hfi1
 have HI2:=Hid.mk2 hfi2
 have HF1:=Hid.mk2 hf1
 have HF2:=Hid.mk2 hf2
 have HCH:=Hid.mk2 hc
 clear hl hf hn hgi h1 hf1 hf2 hfi1 hfi2 HE hx hc hk
 unfold nodA
 go_enter Tryz.func125,Tryz.ntmps125
 go_upto_region 5 with (first
  | (go_at_call_of 150 (Value.int IntKind.i64 (n.left:Int));refine (factAt_any gs _ (n.left:Int) _ HM.out.f hgb ⟨by omega,by omega⟩).mono ?_;rintro e w1 ⟨rfl,hb1⟩;rw[HF1.out];unfold factA;replace HM:=Hid.mk2 (HM.out.below hb1);clear hb1;have n0:=HM.out.nd.cell 0;have n1:=HM.out.nd.cell 1;have n2:=HM.out.nd.cell 2;have n3:=HM.out.nd.cell 3;have n4:=HM.out.nd.cell 4;have n5:=HM.out.nd.cell 5;have r0:=HM.out.rs.cell 0;have r1:=HM.out.rs.cell 1;have fr0:=HM.out.rs.free 0;have fr1:=HM.out.rs.free 1;have hlw:=HM.out.bl.size;have hlr:=HM.out.rs.lt;have hln:=HM.out.nd.lt;simp only[nodC,List.getElem?_toArray,List.getElem?_cons_zero,List.getElem?_cons_succ] at n0 n1 n2 n3 n4 n5 r0 r1)
  | (go_at_call_of 150 (Value.int IntKind.i64 (n.right:Int));refine (factAt_any gs _ (n.right:Int) _ (HM.out.al _).f hgb ⟨by omega,by omega⟩).mono ?_;rintro e w2 ⟨rfl,hb2⟩;rw[HF2.out];unfold factA;clear n0 n1 n2 n3 n4 n5 r0 r1 fr0 fr1 hlw hlr hln;have H7:=Hid.mk2 ((Blk.new w1 #[.bool f1.isSome,.int .i64 (f1.getD 0)] 172).below hb2 (Blk.new w1 #[.bool f1.isSome,.int .i64 (f1.getD 0)] 172).lt);replace HM:=Hid.mk2 ((HM.out.al _).below hb2);clear hb2;have n0:=HM.out.nd.cell 0;have n1:=HM.out.nd.cell 1;have n2:=HM.out.nd.cell 2;have n3:=HM.out.nd.cell 3;have n4:=HM.out.nd.cell 4;have n5:=HM.out.nd.cell 5;have r0:=HM.out.rs.cell 0;have r1:=HM.out.rs.cell 1;have fr0:=HM.out.rs.free 0;have fr1:=HM.out.rs.free 1;have hlw:=HM.out.bl.size;have hlr:=HM.out.rs.lt;have hln:=HM.out.nd.lt;simp only[nodC,List.getElem?_toArray,List.getElem?_cons_zero,List.getElem?_cons_succ] at n0 n1 n2 n3 n4 n5 r0 r1;have t70:=H7.out.cell 0;have t71:=H7.out.cell 1;simp only[List.getElem?_toArray,List.getElem?_cons_zero,List.getElem?_cons_succ] at t70 t71;have hl7:=H7.out.lt))
 have H8:=Hid.mk2 (Blk.new w2 #[.bool f2.isSome,.int .i64 (f2.getD 0)] 172)
 replace H7:=Hid.mk2 (H7.out.alloc (.cells #[.bool f2.isSome,.int .i64 (f2.getD 0)] 172))
 replace HM:=Hid.mk2 (HM.out.al (.cells #[.bool f2.isSome,.int .i64 (f2.getD 0)] 172))
 clear n0 n1 n2 n3 n4 n5 r0 r1 fr0 fr1 hlw hlr hln t70 t71 hl7
 generalize w2.alloc (.cells #[.bool f2.isSome,.int .i64 (f2.getD 0)] 172)=w3 at *
 have h7n:=H7.out.lt
 have h8n:=H8.out.lt
 have n0:=HM.out.nd.cell 0;have n1:=HM.out.nd.cell 1;have n2:=HM.out.nd.cell 2;have n3:=HM.out.nd.cell 3;have n4:=HM.out.nd.cell 4;have n5:=HM.out.nd.cell 5;have r0:=HM.out.rs.cell 0;have r1:=HM.out.rs.cell 1;have fr0:=HM.out.rs.free 0;have fr1:=HM.out.rs.free 1;have hlw:=HM.out.bl.size;have hlr:=HM.out.rs.lt;have hln:=HM.out.nd.lt
 have t70:=H7.out.cell 0;have t71:=H7.out.cell 1;have t80:=H8.out.cell 0;have t81:=H8.out.cell 1
 simp only[nodC,List.getElem?_toArray,List.getElem?_cons_zero,List.getElem?_cons_succ] at n0 n1 n2 n3 n4 n5 r0 r1 t70 t71 t80 t81
 go_wp2_with (first
  | (go_at_call 153;refine (isChoice_any n _).mono ?_;rintro e w4 ⟨rfl,hb4⟩;rw[HCH.out];replace HM:=Hid.mk2 (HM.out.below hb4);have m0:=HM.out.nd.cell 0;have m1:=HM.out.nd.cell 1;have m2:=HM.out.nd.cell 2;have m3:=HM.out.nd.cell 3;have m4:=HM.out.nd.cell 4;have m5:=HM.out.nd.cell 5;have r0:=HM.out.rs.cell 0;have r1:=HM.out.rs.cell 1;have fr0:=HM.out.rs.free 0;have fr1:=HM.out.rs.free 1;have hlw:=HM.out.bl.size;have hlr:=HM.out.rs.lt;have hln:=HM.out.nd.lt;simp only[nodC,List.getElem?_toArray,List.getElem?_cons_zero,List.getElem?_cons_succ] at m0 m1 m2 m3 m4 m5;clear hb4)
  | (go_at_call 157;refine (factOfSingle_any n.tok HNU.out _).mono ?_;rintro e w6 ⟨rfl,hb6⟩;unfold factA;replace HM:=Hid.mk2 (HM.out.below hb6);have r0:=HM.out.rs.cell 0;have r1:=HM.out.rs.cell 1;have fr0:=HM.out.rs.free 0;have fr1:=HM.out.rs.free 1;clear hb6))
 all_goals
  have hfb:=(HM.out.rs.set 0 (.bool (singleF n.tok).isSome)).set 1 (.int .i64 ((singleF n.tok).getD 0))
  have g0:=hfb.cell 0
  have g1:=hfb.cell 1
  refine bodyPost_ret (v:=.agg #[.bool (singleF n.tok).isSome,.int .i64 ((singleF n.tok).getD 0)]) (by simp[results,Tryz.results125,go_sem,g0,g1]) rfl ⟨rfl,sets2 HM.out.bl (by omega) _ _⟩
end Go.Proofs.YtldfkcpbjooemaaGreatDoor
namespace Go.Proofs.YtldfkcpbjooemaaGreatDoor
open Go.RowKit Go.Deep
theorem factOf_any (n:PNode) (hn:NodeOk n) (lv fv:Value) (ls:List PLet) (gs:List Fact) (w:World) (hl:Reads w lv ls.length (cellsLt ls)) (hlb:ls.length≤401) (hx:∀ p∈ls,1≤p.val.behind∧p.val.behind≤401) (hf:Reads w fv gs.length (cellsF gs)) (hgb:gs.length≤401) (hgi:∀ i,FactIn (atF gs i)) :
  Calls Tryz.prog 125 #[nodA n,lv,fv] w fun e w'=>e=.returned (factA (factN ls gs n))∧Below w.heap.size w w':=by
 by_cases h1:n.ops=1
 ·exact factOf_one n hn h1 lv fv ls gs w hl hf hgb hgi
 ·cases hc:isChK (kindP n.tok.text)
  ·by_cases h2:n.ops=2
   ·exact factOf_two n hn h2 hc lv fv ls gs w hl hlb hx hf hgb hgi
   ·have h0:n.ops=0:=by have:=hn.ops;omega
    by_cases hk:kindP n.tok.text=2
    ·exact factOf_name n hn h0 hc hk lv fv ls gs w hl hlb hx hf hgb hgi
    ·exact factOf_single n hn h0 hc hk lv fv ls gs w hl hlb hx hf hgb hgi
  ·exact factOf_choice n hn h1 hc lv fv ls gs w hl hlb hx hf hgb hgi
def padF (gs:List Fact) (n:Nat):List Fact:=gs++List.replicate (n - gs.length) none
theorem padF_len (gs:List Fact) (n:Nat) (h:gs.length≤n):(padF gs n).length=n:=by simp[padF];omega
theorem padF_full (gs:List Fact):padF gs gs.length=gs:=by simp[padF]
theorem padF_get (gs:List Fact) (n i:Nat):(padF gs n).getD i none=gs.getD i none:=by
 unfold padF
 simp only[List.getD_eq_getElem?_getD]
 by_cases h:i < gs.length
 ·rw[List.getElem?_append_left h]
 ·rw[List.getElem?_append_right (by omega),List.getElem?_eq_none (l:=gs) (by omega),List.getElem?_replicate]
  split <;> rfl
theorem atF_pad (gs:List Fact) (n:Nat) (i:Int):atF (padF gs n) i=atF gs i:=by
 unfold atF
 split
 ·rfl
 ·exact padF_get gs n _
theorem factN_pad (ls:List PLet) (gs:List Fact) (n:Nat) (nd:PNode):factN ls (padF gs n) nd=factN ls gs nd:=by
 unfold factN
 simp only[atF_pad]
theorem cellsF_length (l:List Fact):(cellsF l).length=l.length * 2:=by
 induction l with
 | nil=>rfl
 | cons f r ih=>rw[cellsF,List.flatMap_cons,List.length_append,cellF_length];rw[cellsF] at ih;rw[ih];simp;omega
theorem cellsF_append (a b:List Fact):cellsF (a++b)=cellsF a++cellsF b:=by simp[cellsF,List.flatMap_append]
theorem padF_set (gs:List Fact) (n:Nat) (f:Fact) (h:gs.length < n) :
  ((cellsF (padF gs n)).toArray.setIfInBounds (gs.length * 2) (.bool f.isSome)).setIfInBounds (gs.length * 2+1) (.int .i64 (f.getD 0))=(cellsF (padF (gs++[f]) n)).toArray:=by
 have e1:padF gs n=gs++([none]++List.replicate (n - (gs.length+1)) none):=by
  unfold padF
  rw[show n - gs.length=(n - (gs.length+1))+1 by omega,List.replicate_succ]
  rfl
 have e2:padF (gs++[f]) n=gs++([f]++List.replicate (n - (gs.length+1)) none):=by
  unfold padF
  simp
 rw[e1,e2,List.setIfInBounds_toArray,List.setIfInBounds_toArray,cellsF_append,cellsF_append,cellsF_append,cellsF_append]
 congr 1
 have hl:=cellsF_length gs
 rw[List.set_append_right _ _ (by omega),List.set_append_right _ _ (by omega),hl,Nat.sub_self,show gs.length * 2+1 - gs.length * 2=1 by omega]
 rfl
theorem made_facts (n:Nat):madeCells (Value.agg #[.bool false,.int .i64 0]).cells (n * 2)=(cellsF (padF [] n)).toArray:=by
 have h:cellsF (padF [] n)=cellsF (List.replicate n none):=by simp[padF]
 rw[h]
 have hl:(cellsF (List.replicate n (none:Fact))).length=n * 2:=by rw[cellsF_length];simp
 have hg:∀ i,i < n * 2→(cellsF (List.replicate n (none:Fact)))[i]?=some (if i % 2=0 then Value.bool false else .int .i64 0):=by
  intro i hi
  have hm:i=i / 2 * 2+i % 2:=by omega
  have hd:i / 2 < (List.replicate n (none:Fact)).length:=by simp;omega
  have:=flat_get cellF 2 (fun _=>rfl) (List.replicate n (none:Fact)) (i / 2) hd (i % 2) (by omega)
  rw[← hm] at this
  rw[cellsF,this]
  have hc:(List.replicate n (none:Fact))[i / 2]=none:=by simp
  rw[hc]
  obtain h0 | h0:i % 2=0∨i % 2=1:=by omega
  ·rw[h0];rfl
  ·rw[h0];rfl
 apply Array.ext
 ·simp[madeCells,hl]
 ·intro i h1 h2
  have hi:i < n * 2:=by simpa[hl] using h2
  have:=hg i hi
  have ht:(cellsF (List.replicate n (none:Fact))).toArray[i]'h2=(cellsF (List.replicate n (none:Fact)))[i]'(by omega):=rfl
  rw[ht]
  have h3:=List.getElem?_eq_getElem (l:=cellsF (List.replicate n (none:Fact))) (i:=i) (by omega)
  rw[h3] at this
  rw[Option.some.inj this]
  have e:(Value.agg #[.bool false,.int .i64 0]).cells=#[Value.bool false,.int .i64 0]:=by kernel_rfl
  simp only[madeCells,e,Array.getElem_map,Array.getElem_range]
  obtain h0 | h0:i % 2=0∨i % 2=1:=by omega
  ·simp[h0]
  ·simp[h0]
theorem factN_in {ls:List PLet} {gs:List Fact} {n:PNode} (hn:NumOk n.tok) (h:∀ i,FactIn (atF gs i)):FactIn (factN ls gs n):=by
 unfold factN
 split
 ·exact oneF_in
 ·split
  ·exact choiceF_in (h _) (h _)
  ·split
   ·exact twoF_in (h _) (h _)
   ·split
    ·exact h _
    ·exact singleF_in hn
theorem atF_snoc_in {gs:List Fact} {f:Fact} (h:∀ i,FactIn (atF gs i)) (hf:FactIn f):∀ i,FactIn (atF (gs++[f]) i):=by
 intro i
 unfold atF
 split
 ·exact FactIn.none
 ·rename_i hi
  rw[List.getD_eq_getElem?_getD]
  by_cases h1:i.toNat < gs.length
  ·rw[List.getElem?_append_left h1]
   have:=h i
   unfold atF at this
   rw[if_neg hi,List.getD_eq_getElem?_getD] at this
   exact this
  ·rw[List.getElem?_append_right (by omega)]
   by_cases h2:i.toNat - gs.length=0
   ·rw[h2];exact hf
   ·rw[List.getElem?_eq_none (by simp;omega)];exact FactIn.none
theorem factsG_take (ls:List PLet) (N:List PNode) (i:Nat) (hi:i < N.length):factsP ls (N.take (i+1))=factsP ls (N.take i)++[factN ls (factsP ls (N.take i)) N[i]]:=by
 rw[List.take_succ_eq_append_getElem hi]
 unfold factsP
 rw[factsG_append]
 rfl
theorem factsP_length (ls:List PLet) (N:List PNode):(factsP ls N).length=N.length:=by rw[factsP,factsG_length];simp
end Go.Proofs.YtldfkcpbjooemaaGreatDoor
