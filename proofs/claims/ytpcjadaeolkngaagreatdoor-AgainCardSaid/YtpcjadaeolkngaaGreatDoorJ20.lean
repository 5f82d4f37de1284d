/-
  Compile: the fact of a node: names, and single tokens.
-/
import Derived.Test.YtpcjadaeolkngaaGreatDoorJ19
import Derived.Laws.Bits64
import Derived.Laws.BitsLemmas
import Derived.Laws.OwnMore
set_option linter.unusedVariables false
set_option linter.unusedSimpArgs false
namespace Go.Proofs.YtpcjadaeolkngaaGreatDoor
open Go.RowKit Go.Deep
set_option maxHeartbeats 4000000 in
set_option maxRecDepth 100000 in
theorem factOf_name(n:PNode)(hn:NodeOk n)(h1:n.ops=0)(hc:isChK (kindP n.tok.text)=false)(hk:kindP n.tok.text=2)(lv fv:Value)(ls:List PLet)(gs:List Fact)(w:World)(hl:Reads w lv ls.length (cellsLt ls))(hlb:ls.length≤401)(hx:∀ p∈ls,1≤p.val.behind∧p.val.behind≤401)(hf:Reads w fv gs.length (cellsF gs))(hgb:gs.length≤401)(hgi:∀ i,FactIn (atF gs i)) :
  Calls Tryz.prog 74 #[nodA n,lv,fv] w fun e w'=>e=.returned (factA (factN ls gs n))∧Below w.heap.size w w':=by
 have HM:=mH (FoSt.start (n:=n) hl hf)
 have hnl:=hn.left
 have hnr:=hn.right
 have HE:Hid (factN ls gs n=atF gs (meantI ls n.tok.text)):=by rw[Hid,factN,if_neg (by omega),hc,if_neg (by simp),if_neg (by omega),if_pos hk]
 rw[HE.out]
 have e1:((n.ops:Int)==1)=false:=by simp;omega
 have e2:((n.ops:Int)==2)=false:=by simp;omega
 have e3:((kindP n.tok.text:Int)==2)=true:=by simp;omega
 have hmi:-2≤meantI ls n.tok.text∧meantI ls n.tok.text≤1000:=by
  unfold meantI
  split
  ·omega
  ·rename_i p hp
   have:=hx p (List.mem_of_getElem? hp)
   omega
 have HMI:=mH hmi
 obtain ⟨f3,hf3⟩:∃ f,atF gs (meantI ls n.tok.text)=f:=⟨_,rfl⟩
 rw[hf3]
 have HF3:=mH hf3
 have HLB:=mH hlb
 have HBT:Hid ((bsOf n.tok.text).toList=n.tok.text):=bsOf_toList _
 have HGI:=mH hgi
 have HXS:=mH hx
 have hfi1:=hgi n.left
 have hfi2:=hgi n.right
 obtain ⟨f1,hf1⟩:∃ f,atF gs n.left=f:=⟨_,rfl⟩
 obtain ⟨f2,hf2⟩:∃ f,atF gs n.right=f:=⟨_,rfl⟩
 rw[hf1]at hfi1
 rw[hf2]at hfi2
 have HI1:=mH hfi1
 have HI2:=mH hfi2
 have HF1:=mH hf1
 have HF2:=mH hf2
 have HCH:=mH hc
 clear hl hf hn hgi h1 hf1 hf2 hfi1 hfi2 HE hx hc hk hmi hf3
 obtain ⟨mi,hmi⟩:∃ mi,meantI ls n.tok.text=mi:=⟨_,rfl⟩
 rw[hmi]at HMI HF3
 have HME:=mH hmi
 clear hmi
 unfold nodA
 go_enter Tryz.func74,Tryz.ntmps74
 go_upto_region 5 with (first
  | (go_at_call_of 110 (Value.int IntKind.i64 (n.left:Int));refine (factAt_any gs _ (n.left:Int) _ HM.out.f hgb ⟨by omega,by omega⟩).mono ?_;rintro e w1 ⟨rfl,hb1⟩;rw[HF1.out];unfold factA;replace HM:=mH (HM.out.below hb1);clear hb1;have n0:=HM.out.nd.cell 0;have n1:=HM.out.nd.cell 1;have n2:=HM.out.nd.cell 2;have n3:=HM.out.nd.cell 3;have n4:=HM.out.nd.cell 4;have n5:=HM.out.nd.cell 5;have r0:=HM.out.rs.cell 0;have r1:=HM.out.rs.cell 1;have fr0:=HM.out.rs.free 0;have fr1:=HM.out.rs.free 1;have hlw:=HM.out.bl.size;have hlr:=HM.out.rs.lt;have hln:=HM.out.nd.lt;simp only[nodC,List.getElem?_toArray,List.getElem?_cons_zero,List.getElem?_cons_succ]at n0 n1 n2 n3 n4 n5 r0 r1)
  | (go_at_call_of 110 (Value.int IntKind.i64 (n.right:Int));refine (factAt_any gs _ (n.right:Int) _ (HM.out.al _).f hgb ⟨by omega,by omega⟩).mono ?_;rintro e w2 ⟨rfl,hb2⟩;rw[HF2.out];unfold factA;clear n0 n1 n2 n3 n4 n5 r0 r1 fr0 fr1 hlw hlr hln;have H7:=mH ((Blk.new w1 #[.bool f1.isSome,.int .i64 (f1.getD 0)] 151).below hb2 (Blk.new w1 #[.bool f1.isSome,.int .i64 (f1.getD 0)] 151).lt);replace HM:=mH ((HM.out.al _).below hb2);clear hb2;have n0:=HM.out.nd.cell 0;have n1:=HM.out.nd.cell 1;have n2:=HM.out.nd.cell 2;have n3:=HM.out.nd.cell 3;have n4:=HM.out.nd.cell 4;have n5:=HM.out.nd.cell 5;have r0:=HM.out.rs.cell 0;have r1:=HM.out.rs.cell 1;have fr0:=HM.out.rs.free 0;have fr1:=HM.out.rs.free 1;have hlw:=HM.out.bl.size;have hlr:=HM.out.rs.lt;have hln:=HM.out.nd.lt;simp only[nodC,List.getElem?_toArray,List.getElem?_cons_zero,List.getElem?_cons_succ]at n0 n1 n2 n3 n4 n5 r0 r1;have t70:=H7.out.cell 0;have t71:=H7.out.cell 1;simp only[List.getElem?_toArray,List.getElem?_cons_zero,List.getElem?_cons_succ]at t70 t71;have hl7:=H7.out.lt))
 have H8:=mH (Blk.new w2 #[.bool f2.isSome,.int .i64 (f2.getD 0)] 151)
 replace H7:=mH (H7.out.alloc (.cells #[.bool f2.isSome,.int .i64 (f2.getD 0)] 151))
 replace HM:=mH (HM.out.al (.cells #[.bool f2.isSome,.int .i64 (f2.getD 0)] 151))
 clear n0 n1 n2 n3 n4 n5 r0 r1 fr0 fr1 hlw hlr hln t70 t71 hl7
 generalize w2.alloc (.cells #[.bool f2.isSome,.int .i64 (f2.getD 0)] 151)=w3 at *
 have h7n:=H7.out.lt
 have h8n:=H8.out.lt
 have n0:=HM.out.nd.cell 0;have n1:=HM.out.nd.cell 1;have n2:=HM.out.nd.cell 2;have n3:=HM.out.nd.cell 3;have n4:=HM.out.nd.cell 4;have n5:=HM.out.nd.cell 5;have r0:=HM.out.rs.cell 0;have r1:=HM.out.rs.cell 1;have fr0:=HM.out.rs.free 0;have fr1:=HM.out.rs.free 1;have hlw:=HM.out.bl.size;have hlr:=HM.out.rs.lt;have hln:=HM.out.nd.lt
 have t70:=H7.out.cell 0;have t71:=H7.out.cell 1;have t80:=H8.out.cell 0;have t81:=H8.out.cell 1
 simp only[nodC,List.getElem?_toArray,List.getElem?_cons_zero,List.getElem?_cons_succ]at n0 n1 n2 n3 n4 n5 r0 r1 t70 t71 t80 t81
 go_wp2_with (first
  | (go_at_call 113;refine (isChoice_any n _).mono ?_;rintro e w4 ⟨rfl,hb4⟩;rw[HCH.out];replace HM:=mH (HM.out.below hb4);have m0:=HM.out.nd.cell 0;have m1:=HM.out.nd.cell 1;have m2:=HM.out.nd.cell 2;have m3:=HM.out.nd.cell 3;have m4:=HM.out.nd.cell 4;have m5:=HM.out.nd.cell 5;have r0:=HM.out.rs.cell 0;have r1:=HM.out.rs.cell 1;have fr0:=HM.out.rs.free 0;have fr1:=HM.out.rs.free 1;have hlw:=HM.out.bl.size;have hlr:=HM.out.rs.lt;have hln:=HM.out.nd.lt;simp only[nodC,List.getElem?_toArray,List.getElem?_cons_zero,List.getElem?_cons_succ]at m0 m1 m2 m3 m4 m5;clear hb4)
  | (go_at_call 116;refine (meantBy_any ls _ (bsOf n.tok.text) _ (by first | with_reducible exact HM.out.l | with_reducible exact HM.out.dr.l) HLB.out HXS.out).mono ?_;rintro e w6 ⟨rfl,hb6⟩;rw[HBT.out,HME.out];replace HM:=mH (by first | with_reducible exact HM.out.below hb6 | with_reducible exact HM.out.dr.below hb6);clear hb6)
  | (go_at_call 110;refine (factAt_any gs _ mi _ HM.out.f hgb HMI.out).mono ?_;rintro e w7 ⟨rfl,hb7⟩;rw[HF3.out];unfold factA;replace HM:=mH (HM.out.below hb7);have r0:=HM.out.rs.cell 0;have r1:=HM.out.rs.cell 1;have fr0:=HM.out.rs.free 0;have fr1:=HM.out.rs.free 1;clear hb7))
 all_goals
  have hfb:=(HM.out.rs.set 0 (.bool f3.isSome)).set 1 (.int .i64 (f3.getD 0))
  have g0:=hfb.cell 0
  have g1:=hfb.cell 1
  refine bodyPost_ret (v:=.agg #[.bool f3.isSome,.int .i64 (f3.getD 0)]) (by simp[results,Tryz.results74,go_sem,g0,g1]) rfl ⟨rfl,sets2 HM.out.bl (by omega) _ _⟩
set_option maxHeartbeats 4000000 in
set_option maxRecDepth 100000 in
theorem factOf_single(n:PNode)(hn:NodeOk n)(h1:n.ops=0)(hc:isChK (kindP n.tok.text)=false)(hk:kindP n.tok.text≠2)(lv fv:Value)(ls:List PLet)(gs:List Fact)(w:World)(hl:Reads w lv ls.length (cellsLt ls))(hlb:ls.length≤401)(hx:∀ p∈ls,1≤p.val.behind∧p.val.behind≤401)(hf:Reads w fv gs.length (cellsF gs))(hgb:gs.length≤401)(hgi:∀ i,FactIn (atF gs i)) :
  Calls Tryz.prog 74 #[nodA n,lv,fv] w fun e w'=>e=.returned (factA (factN ls gs n))∧Below w.heap.size w w':=by
 have HM:=mH (FoSt.start (n:=n) hl hf)
 have hnl:=hn.left
 have hnr:=hn.right
 have HE:Hid (factN ls gs n=singleF n.tok):=by rw[Hid,factN,if_neg (by omega),hc,if_neg (by simp),if_neg (by omega),if_neg hk]
 rw[HE.out]
 have e1:((n.ops:Int)==1)=false:=by simp;omega
 have e2:((n.ops:Int)==2)=false:=by simp;omega
 have e3:((kindP n.tok.text:Int)==2)=false:=by simp;omega
 have HNU:=mH hn.num
 have HGI:=mH hgi
 have HXS:=mH hx
 have hfi1:=hgi n.left
 have hfi2:=hgi n.right
 obtain ⟨f1,hf1⟩:∃ f,atF gs n.left=f:=⟨_,rfl⟩
 obtain ⟨f2,hf2⟩:∃ f,atF gs n.right=f:=⟨_,rfl⟩
 rw[hf1]at hfi1
 rw[hf2]at hfi2
 have HI1:=mH hfi1
 have HI2:=mH hfi2
 have HF1:=mH hf1
 have HF2:=mH hf2
 have HCH:=mH hc
 clear hl hf hn hgi h1 hf1 hf2 hfi1 hfi2 HE hx hc hk
 unfold nodA
 go_enter Tryz.func74,Tryz.ntmps74
 go_upto_region 5 with (first
  | (go_at_call_of 110 (Value.int IntKind.i64 (n.left:Int));refine (factAt_any gs _ (n.left:Int) _ HM.out.f hgb ⟨by omega,by omega⟩).mono ?_;rintro e w1 ⟨rfl,hb1⟩;rw[HF1.out];unfold factA;replace HM:=mH (HM.out.below hb1);clear hb1;have n0:=HM.out.nd.cell 0;have n1:=HM.out.nd.cell 1;have n2:=HM.out.nd.cell 2;have n3:=HM.out.nd.cell 3;have n4:=HM.out.nd.cell 4;have n5:=HM.out.nd.cell 5;have r0:=HM.out.rs.cell 0;have r1:=HM.out.rs.cell 1;have fr0:=HM.out.rs.free 0;have fr1:=HM.out.rs.free 1;have hlw:=HM.out.bl.size;have hlr:=HM.out.rs.lt;have hln:=HM.out.nd.lt;simp only[nodC,List.getElem?_toArray,List.getElem?_cons_zero,List.getElem?_cons_succ]at n0 n1 n2 n3 n4 n5 r0 r1)
  | (go_at_call_of 110 (Value.int IntKind.i64 (n.right:Int));refine (factAt_any gs _ (n.right:Int) _ (HM.out.al _).f hgb ⟨by omega,by omega⟩).mono ?_;rintro e w2 ⟨rfl,hb2⟩;rw[HF2.out];unfold factA;clear n0 n1 n2 n3 n4 n5 r0 r1 fr0 fr1 hlw hlr hln;have H7:=mH ((Blk.new w1 #[.bool f1.isSome,.int .i64 (f1.getD 0)] 151).below hb2 (Blk.new w1 #[.bool f1.isSome,.int .i64 (f1.getD 0)] 151).lt);replace HM:=mH ((HM.out.al _).below hb2);clear hb2;have n0:=HM.out.nd.cell 0;have n1:=HM.out.nd.cell 1;have n2:=HM.out.nd.cell 2;have n3:=HM.out.nd.cell 3;have n4:=HM.out.nd.cell 4;have n5:=HM.out.nd.cell 5;have r0:=HM.out.rs.cell 0;have r1:=HM.out.rs.cell 1;have fr0:=HM.out.rs.free 0;have fr1:=HM.out.rs.free 1;have hlw:=HM.out.bl.size;have hlr:=HM.out.rs.lt;have hln:=HM.out.nd.lt;simp only[nodC,List.getElem?_toArray,List.getElem?_cons_zero,List.getElem?_cons_succ]at n0 n1 n2 n3 n4 n5 r0 r1;have t70:=H7.out.cell 0;have t71:=H7.out.cell 1;simp only[List.getElem?_toArray,List.getElem?_cons_zero,List.getElem?_cons_succ]at t70 t71;have hl7:=H7.out.lt))
 have H8:=mH (Blk.new w2 #[.bool f2.isSome,.int .i64 (f2.getD 0)] 151)
 replace H7:=mH (H7.out.alloc (.cells #[.bool f2.isSome,.int .i64 (f2.getD 0)] 151))
 replace HM:=mH (HM.out.al (.cells #[.bool f2.isSome,.int .i64 (f2.getD 0)] 151))
 clear n0 n1 n2 n3 n4 n5 r0 r1 fr0 fr1 hlw hlr hln t70 t71 hl7
 generalize w2.alloc (.cells #[.bool f2.isSome,.int .i64 (f2.getD 0)] 151)=w3 at *
 have h7n:=H7.out.lt
 have h8n:=H8.out.lt
 have n0:=HM.out.nd.cell 0;have n1:=HM.out.nd.cell 1;have n2:=HM.out.nd.cell 2;have n3:=HM.out.nd.cell 3;have n4:=HM.out.nd.cell 4;have n5:=HM.out.nd.cell 5;have r0:=HM.out.rs.cell 0;have r1:=HM.out.rs.cell 1;have fr0:=HM.out.rs.free 0;have fr1:=HM.out.rs.free 1;have hlw:=HM.out.bl.size;have hlr:=HM.out.rs.lt;have hln:=HM.out.nd.lt
 have t70:=H7.out.cell 0;have t71:=H7.out.cell 1;have t80:=H8.out.cell 0;have t81:=H8.out.cell 1
 simp only[nodC,List.getElem?_toArray,List.getElem?_cons_zero,List.getElem?_cons_succ]at n0 n1 n2 n3 n4 n5 r0 r1 t70 t71 t80 t81
 go_wp2_with (first
  | (go_at_call 113;refine (isChoice_any n _).mono ?_;rintro e w4 ⟨rfl,hb4⟩;rw[HCH.out];replace HM:=mH (HM.out.below hb4);have m0:=HM.out.nd.cell 0;have m1:=HM.out.nd.cell 1;have m2:=HM.out.nd.cell 2;have m3:=HM.out.nd.cell 3;have m4:=HM.out.nd.cell 4;have m5:=HM.out.nd.cell 5;have r0:=HM.out.rs.cell 0;have r1:=HM.out.rs.cell 1;have fr0:=HM.out.rs.free 0;have fr1:=HM.out.rs.free 1;have hlw:=HM.out.bl.size;have hlr:=HM.out.rs.lt;have hln:=HM.out.nd.lt;simp only[nodC,List.getElem?_toArray,List.getElem?_cons_zero,List.getElem?_cons_succ]at m0 m1 m2 m3 m4 m5;clear hb4)
  | (go_at_call 117;refine (factOfSingle_any n.tok HNU.out _).mono ?_;rintro e w6 ⟨rfl,hb6⟩;unfold factA;replace HM:=mH (HM.out.below hb6);have r0:=HM.out.rs.cell 0;have r1:=HM.out.rs.cell 1;have fr0:=HM.out.rs.free 0;have fr1:=HM.out.rs.free 1;clear hb6))
 all_goals
  have hfb:=(HM.out.rs.set 0 (.bool (singleF n.tok).isSome)).set 1 (.int .i64 ((singleF n.tok).getD 0))
  have g0:=hfb.cell 0
  have g1:=hfb.cell 1
  refine bodyPost_ret (v:=.agg #[.bool (singleF n.tok).isSome,.int .i64 ((singleF n.tok).getD 0)]) (by simp[results,Tryz.results74,go_sem,g0,g1]) rfl ⟨rfl,sets2 HM.out.bl (by omega) _ _⟩
theorem factOf_any(n:PNode)(hn:NodeOk n)(lv fv:Value)(ls:List PLet)(gs:List Fact)(w:World)(hl:Reads w lv ls.length (cellsLt ls))(hlb:ls.length≤401)(hx:∀ p∈ls,1≤p.val.behind∧p.val.behind≤401)(hf:Reads w fv gs.length (cellsF gs))(hgb:gs.length≤401)(hgi:∀ i,FactIn (atF gs i)) :
  Calls Tryz.prog 74 #[nodA n,lv,fv] w fun e w'=>e=.returned (factA (factN ls gs n))∧Below w.heap.size w w':=by
 by_cases h1:n.ops=1
 ·exact factOf_one n hn h1 lv fv ls gs w hl hf hgb hgi
 ·cases hc:isChK (kindP n.tok.text)
  ·by_cases h2:n.ops=2
   ·exact factOf_two n hn h2 hc lv fv ls gs w hl hlb hx hf hgb hgi
   ·have h0:n.ops=0:=by have:=hn.ops;omega
    by_cases hk:kindP n.tok.text=2
    ·exact factOf_name n hn h0 hc hk lv fv ls gs w hl hlb hx hf hgb hgi
    ·exact factOf_single n hn h0 hc hk lv fv ls gs w hl hlb hx hf hgb hgi
  ·exact factOf_choice n hn h1 hc lv fv ls gs w hl hlb hx hf hgb hgi
def padF(gs:List Fact)(n:Nat):List Fact:=gs++List.replicate (n-gs.length) none
theorem padF_len(gs:List Fact)(n:Nat)(h:gs.length≤n):(padF gs n).length=n:=by simp[padF];omega
theorem padF_full(gs:List Fact):padF gs gs.length=gs:=by simp[padF]
theorem padF_get(gs:List Fact)(n i:Nat):(padF gs n).getD i none=gs.getD i none:=by
 unfold padF
 simp only[List.getD_eq_getElem?_getD]
 by_cases h:i<gs.length
 ·rw[List.getElem?_append_left h]
 ·rw[List.getElem?_append_right (by omega),List.getElem?_eq_none (l:=gs) (by omega),List.getElem?_replicate]
  split <;> rfl
theorem atF_pad(gs:List Fact)(n:Nat)(i:Int):atF (padF gs n) i=atF gs i:=by
 unfold atF
 split
 ·rfl
 ·exact padF_get gs n _
theorem factN_pad(ls:List PLet)(gs:List Fact)(n:Nat)(nd:PNode):factN ls (padF gs n) nd=factN ls gs nd:=by
 unfold factN
 simp only[atF_pad]
theorem cellsF_length(l:List Fact):(cellsF l).length=l.length*2:=by
 induction l with
 | nil=>rfl
 | cons f r ih=>rw[cellsF,List.flatMap_cons,List.length_append,cellF_length];rw[cellsF]at ih;rw[ih];simp;omega
theorem cellsF_append(a b:List Fact):cellsF (a++b)=cellsF a++cellsF b:=by simp[cellsF,List.flatMap_append]
theorem padF_set(gs:List Fact)(n:Nat)(f:Fact)(h:gs.length<n) :
  ((cellsF (padF gs n)).toArray.setIfInBounds (gs.length*2) (.bool f.isSome)).setIfInBounds (gs.length*2+1) (.int .i64 (f.getD 0))=(cellsF (padF (gs++[f]) n)).toArray:=by
 have e1:padF gs n=gs++([none]++List.replicate (n-(gs.length+1)) none):=by
  unfold padF
  rw[show n-gs.length=(n-(gs.length+1))+1 by omega,List.replicate_succ]
  rfl
 have e2:padF (gs++[f]) n=gs++([f]++List.replicate (n-(gs.length+1)) none):=by
  unfold padF
  simp
 rw[e1,e2,List.setIfInBounds_toArray,List.setIfInBounds_toArray,cellsF_append,cellsF_append,cellsF_append,cellsF_append]
 congr 1
 have hl:=cellsF_length gs
 rw[List.set_append_right _ _ (by omega),List.set_append_right _ _ (by omega),hl,Nat.sub_self,show gs.length*2+1-gs.length*2=1 by omega]
 rfl
theorem made_facts(n:Nat):madeCells (Value.agg #[.bool false,.int .i64 0]).cells (n*2)=(cellsF (padF [] n)).toArray:=by
 have h:cellsF (padF [] n)=cellsF (List.replicate n none):=by simp[padF]
 rw[h]
 have hl:(cellsF (List.replicate n (none:Fact))).length=n*2:=by rw[cellsF_length];simp
 have hg:∀ i,i<n*2→(cellsF (List.replicate n (none:Fact)))[i]?=some (if i % 2=0 then Value.bool false else .int .i64 0):=by
  intro i hi
  have hm:i=i / 2*2+i % 2:=by omega
  have hd:i / 2<(List.replicate n (none:Fact)).length:=by simp;omega
  have:=flat_get cellF 2 (fun _=>rfl) (List.replicate n (none:Fact)) (i / 2) hd (i % 2) (by omega)
  rw[← hm]at this
  rw[cellsF,this]
  have hc:(List.replicate n (none:Fact))[i / 2]=none:=by simp
  rw[hc]
  obtain h0 | h0:i % 2=0∨i % 2=1:=by omega
  ·rw[h0];rfl
  ·rw[h0];rfl
 apply Array.ext
 ·simp[madeCells,hl]
 ·intro i h1 h2
  have hi:i<n*2:=by simpa[hl] using h2
  have:=hg i hi
  have ht:(cellsF (List.replicate n (none:Fact))).toArray[i]'h2=(cellsF (List.replicate n (none:Fact)))[i]'(by omega):=rfl
  rw[ht]
  have h3:=List.getElem?_eq_getElem (l:=cellsF (List.replicate n (none:Fact))) (i:=i) (by omega)
  rw[h3]at this
  rw[Option.some.inj this]
  have e:(Value.agg #[.bool false,.int .i64 0]).cells=#[Value.bool false,.int .i64 0]:=by kernel_rfl
  simp only[madeCells,e,Array.getElem_map,Array.getElem_range]
  obtain h0 | h0:i % 2=0∨i % 2=1:=by omega
  ·simp[h0]
  ·simp[h0]
theorem factN_in{ls:List PLet}{gs:List Fact}{n:PNode}(hn:NumOk n.tok)(h:∀ i,FactIn (atF gs i)):FactIn (factN ls gs n):=by
 unfold factN
 split
 ·exact oneF_in
 ·split
  ·exact choiceF_in (h _) (h _)
  ·split
   ·exact twoF_in (h _) (h _)
   ·split
    ·exact h _
    ·exact singleF_in hn
theorem atF_snoc_in{gs:List Fact}{f:Fact}(h:∀ i,FactIn (atF gs i))(hf:FactIn f):∀ i,FactIn (atF (gs++[f]) i):=by
 intro i
 unfold atF
 split
 ·exact FactIn.none
 ·rename_i hi
  rw[List.getD_eq_getElem?_getD]
  by_cases h1:i.toNat<gs.length
  ·rw[List.getElem?_append_left h1]
   have:=h i
   unfold atF at this
   rw[if_neg hi,List.getD_eq_getElem?_getD]at this
   exact this
  ·rw[List.getElem?_append_right (by omega)]
   by_cases h2:i.toNat-gs.length=0
   ·rw[h2];exact hf
   ·rw[List.getElem?_eq_none (by simp;omega)];exact FactIn.none
theorem factsG_take(ls:List PLet)(N:List PNode)(i:Nat)(hi:i<N.length):factsP ls (N.take (i+1))=factsP ls (N.take i)++[factN ls (factsP ls (N.take i)) N[i]]:=by
 rw[List.take_succ_eq_append_getElem hi]
 unfold factsP
 rw[factsG_append]
 rfl
theorem factsP_length(ls:List PLet)(N:List PNode):(factsP ls N).length=N.length:=by rw[factsP,factsG_length];simp
theorem conv_row(w:World)(g o cap:Nat)(l:List Nat)(hc:∀ j u,(l.map fun n:Nat=>Value.int .u8 (n:Int))[j]?=some u→w.cell? ⟨g,o+j,none⟩=some u) :
  (convert 158 9 (.slice (some ⟨g,o,none⟩) l.length cap)).run Tryz.prog w=.ok (.string (bsN l)) w:=by
 rw[run_convert_bytes_string w 158 9 5 _ _ _ Tryz.underlying158 Tryz.underlying5 Tryz.underlying9]
 rw[run_bytesToString w ⟨g,o,none⟩ l.length cap (l.map Int.ofNat) ?_]
 ·rw[bsN_fold]
  simp[bsN]
 ·have h:=run_loadCells_list (P:=Tryz.prog) w ⟨g,o,none⟩ ((l.map Int.ofNat).map (Value.int .u8)) ?_
  ·simpa using h
  ·intro j v hj
   simp at hj
   obtain ⟨c,hc',rfl⟩:=hj
   rw[show (⟨g,o,none⟩:Addr).add j=⟨g,o+j,none⟩ by unfold Addr.add;split <;> simp_all]
   exact hc j _ (by simp[hc'])
theorem u64_low(n:Nat)(hn:n<18446744073709551616):bits .and .u64 (n:Int) 255=((n % 256:Nat):Int):=by
 have h:=bits_mask .u64 64 (by decide) (fun m h0 h1=>by rw[IntKind.wrap_u64];omega) 8 (by decide) (n:Int) (by omega) (by omega)
 have e:((2:Int) ^ 8-1)=255:=by decide
 have e2:((2:Int) ^ 8)=256:=by decide
 rw[e,e2]at h
 rw[h]
 omega
def cellsY(l:List Nat):List Value:=l.map fun n:Nat=>Value.int .u8 (n:Int)
theorem Tryz.infoU8:(Tryz.prog.info? 5).map (fun i=>(i.zero,i.size,i.bytes))=some (some (.int .u8 0),1,1):=by kernel_rfl
theorem own_stepY{w wr w2:World}{acc:List Nat}{v v':Value}{b:Nat}{o:Obj}(hbel:Below w.heap.size w wr)
  (hown2:w2.ownsRow w.heap.size 5 1 v' (acc.length+1) (cellsY acc++[.int .u8 b])) (hg:(wr.alloc o).grownBy w2 v.ownBlock) (hown1:wr.ownsRow w.heap.size 5 1 v acc.length (cellsY acc)) :
  w2.ownsRow w.heap.size 5 1 v' (acc++[b]).length (cellsY (acc++[b]))∧Below w.heap.size w w2:=by
 have hs1:=hbel.size
 refine ⟨?_, ?_⟩
 ·simpa[cellsY] using hown2
 ·exact (hbel.alloc (by omega) o).grown hg (by simp;omega) (fun k hk=>(hown1.lt k hk).1)
theorem behindN_le(k:Nat):behindN k≤8:=by
 unfold behindN
 repeat' split
 all_goals omega
set_option maxHeartbeats 2000000 in
set_option maxRecDepth 100000 in
theorem Bytes_any(k:Nat)(hk:k<18)(v:Int)(hv:In64 v)(w:World)(hg:GlobB w) :
  Calls Tryz.prog 78 #[.int .i64 k,.int .i64 v] w fun e w'=>e=.returned (.string (bsN (opC k v)))∧Below w.heap.size w w':=by
 obtain ⟨i0,hi0,hz0,hz1,hz2⟩:=info_parts Tryz.infoU8
 obtain ⟨u,hu⟩:∃ u:Nat,u=(v % 18446744073709551616).toNat:=⟨_,rfl⟩
 have eu:v % 18446744073709551616=(u:Int):=by omega
 have hlt:u<18446744073709551616:=by omega
 have e8:opC k v=k :: bytesN u (behindN k):=by unfold opC;rw[hu]
 rw[e8]
 have ew:IntKind.u64.wrap v=(u:Int):=by rw[← eu];simp[IntKind.wrap,IntKind.signed,IntKind.bits]
 clear eu hu e8
 have hb8:=behindN_le k
 obtain ⟨m,hm⟩:∃ m,m=behindN k:=⟨_,rfl⟩
 have HM:=mH hm
 rw[← hm]at hb8 ⊢
 have HC:Hid (∀ wr,Below w.heap.size w wr→wr.cell? ⟨0,k,none⟩=some (.int .i64 m)):=by
  intro wr hb
  rw[hm]
  exact (hb.cell (p:=⟨0,k,none⟩) hg.size).trans (hg.bytes k hk)
 have hgz:=hg.size
 clear hm hg
 have hk8:k<256:=by omega
 have H0:Hid ((w.alloc (.cells #[.int .u8 k] 5)).ownsRow w.heap.size 5 1 (.slice (some ⟨w.heap.size,0,none⟩) 1 1) ([k]:List Nat).length (cellsY [k])):=World.ownsRow_lit w #[.int .u8 k] 1 (Nat.le_refl _) (by unfold maxLen;omega) rfl
 go_enter Tryz.func78,Tryz.ntmps78
 go_wp2
 go_loopw [5,6,7] (fun vr vu vi wr=>∃ (n i:Nat) (acc:List Nat),i≤m∧vi=.int .i64 i∧vu=.int .u64 n∧n<18446744073709551616∧acc.length=i+1∧wr.ownsRow w.heap.size 5 1 vr acc.length (cellsY acc)∧Below w.heap.size w wr∧k :: bytesN u m=acc++bytesN n (m-i)) (fun _ _ i _=>8-(intOf i).toNat)
 case atStart=>exact ⟨u,0,[k],by omega,rfl,rfl,hlt,rfl,H0.out,box3 w _,rfl⟩
 case round =>
  obtain ⟨n,i,acc,hi,rfl,rfl,hn,hl,hown,hb,hq⟩:=hrel
  have c0:=HC.out _ hb
  by_cases h8:i<m
  ·obtain ⟨lo,hlo⟩:∃ lo,lo=n % 256:=⟨_,rfl⟩
   obtain ⟨hi',hhi⟩:∃ hi,hi=n / 256:=⟨_,rfl⟩
   have e1:bits .and .u64 (n:Int) 255=(lo:Int):=by rw[hlo];exact u64_low n hn
   have e2:(n:Int) / 256=(hi':Int):=by omega
   have hlo8:lo<256:=by omega
   have hq':k :: bytesN u m=(acc++[lo])++bytesN hi' (m-(i+1)):=by
    rw[hq,show m-i=(m-(i+1))+1 by omega,bytesN,hlo,hhi]
    simp
   have HQ:=mH hq'
   have HB:=mH hb
   have HL:=mH hl
   have HO:=mH hown
   have hal:acc.length≤9:=by omega
   have hhi':hi'<18446744073709551616:=by omega
   have hbs:=hb.size
   clear hq hq' hlo hhi hb hl hown
   go_wp2_with (at_builtin;refine wpList_append_own _ rfl (.tmp 26) (.tmp 30) 158 rfl w.heap.size 5 i0 (.int .u8 0) 1 1 Tryz.underlying158 hi0 hz0 hz1 hz2 rfl (by decide) _ _ _ rfl (HO.out.alloc _) ⟨wr.heap.size,0,none⟩ 1 1 [.int .u8 lo] rfl rfl (cell_one_at _ _ _ _ rfl) one_int1 (by unfold maxLen;omega) (by omega) (by simp;omega) ?_;intro v' w4 hown2 hgrow2 _;obtain ⟨ho3,hb3⟩:=own_stepY HB.out hown2 hgrow2 HO.out;clear hown2 hgrow2;have HO3:=mH ho3;have HB3:=mH hb3;clear ho3 hb3)
   go_roundw
   case rel=>exact ⟨hi',i+1,acc++[lo],by omega,by go_num,rfl,hhi',by simp[HL.out],HO3.out,HB3.out,HQ.out⟩
   case measure=>simp[intOf];omega
  ·have him:i=m:=by omega
   subst him
   have e:k :: bytesN u i=acc:=by rw[hq];simp[bytesN]
   have HE:=mH e
   have HB:=mH hb
   obtain ⟨g,o,cap,hv,hcap,hgl,hc⟩:=(reads_of_own hown).pos (by omega)
   subst hv
   have hcv:=conv_row wr g o cap acc hc
   clear hb hq e hown hc hl
   go_wp2
   go_ret
   exact ⟨by rw[HE.out];rfl,HB.out⟩
theorem GlobB.set{w:World}(h:GlobB w){cb:Nat}(hne:0≠cb)(i:Nat)(v:Value):GlobB (w.setCell ⟨cb,i,none⟩ v):=by
 refine ⟨fun c hc=>?_,by have:=h.size;simpa using this⟩
 rw[← h.bytes c hc]
 show (w.setCell ⟨cb,i,none⟩ v).cell? ⟨0,c,none⟩=_
 unfold World.cell?
 rw[Below.heap_setCell _ _ _ _ hne]
structure CmpAt(w:World)(cb:Nat)(nv lv rv fv:Value)(h:Nat)(N:List PNode)(ls:List PLet)(rs:List PRule)(fs:List Fact):Prop where
 blk:Blk w cb #[nv,lv,rv,fv,.int .i64 h] 116
 pa:PolAt w nv lv rv N ls rs
 fr:Reads w fv fs.length (cellsF fs)
 fb:fs.length≤401
 gb:GlobB w
 ap:Apart2 cb cb nv lv rv
 af:fv.ownBlock≠some cb
 ag:0≠cb
theorem CmpAt.below{w w':World}{cb:Nat}{nv lv rv fv:Value}{h:Nat}{N:List PNode}{ls:List PLet}{rs:List PRule}{fs:List Fact}(H:CmpAt w cb nv lv rv fv h N ls rs fs)(hb:Below w.heap.size w w'):CmpAt w' cb nv lv rv fv h N ls rs fs :=
 ⟨H.blk.below hb H.blk.lt,H.pa.below hb,H.fr.below hb,H.fb,H.gb.below hb,H.ap,H.af,H.ag⟩
theorem CmpAt.al{w:World}{cb:Nat}{nv lv rv fv:Value}{h:Nat}{N:List PNode}{ls:List PLet}{rs:List PRule}{fs:List Fact}(H:CmpAt w cb nv lv rv fv h N ls rs fs)(o:Obj):CmpAt (w.alloc o) cb nv lv rv fv h N ls rs fs:=H.below (box3 w o)
theorem CmpAt.dr{w:World}{cb:Nat}{nv lv rv fv:Value}{h:Nat}{N:List PNode}{ls:List PLet}{rs:List PRule}{fs:List Fact}(H:CmpAt w cb nv lv rv fv h N ls rs fs):CmpAt w.drew cb nv lv rv fv h N ls rs fs:=H.below (below_drewN (Below.refl _ w) 1)
theorem CmpAt.high{w:World}{cb:Nat}{nv lv rv fv:Value}{h:Nat}{N:List PNode}{ls:List PLet}{rs:List PRule}{fs:List Fact}(H:CmpAt w cb nv lv rv fv h N ls rs fs)(k:Nat):CmpAt (w.setCell ⟨cb,4,none⟩ (.int .i64 k)) cb nv lv rv fv k N ls rs fs :=
 ⟨H.blk.set 4 (.int .i64 k),H.pa.set1 H.ap 4 _,H.fr.set H.af,H.fb,H.gb.set H.ag 4 _,H.ap,H.af,H.ag⟩
set_option maxHeartbeats 1000000 in
set_option maxRecDepth 100000 in
theorem lay_any{w:World}{cb:Nat}{nv lv rv fv:Value}{h:Nat}{N:List PNode}{ls:List PLet}{rs:List PRule}{fs:List Fact}(H:CmpAt w cb nv lv rv fv h N ls rs fs)(k:Nat)(hk:k<18)(v:Int)(hv:In64 v)(below:Nat)(hb:below≤1000) :
  Calls Tryz.prog 150 #[.pointer (some ⟨cb,0,none⟩),.int .i64 k,.int .i64 v,.int .i64 below] w fun e w'=>e=.returned (.string (bsN (opC k v)))∧CmpAt w' cb nv lv rv fv (layH below h) N ls rs fs∧But cb w w':=by
 have HC:=mH H
 have HV:=mH hv
 have c4:=H.blk.cell 4
 have f4:=H.blk.free 4
 have hlt:=H.blk.lt
 simp only[List.getElem?_toArray,List.getElem?_cons_zero,List.getElem?_cons_succ]at c4
 clear H hv
 by_cases hl:h<below+1
 ·have hd:decide ((h:Int)<(below:Int)+1)=true:=by simp;omega
  rw[layH,if_pos hl]
  clear hl
  go_enter Tryz.func150,Tryz.ntmps150
  go_wp2_with (go_at_call 78;refine (Bytes_any k hk v HV.out _ (HC.out.high (below+1)).gb).mono ?_;rintro e w1 ⟨rfl,hb1⟩)
  go_ret
  exact ⟨rfl,(HC.out.high (below+1)).below hb1,(But.set cb 4 _ hlt).trans (But.of hb1)⟩
 ·have hd:decide ((h:Int)<(below:Int)+1)=false:=by simp;omega
  rw[layH,if_neg hl]
  clear hl
  go_enter Tryz.func150,Tryz.ntmps150
  go_wp2_with (go_at_call 78;refine (Bytes_any k hk v HV.out _ HC.out.gb).mono ?_;rintro e w1 ⟨rfl,hb1⟩)
  go_ret
  exact ⟨rfl,HC.out.below hb1,But.of hb1⟩
end Go.Proofs.YtpcjadaeolkngaaGreatDoor
