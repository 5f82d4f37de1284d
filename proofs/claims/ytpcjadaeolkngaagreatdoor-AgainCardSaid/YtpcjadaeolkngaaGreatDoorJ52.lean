/-
  policy, for all arguments: its text hangs on the raw bytes alone.
-/
import Derived.Test.YtpcjadaeolkngaaGreatDoorJ50
import Derived.Test.YtpcjadaeolkngaaGreatDoorJ51
import Derived.Test.YtpcjadaeolkngaaGreatDoorJ27
import Derived.Test.YtpcjadaeolkngaaGreatDoorRows
import Derived.ProofKit
import Derived.LaidMore
import Derived.OpenShut
import Derived.Stop.Joined
set_option linter.unusedVariables false
set_option linter.unusedSimpArgs false
namespace Go.Proofs.YtpcjadaeolkngaaGreatDoor
open Go.RowKit Go.Deep
set_option maxHeartbeats 8000000 in
set_option maxRecDepth 100000 in
theorem policyG_any(s:ByteArray)(x:Itm)(y:Bn)(hx:x.Ok)(hy:y.Ok)(hs:s.size≤maxLen)(w:World) :
  Calls Tryz.prog 6 #[.string s,itmA x,bnA y] w fun e w'=>(∃ (T:ByteArray) (K:Nat) (V:Int) (S:Nat),(((∃ L R,FineP T.toList x y (K,V,S) L R)∧T.size≤390)∧polT s=T)∧e=.returned (.agg (mg T K V S)))∧Below w.heap.size w w':=by
 have HP:=mH (poG_start w x y s hs)
 have HX:=mH hx
 have HY:=mH hy
 obtain ⟨q1,_,_⟩:=does7G (C:=fun E=>E=ctx0 x y) (fun E hE=>by subst hE;exact ⟨ctx0_ok x y,rfl,rfl⟩) hx hy (w.heap.size+1+1+1+1) (w.heap.size+1+1+1) (.string { data:=#[] }) (.int .i64 0) (.int .i64 0) (.int .i64 0) (.int .i64 0) (.bool false) false ⟨#[]⟩ 1 1 (by omega) (by omega) (none_numG hx hy _ _ false)
 have HSU:Hid (∀ g w',MakG w' (w.heap.size+1+1+1+1) (w.heap.size+1+1+1) x y (.string { data:=#[] }) (.int .i64 0) (.int .i64 0) (.int .i64 0) (.int .i64 0) (.bool false) false g→Calls Tryz.prog 20 #[.pointer (some ⟨w.heap.size+1+1+1+1,0,none⟩),.int .i64 1] w' fun e w2=>∃ t b k g',(Pc (fun E=>E=ctx0 x y) t b k 1 37 3 6 7 false∧sumT1 false ⟨#[]⟩ g=(t,b,g')∧e=.returned (pcV t b k))∧MakG w2 (w.heap.size+1+1+1+1) (w.heap.size+1+1+1) x y (.string { data:=#[] }) (.int .i64 0) (.int .i64 0) (.int .i64 0) (.int .i64 0) (.bool false) false g'∧But (w.heap.size+1+1+1) w' w2):=q1
 clear hx hy hs q1
 unfold itmA bnA
 go_enter Tryz.func6,Tryz.ntmps6
 go_upto_region 3 with fail
 generalize (((((w.alloc (.cells #[.int .i64 x.size,.int .i64 x.speed,.int .i64 x.need] 23)).alloc (.cells #[.int .i64 y.id,.int .i64 y.zone,.int .i64 y.cap,.int .i64 y.used,.int .i64 y.has] 25)).alloc (.cells (mg ⟨#[]⟩ 0 0 0) 31)).alloc (.cells #[.string s,.int .i64 0] 59)).alloc (.cells #[.pointer (some ⟨w.heap.size+1+1+1,0,none⟩),.int .i64 x.size,.int .i64 x.speed,.int .i64 x.need,.int .i64 y.id,.int .i64 y.zone,.int .i64 y.cap,.int .i64 y.used,.int .i64 y.has,.string { data:=#[] },.int .i64 0,.int .i64 0,.int .i64 0,.int .i64 0,.bool false,.bool false] 64)).alloc (.cells (mg ⟨#[]⟩ 0 0 0) 31)=W at HP ⊢
 obtain ⟨p,f,q,z,mf,c0⟩:=HP.out.facts
 go_upto_if 26 with (go_at_call 19;refine (next_fed 3 (by omega) _ _ _ HP.out.mak.fed).mono ?_;rintro e w1 ⟨r,g1,⟨hg,hr0,hr5,rfl⟩,hF,hB⟩;have HG:=mH hg;clear hg;replace HP:=mH (HP.out.next hF hB);clear hF hB p f q z mf c0;obtain ⟨p,f,q,z,mf,c0⟩:=HP.out.facts)
 go_cut [] (fun wx=>∃ (C:Ctx→Prop) (T0 lt:ByteArray) (l0 l1 l2 l3 l4 l5:Value) (g:Fd),PoG w wx x y l0 l1 l2 l3 l4 l5 g (mg T0 0 0 0)∧PolG x y (w.heap.size+1+1+1+1) (w.heap.size+1+1+1) l0 l1 l2 l3 l4 l5 C T0 lt∧headG s=(T0,lt,g))
 case first =>
  by_cases hr:r=1
  ·subst hr
   go_upto_region 8 with (go_at_call 20;refine (HSU.out _ _ HP.out.mak).mono ?_;rintro e w2 ⟨te,be,ke,ge,⟨hpe,hee,rfl⟩,hM,hB⟩;have HEE:=mH hee;clear hee;obtain ⟨ne,fe,se,ie⟩:=ke;unfold pcV pcA;have hlt:w.heap.size+1+1+1+1+1<w2.heap.size:=(HP.out.call hM hB).pp.lt;have HP0:=mH (HP.out.call hM hB);replace HP:=mH ((HP.out.call hM hB).al (.cells (ag te be ne fe se ie) 62));have HE:=mH (Blk.new w2 (ag te be ne fe se ie) 62);have HPE:=mH hpe;have ze:=hpe.size;have y1:(9223372036854775807<9+te.size)=False:=(by simp;omega);have y2:(9223372036854775807<9+te.size+1)=False:=(by simp;omega);have n1:w2.heap.size≠w.heap.size+1+1+1+1+1:=(by omega);have n2:w.heap.size+1+1+1+1+1≠w2.heap.size:=(by omega);clear hM hB hpe p f q z mf c0;obtain ⟨p,f,q,z,mf,c0⟩:=HP.out.facts;have u:=HE.out.cell;have v:=HE.out.free)
   have HP2:=(HP0.out.setP 0 (.string (letB te))).al (.cells (ag ⟨#[107,107]⟩ 6 ne fe se ie) 62)
   have HE2:=Blk.new (w2.setCell ⟨w.heap.size+1+1+1+1+1,0,none⟩ (.string (letB te))) (ag ⟨#[107,107]⟩ 6 ne fe se ie) 62
   rw[show (w2.setCell ⟨w.heap.size+1+1+1+1+1,0,none⟩ (.string (letB te))).heap.size=w2.heap.size by simp]at HE2
   unfold letB at HP2 HE2
   simp only[List.setIfInBounds_toArray,List.set_cons_zero,List.set_cons_succ]at HP2
   clear HP HP0 HE p f q z mf c0 u v
   generalize (w2.setCell ⟨w.heap.size+1+1+1+1+1,0,none⟩ (.string (⟨#[108,101,116,32,107,107,32,61,32]⟩++te++⟨#[59]⟩))).alloc (.cells (ag ⟨#[107,107]⟩ 6 ne fe se ie) 62)=W5 at HP2 HE2 ⊢
   have HP:=mH HP2
   have HE:=mH HE2
   clear HP2 HE2
   obtain ⟨p,f,q,z,mf,c0⟩:=HP.out.facts
   have mc:=HP.out.mak.blk.cell
   have u:=HE.out.cell
   go_wp2
   go_meet
   case rel=>exact ⟨_,letB te,⟨#[107,107]⟩,_,_,_,_,_,_,ge,HP.out.let _ _ _ _ _ _,polG_some HX.out HY.out _ _ HPE.out,headG_yes HG.out HEE.out⟩
  ·have hr':(r==1)=false:=by simpa using hr
   go_wp2
   go_meet
   case rel=>exact ⟨_,⟨#[]⟩,⟨#[]⟩,_,_,_,_,_,_,g1,HP.out,polG_none HX.out HY.out _ _,headG_no HG.out hr⟩
 case rest =>
  obtain ⟨C,T0,lt,l0,l1,l2,l3,l4,l5,g2,hP,hC,hH⟩:=hcut
  clear HG
  have HH:=mH hH
  clear hH
  clear HP p f q z mf c0 HSU
  have HP:=mH hP
  have HC:=mH hC
  have z0:=hC.len
  have HRA:Hid (∀ g w',MakG w' (w.heap.size+1+1+1+1) (w.heap.size+1+1+1) x y l0 l1 l2 l3 l4 l5 false g→Calls Tryz.prog 21 #[.pointer (some ⟨w.heap.size+1+1+1+1,0,none⟩),.agg (mg T0 0 0 0),.bool false,.int .i64 2] w' fun e w2=>∃ (T2:ByteArray) (K2:Nat) (V2:Int) (S2:Nat) (d2:Bool) (r:MadeR) (g':Fd),(RuleIs C T0 0 0 0 false T2 K2 V2 S2 d2 r∧ruleG (testT1 false lt) (sumT2 false lt) T0 g=(T2,g')∧e=.returned (.tuple #[.agg (mg T2 K2 V2 S2),.bool d2]))∧MakG w2 (w.heap.size+1+1+1+1) (w.heap.size+1+1+1) x y l0 l1 l2 l3 l4 l5 false g'∧But (w.heap.size+1+1+1) w' w2):=mH (fun g w' h=>ruleG_any _ _ x y l0 l1 l2 l3 l4 l5 false 2 (by omega) _ _ hC.t1 hC.s2 T0 0 0 0 false (by omega) (by omega) (fun _=>⟨rfl,rfl⟩) g w' h)
  have HRB:Hid (∀ (T1:ByteArray) (K1:Nat) (V1:Int) (S1:Nat) (d1:Bool),T1.size≤500→S1≤5000→(d1=false→K1=0∧V1=0)→∀ g w',MakG w' (w.heap.size+1+1+1+1) (w.heap.size+1+1+1) x y l0 l1 l2 l3 l4 l5 false g→Calls Tryz.prog 21 #[.pointer (some ⟨w.heap.size+1+1+1+1,0,none⟩),.agg (mg T1 K1 V1 S1),.bool d1,.int .i64 1] w' fun e w2=>∃ (T2:ByteArray) (K2:Nat) (V2:Int) (S2:Nat) (d2:Bool) (r:MadeR) (g':Fd),(RuleIs C T1 K1 V1 S1 d1 T2 K2 V2 S2 d2 r∧ruleG (testT1 false lt) (sumT1 false lt) T1 g=(T2,g')∧e=.returned (.tuple #[.agg (mg T2 K2 V2 S2),.bool d2]))∧MakG w2 (w.heap.size+1+1+1+1) (w.heap.size+1+1+1) x y l0 l1 l2 l3 l4 l5 false g'∧But (w.heap.size+1+1+1) w' w2):=mH (fun T1 K1 V1 S1 d1 h1 h2 h3 g w' h=>ruleG_any _ _ x y l0 l1 l2 l3 l4 l5 false 1 (by omega) _ _ hC.t1 hC.s1 T1 K1 V1 S1 d1 h1 h2 h3 g w' h)
  clear hP hC
  obtain ⟨p,f,q,z,mf,c0⟩:=HP.out.facts
  go_upto_region 10 with (go_at_call 19;refine (next_fed 2 (by omega) _ _ _ HP.out.mak.fed).mono ?_;rintro e w3 ⟨r2,g3,⟨hg,hs0,hs5,rfl⟩,hF,hB⟩;have HG:=mH hg;clear hg;replace HP:=mH (HP.out.next hF hB);clear hF hB p f q z mf c0;obtain ⟨p,f,q,z,mf,c0⟩:=HP.out.facts)
  by_cases hr2:r2=1
  ·have hr2':(r2==1)=true:=by simpa using hr2
   have HR2:=mH hr2
   clear hr2
   go_upto_region 17 with (first
    | (go_at_call_of 21 (Value.int IntKind.i64 2);refine (HRA.out _ _ HP.out.mak).mono ?_;rintro e w4 ⟨T1,K1,V1,S1,d1,r1,h1,⟨hq,hqg,rfl⟩,hM,hB⟩;have HQG1:=mH hqg;clear hqg;replace HP:=mH (HP.out.call hM hB);have HQ1:=mH hq;have zl1:=hq.len;have zs1:=hq.stp;clear hM hB hq p f q z mf c0;obtain ⟨p,f,q,z,mf,c0⟩:=HP.out.facts;skip)
    | (go_at_call_of 21 (Value.int IntKind.i64 1);refine (HRB.out T1 K1 V1 S1 d1 (by omega) (by omega) HQ1.out.say.nul _ _ ((((HP.out.setP 0 (.string T1)).setP 1 (.int .i64 K1)).setP 2 (.int .i64 V1)).setP 3 (.int .i64 S1)).mak).mono ?_;rintro e w5 ⟨T2,K2,V2,S2,d2,r2',h2,⟨hq,hqg,rfl⟩,hM,hB⟩;have HQG2:=mH hqg;clear hqg;replace HP:=mH ((((((HP.out.setP 0 (.string T1)).setP 1 (.int .i64 K1)).setP 2 (.int .i64 V1)).setP 3 (.int .i64 S1)).call hM hB).al (.cells (mg T2 K2 V2 S2) 31));have HB:=mH (Blk.new w5 (mg T2 K2 V2 S2) 31);have HQ2:=mH hq;have zl2:=hq.len;have zs2:=hq.stp;clear hM hB hq p f q z mf c0;obtain ⟨p,f,q,z,mf,c0⟩:=HP.out.facts;have u:=HB.out.cell;cases d2))
   ·skip
    have HP2:=(((((HP.out.setP 0 (.string T2)).setP 1 (.int .i64 K2)).setP 2 (.int .i64 V2)).setP 3 (.int .i64 S2)).setP 3 (.int .i64 ((S2:Int)+1)))
    simp only[List.setIfInBounds_toArray,List.set_cons_zero,List.set_cons_succ]at HP2
    clear HP p f q z mf c0 HB u
    generalize ((((((w5.alloc (.cells (mg T2 K2 V2 S2) 31)).setCell ⟨w.heap.size+1+1+1+1+1,0,none⟩ (.string T2)).setCell ⟨w.heap.size+1+1+1+1+1,1,none⟩ (.int .i64 K2)).setCell ⟨w.heap.size+1+1+1+1+1,2,none⟩ (.int .i64 V2)).setCell ⟨w.heap.size+1+1+1+1+1,3,none⟩ (.int .i64 S2)).setCell ⟨w.heap.size+1+1+1+1+1,3,none⟩ (.int .i64 ((S2:Int)+1)))=W5 at HP2 ⊢
    have HP:=mH HP2
    clear HP2
    obtain ⟨p,f,q,z,mf,c0⟩:=HP.out.facts
    go_wp2
    obtain ⟨gg,hbl⟩:=HP.out.fin (.string T2) (.int .i64 K2) (.int .i64 V2) (.int .i64 ((S2:Int)+1))
    unfold finVG at gg hbl
    exact bodyPost_ret (v:=.agg #[.string T2,.int .i64 K2,.int .i64 V2,.int .i64 ((S2:Int)+1)]) (by simp[results,Tryz.results6,go_sem,gg]) rfl ⟨⟨T2,K2,V2,(S2+1),⟨⟨by have h:=HC.out.fine [r1,r2'] T2 (by simp) (by simp) (fun r hr E hE=>by simp only[List.mem_cons,List.mem_nil_iff,or_false]at hr;rcases hr with rfl | rfl;exact HQ1.out.is E hE;exact HQ2.out.is E hE) (by rw[HQ2.out.txt,HQ1.out.txt];simp[rulesT]) (by omega);rw[rules_two HQ1.out.say HQ2.out.say]at h;exact h,by omega⟩,polT_two HH.out HG.out HR2.out HQG1.out HQG2.out⟩,rfl⟩,hbl⟩
   ·skip
    have HP2:=((((HP.out.setP 0 (.string T2)).setP 1 (.int .i64 K2)).setP 2 (.int .i64 V2)).setP 3 (.int .i64 S2))
    simp only[List.setIfInBounds_toArray,List.set_cons_zero,List.set_cons_succ]at HP2
    clear HP p f q z mf c0 HB u
    generalize (((((w5.alloc (.cells (mg T2 K2 V2 S2) 31)).setCell ⟨w.heap.size+1+1+1+1+1,0,none⟩ (.string T2)).setCell ⟨w.heap.size+1+1+1+1+1,1,none⟩ (.int .i64 K2)).setCell ⟨w.heap.size+1+1+1+1+1,2,none⟩ (.int .i64 V2)).setCell ⟨w.heap.size+1+1+1+1+1,3,none⟩ (.int .i64 S2))=W5 at HP2 ⊢
    have HP:=mH HP2
    clear HP2
    obtain ⟨p,f,q,z,mf,c0⟩:=HP.out.facts
    go_wp2
    obtain ⟨gg,hbl⟩:=HP.out.fin (.string T2) (.int .i64 K2) (.int .i64 V2) (.int .i64 S2)
    unfold finVG at gg hbl
    exact bodyPost_ret (v:=.agg #[.string T2,.int .i64 K2,.int .i64 V2,.int .i64 S2]) (by simp[results,Tryz.results6,go_sem,gg]) rfl ⟨⟨T2,K2,V2,S2,⟨⟨by have h:=HC.out.fine [r1,r2'] T2 (by simp) (by simp) (fun r hr E hE=>by simp only[List.mem_cons,List.mem_nil_iff,or_false]at hr;rcases hr with rfl | rfl;exact HQ1.out.is E hE;exact HQ2.out.is E hE) (by rw[HQ2.out.txt,HQ1.out.txt];simp[rulesT]) (by omega);rw[rules_two HQ1.out.say HQ2.out.say]at h;exact h,by omega⟩,polT_two HH.out HG.out HR2.out HQG1.out HQG2.out⟩,rfl⟩,hbl⟩
  ·have hr2':(r2==1)=false:=by simpa using hr2
   have HR2:=mH hr2
   clear hr2
   go_upto_region 17 with (first
    | (go_at_call_of 21 (Value.int IntKind.i64 2);refine (HRA.out _ _ HP.out.mak).mono ?_;rintro e w4 ⟨T1,K1,V1,S1,d1,r1,h1,⟨hq,hqg,rfl⟩,hM,hB⟩;have HQG1:=mH hqg;clear hqg;replace HP:=mH (HP.out.call hM hB);have HQ1:=mH hq;have zl1:=hq.len;have zs1:=hq.stp;clear hM hB hq p f q z mf c0;obtain ⟨p,f,q,z,mf,c0⟩:=HP.out.facts;cases d1))
   ·skip
    have HP2:=(((((HP.out.setP 0 (.string T1)).setP 1 (.int .i64 K1)).setP 2 (.int .i64 V1)).setP 3 (.int .i64 S1)).setP 3 (.int .i64 ((S1:Int)+1)))
    simp only[List.setIfInBounds_toArray,List.set_cons_zero,List.set_cons_succ]at HP2
    clear HP p f q z mf c0 
    generalize (((((w4.setCell ⟨w.heap.size+1+1+1+1+1,0,none⟩ (.string T1)).setCell ⟨w.heap.size+1+1+1+1+1,1,none⟩ (.int .i64 K1)).setCell ⟨w.heap.size+1+1+1+1+1,2,none⟩ (.int .i64 V1)).setCell ⟨w.heap.size+1+1+1+1+1,3,none⟩ (.int .i64 S1)).setCell ⟨w.heap.size+1+1+1+1+1,3,none⟩ (.int .i64 ((S1:Int)+1)))=W5 at HP2 ⊢
    have HP:=mH HP2
    clear HP2
    obtain ⟨p,f,q,z,mf,c0⟩:=HP.out.facts
    go_wp2
    obtain ⟨gg,hbl⟩:=HP.out.fin (.string T1) (.int .i64 K1) (.int .i64 V1) (.int .i64 ((S1:Int)+1))
    unfold finVG at gg hbl
    exact bodyPost_ret (v:=.agg #[.string T1,.int .i64 K1,.int .i64 V1,.int .i64 ((S1:Int)+1)]) (by simp[results,Tryz.results6,go_sem,gg]) rfl ⟨⟨T1,K1,V1,(S1+1),⟨⟨by have h:=HC.out.fine [r1] T1 (by simp) (by simp) (fun r hr E hE=>by obtain rfl:=List.mem_singleton.1 hr;exact HQ1.out.is E hE) (by rw[HQ1.out.txt];simp[rulesT]) (by omega);rw[rules_one HQ1.out.say]at h;exact h,by omega⟩,polT_one HH.out HG.out HR2.out HQG1.out⟩,rfl⟩,hbl⟩
   ·skip
    have HP2:=((((HP.out.setP 0 (.string T1)).setP 1 (.int .i64 K1)).setP 2 (.int .i64 V1)).setP 3 (.int .i64 S1))
    simp only[List.setIfInBounds_toArray,List.set_cons_zero,List.set_cons_succ]at HP2
    clear HP p f q z mf c0 
    generalize ((((w4.setCell ⟨w.heap.size+1+1+1+1+1,0,none⟩ (.string T1)).setCell ⟨w.heap.size+1+1+1+1+1,1,none⟩ (.int .i64 K1)).setCell ⟨w.heap.size+1+1+1+1+1,2,none⟩ (.int .i64 V1)).setCell ⟨w.heap.size+1+1+1+1+1,3,none⟩ (.int .i64 S1))=W5 at HP2 ⊢
    have HP:=mH HP2
    clear HP2
    obtain ⟨p,f,q,z,mf,c0⟩:=HP.out.facts
    go_wp2
    obtain ⟨gg,hbl⟩:=HP.out.fin (.string T1) (.int .i64 K1) (.int .i64 V1) (.int .i64 S1)
    unfold finVG at gg hbl
    exact bodyPost_ret (v:=.agg #[.string T1,.int .i64 K1,.int .i64 V1,.int .i64 S1]) (by simp[results,Tryz.results6,go_sem,gg]) rfl ⟨⟨T1,K1,V1,S1,⟨⟨by have h:=HC.out.fine [r1] T1 (by simp) (by simp) (fun r hr E hE=>by obtain rfl:=List.mem_singleton.1 hr;exact HQ1.out.is E hE) (by rw[HQ1.out.txt];simp[rulesT]) (by omega);rw[rules_one HQ1.out.say]at h;exact h,by omega⟩,polT_one HH.out HG.out HR2.out HQG1.out⟩,rfl⟩,hbl⟩
theorem Print_fine(s:ByteArray)(hz:s.size≤maxLen){L R:List RSt}(h:PolicyOf s.toList L R)(w:World)(hg:GlobT w) :
  Calls Tryz.prog 7 #[.string s] w fun e w'=>e=.returned (.tuple #[.string (bsOf (polQ L R)),.int .i64 0,.int .i64 0])∧Below w.heap.size w w':=by
 refine (Print_any s hz w hg).mono ?_
 rintro e w' ⟨hb,⟨c,p,h1,_⟩ | ⟨L',R',h1,rfl⟩⟩
 ·rw[h.fine]at h1;cases h1
 ·obtain ⟨rfl,rfl⟩:=h.uniq h1
  exact ⟨rfl,hb⟩
theorem Check_pol(s:ByteArray)(hz:s.size≤maxLen){L R:List RSt}(h:PolicyOf s.toList L R)(he:errsOf (nodesS 0 (L++R)) (letsS 0 (L++R)) (rulesS 0 (L++R))=(0,0))(w:World)(hg:GlobT w) :
  Calls Tryz.prog 8 #[.string s] w fun e w'=>e=.returned (.tuple #[.int .i64 0,.int .i64 0])∧Below w.heap.size w w':=by
 refine (Check_prog s w hg hz).mono ?_
 rintro e w' ⟨hb,c,p,h1,rfl⟩
 rcases h1 with ⟨h1,_⟩ | ⟨L',R',n,h1,h2,rfl⟩
 ·rw[h.fine]at h1;cases h1
 ·obtain ⟨rfl,rfl⟩:=h.uniq h1
  rw[he]at h2
  cases h2
  exact ⟨rfl,hb⟩
structure AgSt(w wx:World)(xb zb:Nat)(x:Itm)(y:Bn)(c:Array Value):Prop where
 it:Blk wx xb #[.int .i64 x.size,.int .i64 x.speed,.int .i64 x.need] 23
 bn:Blk wx (xb+1) #[.int .i64 y.id,.int .i64 y.zone,.int .i64 y.cap,.int .i64 y.used,.int .i64 y.has] 25
 md:Blk wx zb c 31
 bl:Below w.heap.size w wx
theorem AgSt.below{w wx w':World}{xb zb:Nat}{x:Itm}{y:Bn}{c:Array Value}(h:AgSt w wx xb zb x y c)(hb:Below wx.heap.size wx w'):AgSt w w' xb zb x y c:=⟨h.it.below hb h.it.lt,h.bn.below hb h.bn.lt,h.md.below hb h.md.lt,ag_step h.bl hb⟩
theorem AgSt.al{w wx:World}{xb zb:Nat}{x:Itm}{y:Bn}{c:Array Value}(h:AgSt w wx xb zb x y c)(o:Obj):AgSt w (wx.alloc o) xb zb x y c:=h.below (box3 wx o)
theorem ag_two{w w1:World}(hb:Below w.heap.size w w1)(x:Itm)(y:Bn):Blk ((w1.alloc (.cells #[.int .i64 x.size,.int .i64 x.speed,.int .i64 x.need] 23)).alloc (.cells #[.int .i64 y.id,.int .i64 y.zone,.int .i64 y.cap,.int .i64 y.used,.int .i64 y.has] 25)) w1.heap.size #[.int .i64 x.size,.int .i64 x.speed,.int .i64 x.need] 23∧Blk ((w1.alloc (.cells #[.int .i64 x.size,.int .i64 x.speed,.int .i64 x.need] 23)).alloc (.cells #[.int .i64 y.id,.int .i64 y.zone,.int .i64 y.cap,.int .i64 y.used,.int .i64 y.has] 25)) (w1.heap.size+1) #[.int .i64 y.id,.int .i64 y.zone,.int .i64 y.cap,.int .i64 y.used,.int .i64 y.has] 25∧Below w.heap.size w ((w1.alloc (.cells #[.int .i64 x.size,.int .i64 x.speed,.int .i64 x.need] 23)).alloc (.cells #[.int .i64 y.id,.int .i64 y.zone,.int .i64 y.cap,.int .i64 y.used,.int .i64 y.has] 25)):=by
 have a2:=Blk.new (w1.alloc (.cells #[.int .i64 x.size,.int .i64 x.speed,.int .i64 x.need] 23)) #[.int .i64 y.id,.int .i64 y.zone,.int .i64 y.cap,.int .i64 y.used,.int .i64 y.has] 25
 rw[show (w1.alloc (.cells #[.int .i64 x.size,.int .i64 x.speed,.int .i64 x.need] 23)).heap.size=w1.heap.size+1 by simp]at a2
 have hsz:=hb.size
 exact ⟨(Blk.new w1 _ _).alloc _,a2,(hb.alloc hsz _).alloc (by simp;omega) _⟩
structure AgK(T pq:ByteArray)(x:Itm)(y:Bn)(say:Nat×Int×Nat)(I:ByteArray):Prop where
 p1:∀ w,GlobT w→Calls Tryz.prog 7 #[.string T] w fun e w'=>e=.returned (.tuple #[.string pq,.int .i64 0,.int .i64 0])∧Below w.heap.size w w'
 p2:∀ w,GlobT w→Calls Tryz.prog 7 #[.string pq] w fun e w'=>e=.returned (.tuple #[.string pq,.int .i64 0,.int .i64 0])∧Below w.heap.size w w'
 p3:∀ w,GlobT w→Calls Tryz.prog 7 #[.string (⟨#[32]⟩++pq++⟨#[10]⟩)] w fun e w'=>e=.returned (.tuple #[.string pq,.int .i64 0,.int .i64 0])∧Below w.heap.size w w'
 c1:∀ w,GlobT w→Calls Tryz.prog 8 #[.string T] w fun e w'=>e=.returned (.tuple #[.int .i64 0,.int .i64 0])∧Below w.heap.size w w'
 c2:∀ w,GlobT w→Calls Tryz.prog 8 #[.string pq] w fun e w'=>e=.returned (.tuple #[.int .i64 0,.int .i64 0])∧Below w.heap.size w w'
 good:GoodP pq x y say I
 size:pq.size≤398∧1≤pq.size
 dbl:∀ k:Nat,pq.toList[k]?=some (32:UInt8)→pq.toList[k+1]?≠some (32:UInt8)
theorem agK_of{s T:ByteArray}{x:Itm}{y:Bn}{say:Nat×Int×Nat}{L R:List RSt}(hx:x.Ok)(hy:y.Ok)(h:FineP T.toList x y say L R)(hz:T.size≤390)(hT:polT s=T):∃ pq I,AgK T pq x y say I:=by
 subst hT
 have hb:=pol_bound h.pol
 have hnb:=polQ_nb h.pol
 obtain ⟨L1,R1,f1,e1⟩:=plain_pol h false (by omega)
 obtain ⟨L2,R2,f2,e2⟩:=plain_pol h true (by omega)
 simp only[Bool.false_eq_true,if_false,if_true]at f1 f2
 have hm:∀ n:Nat,n≤400→n≤maxLen:=fun n hn=>Nat.le_trans hn (by decide)
 have hsz:(bsOf (polQ L R)).size=(polQ L R).length:=bsOf_size _
 have f1':FineP (bsOf (polQ L R)).toList x y say L1 R1:=by rw[bsOf_toList];exact f1
 have e3:((⟨#[32]⟩:ByteArray)++bsOf (polQ L R)++⟨#[10]⟩).toList=32 :: (polQ L R++[10]):=by
  rw[toL_app,toL_app,bsOf_toList,show (⟨#[32]⟩:ByteArray).toList=[32] from toL_mk _,show (⟨#[10]⟩:ByteArray).toList=[10] from toL_mk _]
  simp
 have f2':FineP ((⟨#[32]⟩:ByteArray)++bsOf (polQ L R)++⟨#[10]⟩).toList x y say L2 R2:=by rw[e3];exact f2
 have hs3:((⟨#[32]⟩:ByteArray)++bsOf (polQ L R)++⟨#[10]⟩).size≤400:=by
  rw[← toList_length,e3]
  simp only[List.length_cons,List.length_append,List.length_nil]
  omega
 obtain ⟨I,hI⟩:=good_of (hm _ (by omega)) f1' hx hy
 refine ⟨bsOf (polQ L R),I,fun w hg=>Print_fine _ (hm _ (by omega)) h.pol w hg,fun w hg=>?_,fun w hg=>?_,fun w hg=>Check_pol _ (hm _ (by omega)) h.pol h.errs w hg,fun w hg=>Check_pol _ (hm _ (by omega)) f1'.pol f1'.errs w hg,hI,⟨by omega, ?_⟩, ?_⟩
 ·have:=Print_fine (bsOf (polQ L R)) (hm _ (by omega)) f1'.pol w hg
  rw[e1]at this
  exact this
 ·have:=Print_fine _ (hm _ hs3) f2'.pol w hg
  rw[e2]at this
  exact this
 ·rw[hsz]
  exact List.length_pos_iff.2 hnb.ne
 ·rw[bsOf_toList]
  exact fun k hk=>dblB_at _ k hnb.dbl hk
set_option maxHeartbeats 16000000 in
set_option maxRecDepth 100000 in
theorem Again_any(s:ByteArray)(a b c:Int)(t:ByteArray)(ha:In64 a)(hb:In64 b)(hc:In64 c)(hs:s.size≤maxLen)(ht:t.size≤maxLen)(w:World)(hg:GlobP w)(hgt:GlobT w) :
  Calls Tryz.prog 3 #[.string s,.int .i64 a,.int .i64 b,.int .i64 c,.string t] w fun e w'=>Below w.heap.size w w'∧e=.returned (.bool true):=by
 have HA:=mH ha
 have HB:=mH hb
 have HC:=mH hc
 have HS:=mH hs
 have HTT:=mH ht
 have GP:Hid (∀ wx,Below w.heap.size w wx→GlobP wx):=fun wx h=>hg.below h
 have GT:Hid (∀ wx,Below w.heap.size w wx→GlobT wx):=fun wx h=>hgt.below h
 clear ha hb hc ht hg hs hgt
 go_enter Tryz.func3,Tryz.ntmps3
 go_upto_region 2 with (go_at_call 5;refine (around_any a b c HA.out HB.out HC.out t HTT.out _).mono ?_;rintro e w1 ⟨⟨x,y,hx,hy,rfl⟩,hb1⟩;unfold itmA bnA;have HX:=mH hx;have HY:=mH hy;have HB1:=mH hb1;clear hx hy hb1)
 obtain ⟨k1,k2,k3⟩:=ag_two HB1.out x y
 have HI:=mH k1
 have HJ:=mH k2
 have HBL:=mH k3
 clear k1 k2 k3
 generalize (w1.alloc (.cells #[.int .i64 x.size,.int .i64 x.speed,.int .i64 x.need] 23)).alloc (.cells #[.int .i64 y.id,.int .i64 y.zone,.int .i64 y.cap,.int .i64 y.used,.int .i64 y.has] 25)=W at HI HJ HBL ⊢
 generalize w1.heap.size=xb at HI HJ ⊢
 have ic:=HI.out.cell;have jc:=HJ.out.cell
 have HPO:Hid (∀ wx,Calls Tryz.prog 6 #[.string s,.agg #[.int .i64 x.size,.int .i64 x.speed,.int .i64 x.need],.agg #[.int .i64 y.id,.int .i64 y.zone,.int .i64 y.cap,.int .i64 y.used,.int .i64 y.has]] wx fun e w'=>(∃ (T:ByteArray) (K:Nat) (V:Int) (S:Nat),(((∃ L R,FineP T.toList x y (K,V,S) L R)∧T.size≤390)∧polT s=T)∧e=.returned (.agg (mg T K V S)))∧Below wx.heap.size wx w'):=mH (fun wx=>policyG_any s x y HX.out HY.out HS.out wx)
 go_upto_region 3 with (go_at_call 6;refine (HPO.out _).mono ?_;rintro e w2 ⟨⟨T,K,V,S,hp,rfl⟩,hb2⟩;have HPP:=mH hp;have HF0:Hid (AgSt w (w2.alloc (.cells (mg T K V S) 31)) xb w2.heap.size x y (mg T K V S)):=AgSt.mk ((HI.out.below hb2 HI.out.lt).alloc _) ((HJ.out.below hb2 HJ.out.lt).alloc _) (Blk.new w2 _ _) (ag_step (ag_step HBL.out hb2) (box3 w2 _));clear hb2 hp ic jc)
 obtain ⟨⟨⟨L,R,hfi⟩,hz⟩,hpt⟩:=HPP.out
 obtain ⟨pq,I,hk⟩:=agK_of HX.out HY.out hfi hz hpt
 have HK:=mH hk
 obtain ⟨hz1,hz0⟩:=hk.size
 have hne3:pq.toList≠[]:=fun h=>by
  have:pq.size=0:=by rw[← toList_length,h];rfl
  omega
 have hne2:(pq.toList==[])=false:=by simpa using hne3
 clear hfi hz hpt hk HPO HPP
 generalize w2.alloc (.cells (mg T K V S) 31)=W2 at HF0 ⊢
 generalize w2.heap.size=zb at HF0 ⊢
 have HF:=HF0
 clear HF0 HI HJ HBL
 have ic:=HF.out.it.cell;have jc:=HF.out.bn.cell;have mc:=HF.out.md.cell
 have t1:Hid True:=trivial
 have t2:Hid True:=trivial
 have t3:Hid True:=trivial
 have t4:Hid True:=trivial
 have t5:Hid True:=trivial
 go_upto_region 9 with (first
  | (go_at_call 7;have u1:=t1;clear t1;refine (HK.out.p1 _ (GT.out _ HF.out.bl)).mono ?_;rintro e w3 ⟨rfl,hb⟩;replace HF:=mH (HF.out.below hb);clear hb ic jc mc;have ic:=HF.out.it.cell;have jc:=HF.out.bn.cell;have mc:=HF.out.md.cell)
  | (go_at_call 7;have u2:=t2;clear t2;refine (HK.out.p2 _ (GT.out _ HF.out.bl)).mono ?_;rintro e w4 ⟨rfl,hb⟩;replace HF:=mH (HF.out.below hb);clear hb ic jc mc;have ic:=HF.out.it.cell;have jc:=HF.out.bn.cell;have mc:=HF.out.md.cell)
  | (go_at_call 8;have u4:=t4;clear t4;refine (HK.out.c1 _ (GT.out _ HF.out.bl)).mono ?_;rintro e w5 ⟨rfl,hb⟩;replace HF:=mH (HF.out.below hb);clear hb ic jc mc;have ic:=HF.out.it.cell;have jc:=HF.out.bn.cell;have mc:=HF.out.md.cell)
  | (go_at_call 8;have u5:=t5;clear t5;refine (HK.out.c2 _ (GT.out _ HF.out.bl)).mono ?_;rintro e w6 ⟨rfl,hb⟩;replace HF:=mH (HF.out.below hb);clear hb ic jc mc;have ic:=HF.out.it.cell;have jc:=HF.out.bn.cell;have mc:=HF.out.md.cell))
 go_wp2
 clear ic jc mc
 generalize hW6:w6=W6 at *
 clear hW6
 go_loopw [24] (fun vi wr=>∃ j:Nat,j≤pq.size∧vi=.int .i64 ((j+1:Nat):Int)∧wr=W6) (fun i _=>1000-(intOf i).toNat)
 case atStart=>exact ⟨0,Nat.zero_le _,rfl,rfl⟩
 case round =>
  obtain ⟨j,hj,rfl,rfl⟩:=hrel
  by_cases hlt:j+1<pq.size
  ·have e1:decide (((j+1:Nat):Int)<(pq.size:Int))=true:=decide_eq_true (by omega)
   have e1b:decide ((j:Int)+1<(pq.size:Int))=true:=decide_eq_true (by omega)
   have hsub:(j:Int)+1-1=(j:Int):=by omega
   have hi1:=fun wx=>run_index_nat (P:=Tryz.prog) wx 9 pq .i64 ((j:Int)+1) (j+1) Tryz.underlying9 (by omega) hlt
   have hi0:=fun wx=>run_index_nat (P:=Tryz.prog) wx 9 pq .i64 (j:Int) j Tryz.underlying9 rfl (by omega)
   have g1:=getElem_toList pq (j+1) hlt
   have g0:=getElem_toList pq j (by omega)
   have hd:=HK.out.dbl j
   rw[g0,g1]at hd
   obtain ⟨c1,hc1⟩:∃ c1,pq[j+1].toNat=c1:=⟨_,rfl⟩
   obtain ⟨c0,hc0⟩:∃ c0,pq[j].toNat=c0:=⟨_,rfl⟩
   have hcc:c0=32→c1≠32:=by
    intro h0 h1
    refine hd ?_ ?_
    ·congr 1;apply UInt8.toNat_inj.1;rw[hc0,h0];rfl
    ·congr 1;apply UInt8.toNat_inj.1;rw[hc1,h1];rfl
   rw[hc1]at hi1
   rw[hc0]at hi0
   clear hc1 hc0 hd g0 g1
   by_cases h32:c1=32
   ·subst h32
    have q0:((c0:Int)==32)=false:=by
     have:c0≠32:=fun h=>hcc h rfl
     simp;omega
    clear hcc
    go_wp2
    go_roundw
    case rel=>exact ⟨j+1,by omega,by go_num,trivial⟩
    case measure=>simp[intOf];omega
   ·have q1:((c1:Int)==32)=false:=by simp;omega
    clear hcc h32
    go_wp2
    go_roundw
    case rel=>exact ⟨j+1,by omega,by go_num,trivial⟩
    case measure=>simp[intOf];omega
  ·have e1:decide (((j+1:Nat):Int)<(pq.size:Int))=false:=decide_eq_false (by omega)
   have y1:(⟨#[32]⟩:ByteArray).size=1:=rfl
   have y2:(⟨#[10]⟩:ByteArray).size=1:=rfl
   have z1:(9223372036854775807<1+pq.size)=False:=by simp;omega
   have z2:(9223372036854775807<1+pq.size+1)=False:=by simp;omega
   have ic:=HF.out.it.cell;have jc:=HF.out.bn.cell;have mc:=HF.out.md.cell
   go_wp2_with (first
    | (go_at_call 7;have u3:=t3;clear t3;refine (HK.out.p3 _ (GT.out _ HF.out.bl)).mono ?_;rintro e w7 ⟨rfl,hb⟩;replace HF:=mH (HF.out.below hb);clear hb ic jc mc;have ic:=HF.out.it.cell;have jc:=HF.out.bn.cell;have mc:=HF.out.md.cell)
    | (go_at_call 9;refine (HK.out.good.comp _ (GT.out _ HF.out.bl) ⟨(GP.out _ HF.out.bl).bytes,(GP.out _ HF.out.bl).size.1⟩).mono ?_;rintro e w8 ⟨rfl,hb⟩;replace HF:=mH (HF.out.below hb);clear hb ic jc mc;have ic:=HF.out.it.cell;have jc:=HF.out.bn.cell;have mc:=HF.out.md.cell)
    | (go_at_call 10;refine (pRun_any I x y _ (GP.out _ HF.out.bl)).mono ?_;rintro e w9 ⟨hb,r,k,ho,rfl⟩;obtain ⟨rfl,hr⟩:=HK.out.good.run r k ho;obtain ⟨rk,rv,rt⟩:=r;have e1:=hr.kind;have e2:=hr.val;simp only at e1 e2;rw[e1,e2];clear e1 e2;rw[show resA (K,V,rt)=.agg #[.int .i64 K,.int .i64 V,.int .i64 rt] from rfl];replace HF:=mH ((HF.out.below hb).al (.cells #[.int .i64 K,.int .i64 V,.int .i64 rt] 29));have HR:=mH (Blk.new w9 #[.int .i64 K,.int .i64 V,.int .i64 rt] 29);clear hb ho hr ic jc mc;have ic:=HF.out.it.cell;have jc:=HF.out.bn.cell;have mc:=HF.out.md.cell;have rr:=HR.out.cell))
   all_goals go_ret
   all_goals first | exact ⟨HF.out.bl,rfl⟩ | exact ⟨HF.out.bl,by simp⟩ | (refine ⟨HF.out.bl, ?_⟩;simp)
open Go.ChangeShapes Go.WideShapes Go.ChangeAt
theorem ints_of_trod{H:Type}{enc:TypeId×Value→H}{P:Program}{W:World}{sp:Nat→Bool}{hd:Bool}{t e:TypeId}{m fuel:Nat}{cs:List Value}{zs:List Int}{q:List MemPlace}(ht:P.underlying t=some (.array m e))(he:P.underlying e=some (.int .i64))(hc:P.cellsOf e=1)
  (hd':DataW.trod enc P W 0 sp hd fuel t cs=some (.agg (zs.map fun z=>.lit (.int .i64 z)),q)):∀ (i:Nat) (z:Int),zs[i]?=some z→cs[i]?=some (Value.int .i64 z):=by
 obtain ⟨xs,m1,rfl,hx,hlen,hxm,hel⟩:=DataW.trod_array ht hd'
 intro i z hz
 simp only[Prod.mk.injEq,DataW.agg.injEq]at hx
 have hl:zs.length=xs.length:=by have:=congrArg List.length hx.1;simpa using this
 have hi:i<zs.length:=(List.getElem?_eq_some_iff.1 hz).1
 have h1:=hel i (by omega)
 rw[hc,List.getElem?_eq_getElem (by omega:i<xs.length)]at h1
 obtain ⟨k,e1,e2,_⟩:=DataW.trod_int he h1
 have h2:(zs.map fun z=>(DataW.lit (.int .i64 z):DataW H))[i]?=(xs.map (·.1))[i]?:=by rw[hx.1]
 rw[List.getElem?_map,List.getElem?_map,hz,List.getElem?_eq_getElem (by omega:i<xs.length),Option.map_some,Option.map_some,e2]at h2
 have hk:k=z:=by simpa using h2.symm
 subst hk
 have h3:((cs.drop (i*1)).take 1)[0]?=some (.int .i64 k):=by rw[e1];rfl
 rw[List.getElem?_take,if_pos (by omega),List.getElem?_drop]at h3
 simpa using h3
def tabBytes:List Int:=[8,1,0,0,0,0,0,0,0,0,0,0,0,2,2,2,0,0]
def tabTakes:List Int:=[0,0,1,1,2,2,2,2,2,2,2,2,2,0,1,1,1,0]
def tabLays:List Int:=[1,1,1,1,1,1,1,1,1,1,1,1,1,0,0,0,0,0]
theorem tabBytes_eq:∀ c,c<18→tabBytes[c]?=some ((behindN c:Nat):Int):=by decide
theorem tabTakes_eq:∀ c,c<18→tabTakes[c]?=some ((takesN c:Nat):Int):=by decide
theorem tabLays_eq:∀ c,c<18→tabLays[c]?=some ((laysN c:Nat):Int):=by decide
theorem dBytes:(Rows.laid_slots_program_bytesBehind:DataW Unit)=.agg (tabBytes.map fun z=>.lit (.int .i64 z)):=rfl
theorem dTakes:(Rows.laid_slots_program_takes:DataW Unit)=.agg (tabTakes.map fun z=>.lit (.int .i64 z)):=rfl
theorem dLays:(Rows.laid_slots_program_lays:DataW Unit)=.agg (tabLays.map fun z=>.lit (.int .i64 z)):=rfl
def laidName(i:Nat):String:=((Rows.againRow.laid[i]?).map (·.1)).getD default
theorem gBytes:Tryz.prog.globalNamed (laidName 0)=some 0:=by kernel_rfl
theorem gTakes:Tryz.prog.globalNamed (laidName 1)=some 1:=by kernel_rfl
theorem gLays:Tryz.prog.globalNamed (laidName 2)=some 2:=by kernel_rfl
theorem tyBytes:(Tryz.prog.globals[0]?).map (·.type)=some 161:=by kernel_rfl
theorem tyTakes:(Tryz.prog.globals[1]?).map (·.type)=some 161:=by kernel_rfl
theorem tyLays:(Tryz.prog.globals[2]?).map (·.type)=some 161:=by kernel_rfl
theorem cellsInt:Tryz.prog.cellsOf 3=1:=by kernel_rfl
theorem table_of{W:World}{nm:String}{g t:Nat}{cs:Array Value}{fuel:Nat}{p:List MemPlace}{zs:List Int}{d:DataW Unit}(k:Nat)(hgk:Tryz.prog.globalNamed nm=some k)(htk:(Tryz.prog.globals[k]?).map (·.type)=some 161)(hd0:d=.agg (zs.map fun z=>.lit (.int .i64 z)))
  (hg:Tryz.prog.globalNamed nm=some g) (ht:(Tryz.prog.globals[g]?).map (·.type)=some t) (hv:W.var? Tryz.prog nm=some cs) (hd:DataW.trod (fun _=>()) Tryz.prog W 0 (fun _=>true) false fuel t cs.toList=some (d,p)) :
  ∀ (i:Nat) (z:Int),zs[i]?=some z→W.cell? ⟨k,i,none⟩=some (.int .i64 z):=by
 obtain rfl:=Option.some.inj (hgk.symm.trans hg)
 obtain rfl:=Option.some.inj (htk.symm.trans ht)
 subst hd0
 intro i z hz
 have h1:=ints_of_trod Tryz.underlying161 Tryz.underlying3 cellsInt hd i z hz
 rw[World.var?_cell hgk hv i]
 simpa using h1
end Go.Proofs.YtpcjadaeolkngaaGreatDoor
