/-
  rule: one more rule of a policy under way; with its feed's bytes.
-/
import Derived.Test.YtpcjadaeolkngaaGreatDoorJ49
import Derived.Test.YtpcjadaeolkngaaGreatDoorJ42
set_option linter.unusedVariables false
set_option linter.unusedSimpArgs false
namespace Go.Proofs.YtpcjadaeolkngaaGreatDoor
open Go.RowKit Go.Deep
set_option maxHeartbeats 8000000 in
set_option maxRecDepth 100000 in
theorem ruleG_any{C:Ctx→Prop}(mb fb:Nat)(x:Itm)(y:Bn)(l0 l1 l2 l3 l4 l5:Value)(st:Bool)(n:Nat)(hn:n≤5)(TE SU:Fd→PT)(hte:TestDoesG C mb fb x y l0 l1 l2 l3 l4 l5 st TE 56 4 16 27 1)(hsu:SumDoesG C mb fb x y l0 l1 l2 l3 l4 l5 st SU 83 5 34 41 n)(T:ByteArray)(K:Nat)(V:Int)(S:Nat)(d:Bool)(hT:T.size≤500)(hS:S≤5000)(hK:d=false→K=0∧V=0)(g:Fd)(w:World)(h:MakG w mb fb x y l0 l1 l2 l3 l4 l5 st g) :
  Calls Tryz.prog 21 #[.pointer (some ⟨mb,0,none⟩),.agg (mg T K V S),.bool d,.int .i64 n] w fun e w'=>∃ (T2:ByteArray) (K2:Nat) (V2:Int) (S2:Nat) (d2:Bool) (r:MadeR) (g':Fd),(RuleIs C T K V S d T2 K2 V2 S2 d2 r∧ruleG TE SU T g=(T2,g')∧e=.returned (.tuple #[.agg (mg T2 K2 V2 S2),.bool d2]))∧MakG w' mb fb x y l0 l1 l2 l3 l4 l5 st g'∧But fb w w':=by
 have HTE:Hid (∀ g w,MakG w mb fb x y l0 l1 l2 l3 l4 l5 st g→Calls Tryz.prog 40 #[.pointer (some ⟨mb,0,none⟩),.int .i64 1] w fun e w'=>∃ t b k g',(Pc C t b k 2 56 4 16 27 st∧TE g=(t,b,g')∧e=.returned (pcV t b k))∧MakG w' mb fb x y l0 l1 l2 l3 l4 l5 st g'∧But fb w w'):=hte
 have HSU:Hid (∀ g w,MakG w mb fb x y l0 l1 l2 l3 l4 l5 st g→Calls Tryz.prog 20 #[.pointer (some ⟨mb,0,none⟩),.int .i64 n] w fun e w'=>∃ t b k g',(Pc C t b k 1 83 5 34 41 st∧SU g=(t,b,g')∧e=.returned (pcV t b k))∧MakG w' mb fb x y l0 l1 l2 l3 l4 l5 st g'∧But fb w w'):=hsu
 have HR:=mH (ruG_start h (mg T K V S))
 have HK:=mH hK
 clear h hte hsu hK
 go_enter Tryz.func21,Tryz.ntmps21
 go_upto_region 2 with fail
 generalize (w.alloc (.cells (mg T K V S) 31)).alloc (.cells (mg ⟨#[]⟩ 0 0 0) 31)=W at HR ⊢
 obtain ⟨p,f,q,z,c0⟩:=HR.out.facts
 go_upto_if 18 with (go_at_call 19;refine (next_fed 4 (by omega) _ _ _ HR.out.mak.fed).mono ?_;rintro e w1 ⟨r,g1,⟨hg,hr0,hr5,rfl⟩,hF,hB⟩;have HG:=mH hg;clear hg;replace HR:=mH (HR.out.next hF hB);clear hF hB p f q z c0;obtain ⟨p,f,q,z,c0⟩:=HR.out.facts)
 go_cut [2,10] (fun s2 s10 wx=>∃ (T1:ByteArray) (K1:Nat) (V1:Int) (S1:Nat) (d1 a1:Bool) (o:OptP) (g':Fd),s2=.bool d1∧s10=.bool a1∧RuG w wx mb fb x y l0 l1 l2 l3 l4 l5 st g' (mg T1 K1 V1 S1)∧WhenIs C T K V S d T1 K1 V1 S1 d1 a1 o∧whenG TE T g=(T1,g'))
 case first =>
  by_cases hr:r=0
  ·subst hr
   go_wp2
   go_meet
   case rel=>exact ⟨T,K,V,S,d,true,none,g1,rfl,rfl,HR.out,when_none HK.out,whenG_no HG.out⟩
  ·have hr':decide (0<r)=true:=by simp;omega
   go_upto_region 4 with (first | (go_at_call 40;refine (HTE.out _ _ HR.out.mak).mono ?_;rintro e w2 ⟨tw,bw,kw,gw,⟨hpw,hew,rfl⟩,hM,hB⟩;have HEW:=mH hew;clear hew;obtain ⟨nw,fw,sw,iw⟩:=kw;unfold pcV pcA;have hlt:w.heap.size+1<w2.heap.size:=(HR.out.call hM hB).out.lt;replace HR:=mH ((HR.out.call hM hB).al (.cells (ag tw bw nw fw sw iw) 62));have HW:=mH (Blk.new w2 (ag tw bw nw fw sw iw) 62);have HPW:=mH hpw;clear hM hB hpw p f q z c0;obtain ⟨p,f,q,z,c0⟩:=HR.out.facts;have u:=HW.out.cell))
   have zw:=HPW.out.size
   have zs:=HPW.out.steps
   simp only at zs
   have y1:(9223372036854775807<T.size+5)=False:=by simp;omega
   have y2:(9223372036854775807<T.size+5+tw.size)=False:=by simp;omega
   have y3:(9223372036854775807<T.size+5+tw.size+1)=False:=by simp;omega
   have ne1:w2.heap.size≠w.heap.size:=by omega
   have ne2:w.heap.size≠w2.heap.size:=by omega
   cases d
   case true =>
    go_wp2
    go_meet
    case rel=>exact ⟨(T++⟨#[119,104,101,110,32]⟩++tw++⟨#[32]⟩),K,V,S,true,true,some (tw,⟨nw,fw,sw,iw⟩),gw,rfl,rfl,HR.out.setB 0 _,⟨when_txt T tw ⟨nw,fw,sw,iw⟩,(by rw[when_size];omega),fun E hE=>Pc.isO (C:=C) (E:=E) (p:=25) hE HPW.out (by decide) (by omega),(by omega),.inl ⟨rfl,rfl,rfl,rfl,rfl⟩⟩,whenG_yes HG.out hr HEW.out⟩
   case false =>
    have htr:=HPW.out.fit.truth rfl
    simp only at htr
    by_cases hfw:fw=0
    ·have d0:((fw:Int)==0)=true:=by simp;omega
     have d1:((fw:Int) != 0)=false:=by simp;omega
     have HFW:=mH hfw
     have HTR:=mH htr
     clear hfw htr
     cases iw
     ·go_wp2
      go_meet
      case rel =>
       obtain ⟨rfl,rfl⟩:=HK.out (by simp)
       exact ⟨(T++⟨#[119,104,101,110,32]⟩++tw++⟨#[32]⟩),0,0,S+sw+1,false,(nw==1),some (tw,⟨nw,fw,sw,false⟩),gw,rfl,rfl,((HR.out.setB 0 _).setB 3 _).setB 3 _,⟨when_txt T tw ⟨nw,fw,sw,false⟩,(by rw[when_size];omega),fun E hE=>Pc.isO (C:=C) (E:=E) (p:=25) hE HPW.out (by decide) (by omega),(by omega),.inr (.inr ⟨rfl,rfl,rfl,rfl,.inr ⟨tw,⟨nw,fw,sw,false⟩,rfl,HFW.out,HTR.out,rfl,by unfold whenW;rw[if_neg (by simp)];rfl⟩⟩)⟩,whenG_yes HG.out hr HEW.out⟩
     ·go_wp2
      go_meet
      case rel =>
       obtain ⟨rfl,rfl⟩:=HK.out (by simp)
       exact ⟨(T++⟨#[119,104,101,110,32]⟩++tw++⟨#[32]⟩),0,0,S,false,(nw==1),some (tw,⟨nw,fw,sw,true⟩),gw,rfl,rfl,HR.out.setB 0 _,⟨when_txt T tw ⟨nw,fw,sw,true⟩,(by rw[when_size];omega),fun E hE=>Pc.isO (C:=C) (E:=E) (p:=25) hE HPW.out (by decide) (by omega),(by omega),.inr (.inr ⟨rfl,rfl,rfl,rfl,.inr ⟨tw,⟨nw,fw,sw,true⟩,rfl,HFW.out,HTR.out,rfl,by unfold whenW;rw[if_pos ⟨rfl,HFW.out⟩];rfl⟩⟩)⟩,whenG_yes HG.out hr HEW.out⟩
    ·have d0:((fw:Int)==0)=false:=by simp;omega
     have d1:((fw:Int) != 0)=true:=by simp;omega
     have HFW:=mH hfw
     clear hfw htr
     cases iw
     all_goals go_wp2
     all_goals go_meet
     all_goals exact ⟨(T++⟨#[119,104,101,110,32]⟩++tw++⟨#[32]⟩),2,(fw:Int),S+sw,true,(nw==1),some (tw,⟨nw,fw,sw,_⟩),gw,rfl,rfl,(((HR.out.setB 0 _).setB 3 _).setB 1 _).setB 2 _,⟨when_txt T tw ⟨nw,fw,sw,_⟩,(by rw[when_size];omega),fun E hE=>Pc.isO (C:=C) (E:=E) (p:=25) hE HPW.out (by decide) (by omega),(by omega),.inr (.inl ⟨rfl,rfl,rfl,tw,⟨nw,fw,sw,_⟩,rfl,HFW.out,rfl,rfl⟩)⟩,whenG_yes HG.out hr HEW.out⟩
 case rest =>
  obtain ⟨T1,K1,V1,S1,d1,a1,o,g2,rfl,rfl,hR,hW,hWG⟩:=hcut
  clear HG
  have HWG:=mH hWG
  clear hWG
  clear HR p f q z c0 HTE
  have HR:=mH hR
  have HWI:=mH hW
  have z1:=hW.len
  have z2:=hW.stp
  clear hR hW
  obtain ⟨p,f,q,z,c0⟩:=HR.out.facts
  go_upto_if 73 with (go_at_call 19;refine (next_fed 4 (by omega) _ _ _ HR.out.mak.fed).mono ?_;rintro e w4 ⟨r2,g3,⟨hg,hs0,hs5,rfl⟩,hF,hB⟩;have HG:=mH hg;clear hg;replace HR:=mH (HR.out.next hF hB);clear hF hB p f q z c0;obtain ⟨p,f,q,z,c0⟩:=HR.out.facts)
  by_cases hr2:r2=1
  ·subst hr2
   have y1:(9223372036854775807<T1.size+7)=False:=by simp;omega
   have hz:(T1++⟨#[114,101,106,101,99,116,59]⟩).size≤T1.size+90:=by rw[rej_size];omega
   have HZ:=mH hz
   clear hz
   cases d1 <;> cases a1
   ·go_wp2
    obtain ⟨gg,hmk,hbl⟩:=(HR.out.setB 0 (.string (T1++⟨#[114,101,106,101,99,116,59]⟩))).fin (.string (T1++⟨#[114,101,106,101,99,116,59]⟩)) (.int .i64 K1) (.int .i64 V1) (.int .i64 S1)
    unfold finUG at gg hmk hbl
    exact bodyPost_ret (v:=.tuple #[.agg #[.string (T1++⟨#[114,101,106,101,99,116,59]⟩),.int .i64 K1,.int .i64 V1,.int .i64 S1],.bool false]) (by simp[results,Tryz.results21,go_sem,gg]) rfl ⟨(T1++⟨#[114,101,106,101,99,116,59]⟩),K1,V1,S1,false,_,g3,⟨HWI.out.skip (.inr rfl) none _ (rej_txt T1) HZ.out (fun E hE=>isO_none),ruleG_rej HWG.out HG.out,rfl⟩,hmk,hbl⟩
   ·have hK1:K1=0∧V1=0:=by
     rcases HWI.out.say with ⟨_,_,_,_,h⟩ | ⟨_,h,_⟩ | ⟨_,_,h1,h2,_⟩
     ·cases h
     ·cases h
     ·exact ⟨h1,h2⟩
    obtain ⟨rfl,rfl⟩:=hK1
    go_wp2
    obtain ⟨gg,hmk,hbl⟩:=((HR.out.setB 0 (.string (T1++⟨#[114,101,106,101,99,116,59]⟩))).setB 3 (.int .i64 ((S1:Int)+1))).fin (.string (T1++⟨#[114,101,106,101,99,116,59]⟩)) (.int .i64 0) (.int .i64 0) (.int .i64 ((S1:Int)+1))
    unfold finUG at gg hmk hbl
    exact bodyPost_ret (v:=.tuple #[.agg #[.string (T1++⟨#[114,101,106,101,99,116,59]⟩),.int .i64 0,.int .i64 0,.int .i64 ((S1:Int)+1)],.bool true]) (by simp[results,Tryz.results21,go_sem,gg]) rfl ⟨(T1++⟨#[114,101,106,101,99,116,59]⟩),0,0,(S1+1),true,_,g3,⟨HWI.out.act rfl rfl none _ (rej_txt T1) HZ.out (fun E hE=>isO_none) 0 0 1 (by decide) rfl,ruleG_rej HWG.out HG.out,rfl⟩,hmk,hbl⟩
   ·go_wp2
    obtain ⟨gg,hmk,hbl⟩:=(HR.out.setB 0 (.string (T1++⟨#[114,101,106,101,99,116,59]⟩))).fin (.string (T1++⟨#[114,101,106,101,99,116,59]⟩)) (.int .i64 K1) (.int .i64 V1) (.int .i64 S1)
    unfold finUG at gg hmk hbl
    exact bodyPost_ret (v:=.tuple #[.agg #[.string (T1++⟨#[114,101,106,101,99,116,59]⟩),.int .i64 K1,.int .i64 V1,.int .i64 S1],.bool true]) (by simp[results,Tryz.results21,go_sem,gg]) rfl ⟨(T1++⟨#[114,101,106,101,99,116,59]⟩),K1,V1,S1,true,_,g3,⟨HWI.out.skip (.inl rfl) none _ (rej_txt T1) HZ.out (fun E hE=>isO_none),ruleG_rej HWG.out HG.out,rfl⟩,hmk,hbl⟩
   ·go_wp2
    obtain ⟨gg,hmk,hbl⟩:=(HR.out.setB 0 (.string (T1++⟨#[114,101,106,101,99,116,59]⟩))).fin (.string (T1++⟨#[114,101,106,101,99,116,59]⟩)) (.int .i64 K1) (.int .i64 V1) (.int .i64 S1)
    unfold finUG at gg hmk hbl
    exact bodyPost_ret (v:=.tuple #[.agg #[.string (T1++⟨#[114,101,106,101,99,116,59]⟩),.int .i64 K1,.int .i64 V1,.int .i64 S1],.bool true]) (by simp[results,Tryz.results21,go_sem,gg]) rfl ⟨(T1++⟨#[114,101,106,101,99,116,59]⟩),K1,V1,S1,true,_,g3,⟨HWI.out.skip (.inl rfl) none _ (rej_txt T1) HZ.out (fun E hE=>isO_none),ruleG_rej HWG.out HG.out,rfl⟩,hmk,hbl⟩
  ·have hr2':(r2==1)=false:=by simpa using hr2
   go_upto_region 22 with (first | (go_at_call 20;refine (HSU.out _ _ HR.out.mak).mono ?_;rintro e w3 ⟨te,be,ke,ge,⟨hpe,hee,rfl⟩,hM,hB⟩;have HEE:=mH hee;clear hee;obtain ⟨ne,fe,se,ie⟩:=ke;unfold pcV pcA;have hlt:w.heap.size+1<w3.heap.size:=(HR.out.call hM hB).out.lt;replace HR:=mH ((HR.out.call hM hB).al (.cells (ag te be ne fe se ie) 62));have HE:=mH (Blk.new w3 (ag te be ne fe se ie) 62);have HPE:=mH hpe;clear hM hB hpe p f q z c0;obtain ⟨p,f,q,z,c0⟩:=HR.out.facts;have u:=HE.out.cell))
   have ze:=HPE.out.size
   have zs:=HPE.out.steps
   simp only at zs
   have y1:(9223372036854775807<T1.size+6)=False:=by simp;omega
   have y2:(9223372036854775807<T1.size+6+te.size)=False:=by simp;omega
   have y3:(9223372036854775807<T1.size+6+te.size+1)=False:=by simp;omega
   have ne1:w3.heap.size≠w.heap.size:=by omega
   have ne2:w.heap.size≠w3.heap.size:=by omega
   have hz:(T1++⟨#[115,99,111,114,101,32]⟩++te++⟨#[59]⟩).size≤T1.size+90:=by rw[sco_size];omega
   have HZ:=mH hz
   have HIS:Hid (∀ E,C E→IsO E (some (te.toList,(⟨ne,fe,se,ie⟩:Wo))) 1 50):=mH (fun E hE=>Pc.isO (C:=C) (E:=E) (p:=50) hE HPE.out (by decide) (by omega))
   clear hz
   cases d1 <;> cases a1
   ·go_wp2
    obtain ⟨gg,hmk,hbl⟩:=(HR.out.setB 0 (.string (T1++⟨#[115,99,111,114,101,32]⟩++te++⟨#[59]⟩))).fin (.string (T1++⟨#[115,99,111,114,101,32]⟩++te++⟨#[59]⟩)) (.int .i64 K1) (.int .i64 V1) (.int .i64 S1)
    unfold finUG at gg hmk hbl
    exact bodyPost_ret (v:=.tuple #[.agg #[.string (T1++⟨#[115,99,111,114,101,32]⟩++te++⟨#[59]⟩),.int .i64 K1,.int .i64 V1,.int .i64 S1],.bool false]) (by simp[results,Tryz.results21,go_sem,gg]) rfl ⟨(T1++⟨#[115,99,111,114,101,32]⟩++te++⟨#[59]⟩),K1,V1,S1,false,_,ge,⟨HWI.out.skip (.inr rfl) (some (te.toList,⟨ne,fe,se,ie⟩)) _ (sco_txt T1 te) HZ.out HIS.out,ruleG_sco HWG.out HG.out hr2 HEE.out,rfl⟩,hmk,hbl⟩
   ·have hK1:K1=0∧V1=0:=by
     rcases HWI.out.say with ⟨_,_,_,_,h⟩ | ⟨_,h,_⟩ | ⟨_,_,h1,h2,_⟩
     ·cases h
     ·cases h
     ·exact ⟨h1,h2⟩
    obtain ⟨rfl,rfl⟩:=hK1
    by_cases hfe:fe=0
    ·have d0:((fe:Int) != 0)=false:=by simp;omega
     have HFE:=mH hfe
     clear hfe
     go_upto_region 33 with fail
     have HR2:=(((((HR.out.setB 0 (.string (T1++⟨#[115,99,111,114,101,32]⟩++te++⟨#[59]⟩))).setB 3 (.int .i64 ((S1:Int)+se))).setB 3 (.int .i64 ((S1:Int)+se+1))).setB 1 (.int .i64 1)).setB 2 (.int .i64 ne))
     simp only[List.setIfInBounds_toArray,List.set_cons_zero,List.set_cons_succ]at HR2
     clear HR p f q z c0 u
     generalize ((((((w3.alloc (.cells (ag te be ne fe se ie) 62)).setCell ⟨w.heap.size,0,none⟩ (.string (T1++⟨#[115,99,111,114,101,32]⟩++te++⟨#[59]⟩))).setCell ⟨w.heap.size,3,none⟩ (.int .i64 ((S1:Int)+se))).setCell ⟨w.heap.size,3,none⟩ (.int .i64 ((S1:Int)+se+1))).setCell ⟨w.heap.size,1,none⟩ (.int .i64 1)).setCell ⟨w.heap.size,2,none⟩ (.int .i64 ne))=W5 at HR2 ⊢
     have HR:=mH HR2
     clear HR2
     obtain ⟨p,f,q,z,c0⟩:=HR.out.facts
     go_wp2
     obtain ⟨gg,hmk,hbl⟩:=HR.out.fin (.string (T1++⟨#[115,99,111,114,101,32]⟩++te++⟨#[59]⟩)) (.int .i64 1) (.int .i64 ne) (.int .i64 ((S1:Int)+se+1))
     unfold finUG at gg hmk hbl
     exact bodyPost_ret (v:=.tuple #[.agg #[.string (T1++⟨#[115,99,111,114,101,32]⟩++te++⟨#[59]⟩),.int .i64 1,.int .i64 ne,.int .i64 ((S1:Int)+se+1)],.bool true]) (by simp[results,Tryz.results21,go_sem,gg]) rfl ⟨(T1++⟨#[115,99,111,114,101,32]⟩++te++⟨#[59]⟩),1,ne,(S1+(se+1)),true,_,ge,⟨HWI.out.act rfl rfl (some (te.toList,⟨ne,fe,se,ie⟩)) _ (sco_txt T1 te) HZ.out HIS.out 1 ne (se+1) (by omega) (actO_fine (e:=⟨ne,fe,se,ie⟩) HFE.out),ruleG_sco HWG.out HG.out hr2 HEE.out,by rw[show (((S1+(se+1):Nat)):Int)=(S1:Int)+se+1 by omega];rfl⟩,hmk,hbl⟩
    ·have d0:((fe:Int) != 0)=true:=by simp;omega
     have HFE:=mH hfe
     clear hfe
     go_upto_region 29 with fail
     have HR2:=((((HR.out.setB 0 (.string (T1++⟨#[115,99,111,114,101,32]⟩++te++⟨#[59]⟩))).setB 3 (.int .i64 ((S1:Int)+se))).setB 1 (.int .i64 2)).setB 2 (.int .i64 fe))
     simp only[List.setIfInBounds_toArray,List.set_cons_zero,List.set_cons_succ]at HR2
     clear HR p f q z c0 u
     generalize (((((w3.alloc (.cells (ag te be ne fe se ie) 62)).setCell ⟨w.heap.size,0,none⟩ (.string (T1++⟨#[115,99,111,114,101,32]⟩++te++⟨#[59]⟩))).setCell ⟨w.heap.size,3,none⟩ (.int .i64 ((S1:Int)+se))).setCell ⟨w.heap.size,1,none⟩ (.int .i64 2)).setCell ⟨w.heap.size,2,none⟩ (.int .i64 fe))=W5 at HR2 ⊢
     have HR:=mH HR2
     clear HR2
     obtain ⟨p,f,q,z,c0⟩:=HR.out.facts
     go_wp2
     obtain ⟨gg,hmk,hbl⟩:=HR.out.fin (.string (T1++⟨#[115,99,111,114,101,32]⟩++te++⟨#[59]⟩)) (.int .i64 2) (.int .i64 (fe:Int)) (.int .i64 ((S1:Int)+se))
     unfold finUG at gg hmk hbl
     exact bodyPost_ret (v:=.tuple #[.agg #[.string (T1++⟨#[115,99,111,114,101,32]⟩++te++⟨#[59]⟩),.int .i64 2,.int .i64 (fe:Int),.int .i64 ((S1:Int)+se)],.bool true]) (by simp[results,Tryz.results21,go_sem,gg]) rfl ⟨(T1++⟨#[115,99,111,114,101,32]⟩++te++⟨#[59]⟩),2,(fe:Int),(S1+se),true,_,ge,⟨HWI.out.act rfl rfl (some (te.toList,⟨ne,fe,se,ie⟩)) _ (sco_txt T1 te) HZ.out HIS.out 2 fe se (by omega) (actO_bad (e:=⟨ne,fe,se,ie⟩) HFE.out),ruleG_sco HWG.out HG.out hr2 HEE.out,rfl⟩,hmk,hbl⟩
   ·go_wp2
    obtain ⟨gg,hmk,hbl⟩:=(HR.out.setB 0 (.string (T1++⟨#[115,99,111,114,101,32]⟩++te++⟨#[59]⟩))).fin (.string (T1++⟨#[115,99,111,114,101,32]⟩++te++⟨#[59]⟩)) (.int .i64 K1) (.int .i64 V1) (.int .i64 S1)
    unfold finUG at gg hmk hbl
    exact bodyPost_ret (v:=.tuple #[.agg #[.string (T1++⟨#[115,99,111,114,101,32]⟩++te++⟨#[59]⟩),.int .i64 K1,.int .i64 V1,.int .i64 S1],.bool true]) (by simp[results,Tryz.results21,go_sem,gg]) rfl ⟨(T1++⟨#[115,99,111,114,101,32]⟩++te++⟨#[59]⟩),K1,V1,S1,true,_,ge,⟨HWI.out.skip (.inl rfl) (some (te.toList,⟨ne,fe,se,ie⟩)) _ (sco_txt T1 te) HZ.out HIS.out,ruleG_sco HWG.out HG.out hr2 HEE.out,rfl⟩,hmk,hbl⟩
   ·go_wp2
    obtain ⟨gg,hmk,hbl⟩:=(HR.out.setB 0 (.string (T1++⟨#[115,99,111,114,101,32]⟩++te++⟨#[59]⟩))).fin (.string (T1++⟨#[115,99,111,114,101,32]⟩++te++⟨#[59]⟩)) (.int .i64 K1) (.int .i64 V1) (.int .i64 S1)
    unfold finUG at gg hmk hbl
    exact bodyPost_ret (v:=.tuple #[.agg #[.string (T1++⟨#[115,99,111,114,101,32]⟩++te++⟨#[59]⟩),.int .i64 K1,.int .i64 V1,.int .i64 S1],.bool true]) (by simp[results,Tryz.results21,go_sem,gg]) rfl ⟨(T1++⟨#[115,99,111,114,101,32]⟩++te++⟨#[59]⟩),K1,V1,S1,true,_,ge,⟨HWI.out.skip (.inl rfl) (some (te.toList,⟨ne,fe,se,ie⟩)) _ (sco_txt T1 te) HZ.out HIS.out,ruleG_sco HWG.out HG.out hr2 HEE.out,rfl⟩,hmk,hbl⟩
theorem RSay.nul{K K2 S S2:Nat}{V V2:Int}{d d2:Bool}{r:MadeR}(h:RSay K V S d K2 V2 S2 d2 r):d2=false→K2=0∧V2=0:=fun e=>by
 rcases h with ⟨_,_,_,_,rfl⟩ | ⟨_,rfl,_⟩ | ⟨_,_,h1,h2,_⟩
 ·cases e
 ·cases e
 ·exact ⟨h1,h2⟩
theorem none_numG{x:Itm}{y:Bn}(hx:x.Ok)(hy:y.Ok)(mb fb:Nat)(st:Bool):∀ g w,MakG w mb fb x y (.string { data:=#[] }) (.int .i64 0) (.int .i64 0) (.int .i64 0) (.int .i64 0) (.bool false) st g→Calls Tryz.prog 36 #[.pointer (some ⟨mb,0,none⟩)] w fun e w'=>∃ t k g',(Pc (fun E=>E=ctx0 x y) t 6 k 1 10 0 1 1 st∧numG st ⟨#[]⟩ g=(t,6,g')∧e=.returned (pcV t 6 k))∧MakG w' mb fb x y (.string { data:=#[] }) (.int .i64 0) (.int .i64 0) (.int .i64 0) (.int .i64 0) (.bool false) st g'∧But fb w w':=fun g w h=>by
 refine (numberG_any mb fb x y ⟨#[]⟩ 0 (fun h=>absurd rfl h) ⟨0,0,0,false⟩ st g w h).mono ?_
 rintro e w' ⟨t,k,g',⟨hn,hg,he⟩,h1,h2⟩
 exact ⟨t,k,g',⟨num_pc (fun E hE=>by subst hE;exact ⟨ctx0_ok x y,rfl,rfl⟩) hx hy (Nat.le_refl _) (Nat.le_refl _) (fun h=>absurd rfl h) hn,hg,he⟩,h1,h2⟩
theorem any_classG{C:Ctx→Prop}{x:Itm}{y:Bn}(hC:∀ E,C E→E.Ok∧E.x=x∧E.y=y)(hx:x.Ok)(hy:y.Ok)(mb fb:Nat)(l0 l1 l2 l3 l4 l5:Value)(st:Bool){L D P S:Nat}(h1:4≤L)(h2:1≤P)(h3:1≤S):ClassDoesG C mb fb x y l0 l1 l2 l3 l4 l5 st (classG st) L D P S:=fun g w h=>by
 refine (classG_any mb fb x y l0 l1 l2 l3 l4 l5 st g w h).mono ?_
 rintro e w' ⟨t,k,g',⟨hn,hg,he⟩,q1,q2⟩
 exact ⟨t,6,k,g',⟨(class_pc hC hx hy hn).mono h1 (Nat.zero_le _) h2 h3,hg,he⟩,q1,q2⟩
theorem SumDoesG.more{C:Ctx→Prop}{mb fb:Nat}{x:Itm}{y:Bn}{l0 l1 l2 l3 l4 l5:Value}{st:Bool}{F:Fd→PT}{L D P S L' D' P' S' n:Nat}(h:SumDoesG C mb fb x y l0 l1 l2 l3 l4 l5 st F L D P S n)(h1:L≤L')(h2:D≤D')(h3:P≤P')(h4:S≤S'):SumDoesG C mb fb x y l0 l1 l2 l3 l4 l5 st F L' D' P' S' n:=fun g w hw=>by
 refine (h g w hw).mono ?_
 rintro e w' ⟨t,b,k,g',⟨hp,hg,he⟩,q1,q2⟩
 exact ⟨t,b,k,g',⟨hp.mono h1 h2 h3 h4,hg,he⟩,q1,q2⟩
theorem TestDoesG.more{C:Ctx→Prop}{mb fb:Nat}{x:Itm}{y:Bn}{l0 l1 l2 l3 l4 l5:Value}{st:Bool}{F:Fd→PT}{L D P S L' D' P' S' n:Nat}(h:TestDoesG C mb fb x y l0 l1 l2 l3 l4 l5 st F L D P S n)(h1:L≤L')(h2:D≤D')(h3:P≤P')(h4:S≤S'):TestDoesG C mb fb x y l0 l1 l2 l3 l4 l5 st F L' D' P' S' n:=fun g w hw=>by
 refine (h g w hw).mono ?_
 rintro e w' ⟨t,b,k,g',⟨hp,hg,he⟩,q1,q2⟩
 exact ⟨t,b,k,g',⟨hp.mono h1 h2 h3 h4,hg,he⟩,q1,q2⟩
def sumT0(st:Bool)(lt:ByteArray):Fd→PT:=endS ⟨#[45]⟩ (numG st lt)
def sumT1(st:Bool)(lt:ByteArray):Fd→PT:=endS ⟨#[45]⟩ (midS (sumT0 st lt))
def sumT2(st:Bool)(lt:ByteArray):Fd→PT:=endS ⟨#[45]⟩ (midS (sumT1 st lt))
def testT1(st:Bool)(lt:ByteArray):Fd→PT:=endS ⟨#[110,111,116,32]⟩ (testS (classG st) (sumT0 st lt) (endS ⟨#[110,111,116,32]⟩ (testZ (classG st))))
theorem does7G{C:Ctx→Prop}{x:Itm}{y:Bn}(hC:∀ E,C E→E.Ok∧E.x=x∧E.y=y)(hx:x.Ok)(hy:y.Ok)(mb fb:Nat)(l0 l1 l2 l3 l4 l5:Value)(st:Bool)(lt:ByteArray)(P S:Nat)(hP:1≤P∧P≤6)(hS:1≤S∧S≤7)
  (hnum:∀ g w,MakG w mb fb x y l0 l1 l2 l3 l4 l5 st g→Calls Tryz.prog 36 #[.pointer (some ⟨mb,0,none⟩)] w fun e w'=>∃ t k g',(Pc C t 6 k 1 10 0 P S st∧numG st lt g=(t,6,g')∧e=.returned (pcV t 6 k))∧MakG w' mb fb x y l0 l1 l2 l3 l4 l5 st g'∧But fb w w') :
  SumDoesG C mb fb x y l0 l1 l2 l3 l4 l5 st (sumT1 st lt) 37 3 (2*P+4) (2*S+5) 1∧SumDoesG C mb fb x y l0 l1 l2 l3 l4 l5 st (sumT2 st lt) 83 5 (4*P+10) (4*S+13) 2∧TestDoesG C mb fb x y l0 l1 l2 l3 l4 l5 st (testT1 st lt) 56 4 16 27 1:=by
 obtain ⟨s0,s1,s2⟩:=sumG_does mb fb x y l0 l1 l2 l3 l4 l5 st P S hP.2 hS.2 (fun E hE=>(hC E hE).1) _ hnum
 have t0:=testG_zero mb fb x y l0 l1 l2 l3 l4 l5 st hC _ (any_classG hC hx hy mb fb l0 l1 l2 l3 l4 l5 st (Nat.le_refl _) (Nat.le_refl _) (Nat.le_refl _))
 have t1:=testG_succ mb fb x y l0 l1 l2 l3 l4 l5 st 21 2 7 12 0 (by omega) (by omega) (by omega) hC _ _ _ (any_classG hC hx hy mb fb l0 l1 l2 l3 l4 l5 st (by omega) (by omega) (by omega)) (s0.more (by omega) (by omega) (by omega) (by omega)) (t0.more (by omega) (by omega) (by omega) (by omega))
 exact ⟨s1,s2,t1⟩
structure PolG(x:Itm)(y:Bn)(mb fb:Nat)(l0 l1 l2 l3 l4 l5:Value)(C:Ctx→Prop)(T0 lt:ByteArray):Prop where
 fine:∀ (rs:List MadeR) (T:ByteArray),rs≠[]→rs.length≤2→(∀ r∈rs,∀ E,C E→IsO E r.1 2 25∧IsO E r.2 1 50)→T.toList=T0.toList++rulesT rs→T.size≤400→∃ L R,FineP T.toList x y (rulesO rs) L R
 len:T0.size≤47
 s2:SumDoesG C mb fb x y l0 l1 l2 l3 l4 l5 false (sumT2 false lt) 83 5 34 41 2
 s1:SumDoesG C mb fb x y l0 l1 l2 l3 l4 l5 false (sumT1 false lt) 83 5 34 41 1
 t1:TestDoesG C mb fb x y l0 l1 l2 l3 l4 l5 false (testT1 false lt) 56 4 16 27 1
theorem polG_none{x:Itm}{y:Bn}(hx:x.Ok)(hy:y.Ok)(mb fb:Nat):PolG x y mb fb (.string { data:=#[] }) (.int .i64 0) (.int .i64 0) (.int .i64 0) (.int .i64 0) (.bool false) (fun E=>E=ctx0 x y) ⟨#[]⟩ ⟨#[]⟩:=by
 obtain ⟨a,b,c⟩:=does7G (C:=fun E=>E=ctx0 x y) (fun E hE=>by subst hE;exact ⟨ctx0_ok x y,rfl,rfl⟩) hx hy mb fb (.string { data:=#[] }) (.int .i64 0) (.int .i64 0) (.int .i64 0) (.int .i64 0) (.bool false) false ⟨#[]⟩ 1 1 (by omega) (by omega) (none_numG hx hy mb fb false)
 refine ⟨fun rs T hne h2 hr ht hl=>?_,by decide,b.more (by omega) (by omega) (by omega) (by omega),a.more (by omega) (by omega) (by omega) (by omega),c⟩
 rw[show (⟨#[]⟩:ByteArray).toList=[] from toL_mk _,List.nil_append]at ht
 rw[ht]
 exact made_none (fun r h=>hr r h _ rfl) hne h2 (by rw[← ht,toList_length];exact hl)
def headG(s:ByteArray):ByteArray×ByteArray×Fd:=if (nx 3 (Fd.mk s 0)).1=1 then (⟨#[108,101,116,32,107,107,32,61,32]⟩++(sumT1 false ⟨#[]⟩ (nx 3 (Fd.mk s 0)).2).1++⟨#[59]⟩,⟨#[107,107]⟩,(sumT1 false ⟨#[]⟩ (nx 3 (Fd.mk s 0)).2).2.2) else (⟨#[]⟩,⟨#[]⟩,(nx 3 (Fd.mk s 0)).2)
theorem headG_no{s:ByteArray}{r:Int}{g:Fd}(h:nx 3 (Fd.mk s 0)=(r,g))(hr:¬ r=1):headG s=(⟨#[]⟩,⟨#[]⟩,g):=by
 unfold headG
 rw[h]
 simp only
 rw[if_neg hr]
theorem headG_yes{s te:ByteArray}{be:Nat}{g g2:Fd}(h:nx 3 (Fd.mk s 0)=(1,g))(ht:sumT1 false ⟨#[]⟩ g=(te,be,g2)):headG s=(⟨#[108,101,116,32,107,107,32,61,32]⟩++te++⟨#[59]⟩,⟨#[107,107]⟩,g2):=by
 unfold headG
 rw[h]
 simp only
 rw[if_pos trivial,ht]
def twoG(lt:ByteArray)(r:Int)(p:ByteArray×Fd):ByteArray:=if r=1 then (ruleG (testT1 false lt) (sumT1 false lt) p.1 p.2).1 else p.1
def polT(s:ByteArray):ByteArray:=twoG (headG s).2.1 (nx 2 (headG s).2.2).1 (ruleG (testT1 false (headG s).2.1) (sumT2 false (headG s).2.1) (headG s).1 (nx 2 (headG s).2.2).2)
theorem polT_one{s T0 lt T1:ByteArray}{g g1 g2:Fd}{r:Int}(h0:headG s=(T0,lt,g))(h1:nx 2 g=(r,g1))(hr:¬ r=1)(h2:ruleG (testT1 false lt) (sumT2 false lt) T0 g1=(T1,g2)):polT s=T1:=by
 unfold polT
 rw[h0]
 simp only
 rw[h1]
 simp only
 rw[h2]
 unfold twoG
 rw[if_neg hr]
theorem polT_two{s T0 lt T1 T2:ByteArray}{g g1 g2 g3:Fd}{r:Int}(h0:headG s=(T0,lt,g))(h1:nx 2 g=(r,g1))(hr:r=1)(h2:ruleG (testT1 false lt) (sumT2 false lt) T0 g1=(T1,g2))(h3:ruleG (testT1 false lt) (sumT1 false lt) T1 g2=(T2,g3)):polT s=T2:=by
 unfold polT
 rw[h0]
 simp only
 rw[h1]
 simp only
 rw[h2]
 unfold twoG
 rw[if_pos hr,h3]
def letB(t:ByteArray):ByteArray:=⟨#[108,101,116,32,107,107,32,61,32]⟩++t++⟨#[59]⟩
theorem letB_list(t:ByteArray):(letB t).toList=letT t.toList++[59]:=by
 unfold letB
 rw[toL_app,toL_app,show (⟨#[108,101,116,32,107,107,32,61,32]⟩:ByteArray).toList=[108,101,116,32,107,107,32,61,32] from toL_mk _,show (⟨#[59]⟩:ByteArray).toList=[59] from toL_mk _]
 simp[letT,cLet,cKk,cEq]
theorem letB_size(t:ByteArray):(letB t).size=t.size+10:=by
 have e1:(⟨#[108,101,116,32,107,107,32,61,32]⟩:ByteArray).size=9:=rfl
 have e2:(⟨#[59]⟩:ByteArray).size=1:=rfl
 unfold letB
 rw[ByteArray.size_append,ByteArray.size_append,e1,e2]
 omega
theorem polG_some{x:Itm}{y:Bn}(hx:x.Ok)(hy:y.Ok)(mb fb:Nat){t:ByteArray}{b:Nat}{k:Wo}(hp:Pc (fun E=>E=ctx0 x y) t b k 1 37 3 6 7 false):PolG x y mb fb (.string ⟨#[107,107]⟩) (.int .i64 6) (.int .i64 k.v) (.int .i64 k.flt) (.int .i64 k.steps) (.bool k.fix) (fun E=>∃ n,n≤6∧E=ctx1 x y k n) (letB t) ⟨#[107,107]⟩:=by
 have hCC:∀ E,(fun E=>∃ n,n≤6∧E=ctx1 x y k n) E→E.Ok∧E.x=x∧E.y=y:=fun E hE=>by
  obtain ⟨n,_,rfl⟩:=hE
  exact ⟨ctx1_ok x y k n,rfl,rfl⟩
 have hkk:Pc (fun E=>∃ n,n≤6∧E=ctx1 x y k n) ⟨#[107,107]⟩ 6 k 1 10 0 6 7 false:=by
  refine ⟨⟨0,by simp[brB],fun E hE=>?_⟩,by decide,by omega,by omega,hp.fit,hp.steps,hp.one,fun h=>by cases h⟩
  obtain ⟨n,hn,rfl⟩:=hE
  rw[show (⟨#[107,107]⟩:ByteArray).toList=cKk from toL_mk _]
  exact (kk_is x y k n).mono (Nat.le_refl _) (Nat.le_refl _) hn
 obtain ⟨a,bb,c⟩:=does7G hCC hx hy mb fb (.string ⟨#[107,107]⟩) (.int .i64 6) (.int .i64 k.v) (.int .i64 k.flt) (.int .i64 k.steps) (.bool k.fix) false ⟨#[107,107]⟩ 6 7 (by omega) (by omega) (fun g w h=>by
  refine (numberG_any mb fb x y ⟨#[107,107]⟩ 6 (fun _=>rfl) k false g w h).mono ?_
  rintro e w' ⟨t',k',g',⟨hn,hg,he⟩,h1,h2⟩
  exact ⟨t',k',g',⟨num_pc hCC hx hy (by omega) (by omega) (fun _=>hkk) hn,hg,he⟩,h1,h2⟩)
 refine ⟨fun rs T hne h2 hr ht hl=>?_,by rw[letB_size];have:=hp.size;omega,bb.more (by omega) (by omega) (by omega) (by omega),a.more (by omega) (by omega) (by omega) (by omega),c⟩
 rw[letB_list]at ht
 rw[ht]
 obtain ⟨dd,hd,hi⟩:=hp.is
 exact made_some ((hi _ rfl).mono hp.b1 (by omega) (Nat.le_refl _)) (fun n hn r h=>hr r h _ ⟨n,hn,rfl⟩) hne h2 (by rw[← ht,toList_length];exact hl)
structure PoG(w wx:World)(x:Itm)(y:Bn)(l0 l1 l2 l3 l4 l5:Value)(g:Fd)(c:Array Value):Prop where
 mak:MakG wx (w.heap.size+1+1+1+1) (w.heap.size+1+1+1) x y l0 l1 l2 l3 l4 l5 false g
 out:Blk wx (w.heap.size+1+1) (mg ⟨#[]⟩ 0 0 0) 31
 pp:Blk wx (w.heap.size+1+1+1+1+1) c 31
 bl:Below w.heap.size w wx
theorem size_al(w:World)(o:Obj):(w.alloc o).heap.size=w.heap.size+1:=by simp
section
variable {w wx w':World} {x:Itm} {y:Bn} {l0 l1 l2 l3 l4 l5:Value} {g g':Fd} {c:Array Value}
theorem poG_start(w:World)(x:Itm)(y:Bn)(s:ByteArray)(hs:s.size≤maxLen):PoG w ((((((w.alloc (.cells #[.int .i64 x.size,.int .i64 x.speed,.int .i64 x.need] 23)).alloc (.cells #[.int .i64 y.id,.int .i64 y.zone,.int .i64 y.cap,.int .i64 y.used,.int .i64 y.has] 25)).alloc (.cells (mg ⟨#[]⟩ 0 0 0) 31)).alloc (.cells #[.string s,.int .i64 0] 59)).alloc (.cells #[.pointer (some ⟨w.heap.size+1+1+1,0,none⟩),.int .i64 x.size,.int .i64 x.speed,.int .i64 x.need,.int .i64 y.id,.int .i64 y.zone,.int .i64 y.cap,.int .i64 y.used,.int .i64 y.has,.string { data:=#[] },.int .i64 0,.int .i64 0,.int .i64 0,.int .i64 0,.bool false,.bool false] 64)).alloc (.cells (mg ⟨#[]⟩ 0 0 0) 31)) x y (.string { data:=#[] }) (.int .i64 0) (.int .i64 0) (.int .i64 0) (.int .i64 0) (.bool false) (Fd.mk s 0) (mg ⟨#[]⟩ 0 0 0):=by
 have a3:=Blk.new ((w.alloc (.cells #[.int .i64 x.size,.int .i64 x.speed,.int .i64 x.need] 23)).alloc (.cells #[.int .i64 y.id,.int .i64 y.zone,.int .i64 y.cap,.int .i64 y.used,.int .i64 y.has] 25)) (mg ⟨#[]⟩ 0 0 0) 31
 have a4:=Blk.new (((w.alloc (.cells #[.int .i64 x.size,.int .i64 x.speed,.int .i64 x.need] 23)).alloc (.cells #[.int .i64 y.id,.int .i64 y.zone,.int .i64 y.cap,.int .i64 y.used,.int .i64 y.has] 25)).alloc (.cells (mg ⟨#[]⟩ 0 0 0) 31)) #[.string s,.int .i64 0] 59
 have a5:=Blk.new ((((w.alloc (.cells #[.int .i64 x.size,.int .i64 x.speed,.int .i64 x.need] 23)).alloc (.cells #[.int .i64 y.id,.int .i64 y.zone,.int .i64 y.cap,.int .i64 y.used,.int .i64 y.has] 25)).alloc (.cells (mg ⟨#[]⟩ 0 0 0) 31)).alloc (.cells #[.string s,.int .i64 0] 59)) #[.pointer (some ⟨w.heap.size+1+1+1,0,none⟩),.int .i64 x.size,.int .i64 x.speed,.int .i64 x.need,.int .i64 y.id,.int .i64 y.zone,.int .i64 y.cap,.int .i64 y.used,.int .i64 y.has,.string { data:=#[] },.int .i64 0,.int .i64 0,.int .i64 0,.int .i64 0,.bool false,.bool false] 64
 have a6:=Blk.new (((((w.alloc (.cells #[.int .i64 x.size,.int .i64 x.speed,.int .i64 x.need] 23)).alloc (.cells #[.int .i64 y.id,.int .i64 y.zone,.int .i64 y.cap,.int .i64 y.used,.int .i64 y.has] 25)).alloc (.cells (mg ⟨#[]⟩ 0 0 0) 31)).alloc (.cells #[.string s,.int .i64 0] 59)).alloc (.cells #[.pointer (some ⟨w.heap.size+1+1+1,0,none⟩),.int .i64 x.size,.int .i64 x.speed,.int .i64 x.need,.int .i64 y.id,.int .i64 y.zone,.int .i64 y.cap,.int .i64 y.used,.int .i64 y.has,.string { data:=#[] },.int .i64 0,.int .i64 0,.int .i64 0,.int .i64 0,.bool false,.bool false] 64)) (mg ⟨#[]⟩ 0 0 0) 31
 simp only[size_al]at a3 a4 a5 a6
 refine ⟨⟨a5.alloc _,⟨(a4.alloc _).alloc _,Nat.zero_le _,hs⟩,by omega⟩,((a3.alloc _).alloc _).alloc _,a6, ?_⟩
 exact ((((((Below.refl w.heap.size w).alloc (Nat.le_refl _) _).alloc (by simp) _).alloc (by simp;omega) _).alloc (by simp;omega) _).alloc (by simp;omega) _).alloc (by simp;omega) _
theorem PoG.call(h:PoG w wx x y l0 l1 l2 l3 l4 l5 g c)(hM:MakG w' (w.heap.size+1+1+1+1) (w.heap.size+1+1+1) x y l0 l1 l2 l3 l4 l5 false g')(hB:But (w.heap.size+1+1+1) wx w'):PoG w w' x y l0 l1 l2 l3 l4 l5 g' c :=
 ⟨hM,h.out.but hB (by omega),h.pp.but hB (by omega),h.bl.trans (hB.below (by omega) h.bl.size)⟩
theorem PoG.next(h:PoG w wx x y l0 l1 l2 l3 l4 l5 g c)(hF:FedAt w' (w.heap.size+1+1+1) g')(hB:But (w.heap.size+1+1+1) wx w'):PoG w w' x y l0 l1 l2 l3 l4 l5 g' c:=h.call (h.mak.next hF hB) hB
theorem PoG.al(h:PoG w wx x y l0 l1 l2 l3 l4 l5 g c)(o:Obj):PoG w (wx.alloc o) x y l0 l1 l2 l3 l4 l5 g c:=h.call (h.mak.below (box3 wx o)) (But.of (box3 wx o))
theorem PoG.setP(h:PoG w wx x y l0 l1 l2 l3 l4 l5 g c)(i:Nat)(v:Value):PoG w (wx.setCell ⟨w.heap.size+1+1+1+1+1,i,none⟩ v) x y l0 l1 l2 l3 l4 l5 g (c.setIfInBounds i v) :=
 ⟨⟨h.mak.blk.other _ _ (by simp only;omega),h.mak.fed.other _ _ _ (by omega),h.mak.ne⟩,h.out.other _ _ (by simp only;omega),h.pp.set i v,h.bl.setCell (p:=⟨w.heap.size+1+1+1+1+1,i,none⟩) (by simp only;omega) v⟩
theorem PoG.facts(h:PoG w wx x y l0 l1 l2 l3 l4 l5 g c):(∀ i,wx.cell? ⟨w.heap.size+1+1+1+1+1,i,none⟩=c[i]?)∧(∀ i,wx.frozen? ⟨w.heap.size+1+1+1+1+1,i,none⟩=false)∧(∀ i,wx.cell? ⟨w.heap.size+1+1,i,none⟩=(mg ⟨#[]⟩ 0 0 0)[i]?)∧(∀ i,wx.frozen? ⟨w.heap.size+1+1,i,none⟩=false)∧(∀ i,wx.frozen? ⟨w.heap.size+1+1+1+1,i,none⟩=false)∧wx.cell? ⟨w.heap.size+1+1+1+1,0,none⟩=some (.pointer (some ⟨w.heap.size+1+1+1,0,none⟩)):=⟨h.pp.cell,h.pp.free,h.out.cell,h.out.free,h.mak.blk.free,h.mak.blk.cell 0⟩
theorem PoG.let(h:PoG w wx x y l0 l1 l2 l3 l4 l5 g c)(a0 a1 a2 a3 a4 a5:Value):PoG w ((((((wx.setCell ⟨w.heap.size+1+1+1+1,9,none⟩ a0).setCell ⟨w.heap.size+1+1+1+1,10,none⟩ a1).setCell ⟨w.heap.size+1+1+1+1,11,none⟩ a2).setCell ⟨w.heap.size+1+1+1+1,12,none⟩ a3).setCell ⟨w.heap.size+1+1+1+1,13,none⟩ a4).setCell ⟨w.heap.size+1+1+1+1,14,none⟩ a5) x y a0 a1 a2 a3 a4 a5 g c:=by
 have hb:=(((((h.mak.blk.set 9 a0).set 10 a1).set 11 a2).set 12 a3).set 13 a4).set 14 a5
 have ho:∀ (wz:World) (b:Nat) (cs:Array Value) (t:TypeId) (i:Nat) (v:Value),b≠w.heap.size+1+1+1+1→Blk wz b cs t→Blk (wz.setCell ⟨w.heap.size+1+1+1+1,i,none⟩ v) b cs t:=fun wz b cs t i v hne hz=>hz.other _ _ (by simp only;omega)
 have hf:∀ (wz:World) (i:Nat) (v:Value),FedAt wz (w.heap.size+1+1+1) g→FedAt (wz.setCell ⟨w.heap.size+1+1+1+1,i,none⟩ v) (w.heap.size+1+1+1) g:=fun wz i v hz=>hz.other _ _ _ (by omega)
 have hs:∀ (wz:World) (i:Nat) (v:Value),Below w.heap.size w wz→Below w.heap.size w (wz.setCell ⟨w.heap.size+1+1+1+1,i,none⟩ v):=fun wz i v hz=>hz.setCell (p:=⟨w.heap.size+1+1+1+1,i,none⟩) (by simp only;omega) v
 exact ⟨⟨hb,hf _ _ _ (hf _ _ _ (hf _ _ _ (hf _ _ _ (hf _ _ _ (hf _ _ _ h.mak.fed))))),h.mak.ne⟩,ho _ _ _ _ _ _ (by omega) (ho _ _ _ _ _ _ (by omega) (ho _ _ _ _ _ _ (by omega) (ho _ _ _ _ _ _ (by omega) (ho _ _ _ _ _ _ (by omega) (ho _ _ _ _ _ _ (by omega) h.out))))),ho _ _ _ _ _ _ (by omega) (ho _ _ _ _ _ _ (by omega) (ho _ _ _ _ _ _ (by omega) (ho _ _ _ _ _ _ (by omega) (ho _ _ _ _ _ _ (by omega) (ho _ _ _ _ _ _ (by omega) h.pp))))),hs _ _ _ (hs _ _ _ (hs _ _ _ (hs _ _ _ (hs _ _ _ (hs _ _ _ h.bl)))))⟩
def finVG(w wx:World)(a b c d:Value):World:=(((wx.setCell ⟨w.heap.size+1+1,0,none⟩ a).setCell ⟨w.heap.size+1+1,1,none⟩ b).setCell ⟨w.heap.size+1+1,2,none⟩ c).setCell ⟨w.heap.size+1+1,3,none⟩ d
theorem PoG.fin(h:PoG w wx x y l0 l1 l2 l3 l4 l5 g c)(a b k d:Value):(∀ i,(finVG w wx a b k d).cell? ⟨w.heap.size+1+1,i,none⟩=#[a,b,k,d][i]?)∧Below w.heap.size w (finVG w wx a b k d) :=
 ⟨((((h.out.set 0 a).set 1 b).set 2 k).set 3 d).cell,(((h.bl.setCell (p:=⟨w.heap.size+1+1,0,none⟩) (by simp only;omega) a).setCell (p:=⟨w.heap.size+1+1,1,none⟩) (by simp only;omega) b).setCell (p:=⟨w.heap.size+1+1,2,none⟩) (by simp only;omega) k).setCell (p:=⟨w.heap.size+1+1,3,none⟩) (by simp only;omega) d⟩
end
end Go.Proofs.YtpcjadaeolkngaaGreatDoor
