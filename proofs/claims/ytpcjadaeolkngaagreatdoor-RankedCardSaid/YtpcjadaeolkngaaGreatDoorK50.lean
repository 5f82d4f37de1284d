/-
  rule: one more rule of a policy under way; with its feed's bytes.
-/
import Derived.Test.YtpcjadaeolkngaaGreatDoorK49
set_option linter.unusedVariables false
set_option linter.unusedSimpArgs false
namespace Go.Proofs.YtpcjadaeolkngaaGreatDoor
open Go.RowKit Go.Deep
set_option maxHeartbeats 8000000 in
set_option maxRecDepth 100000 in
theorem ruleG_any {C:Ctx→Prop} (mb fb:Nat) (x:Itm) (y:Bn) (l0 l1 l2 l3 l4 l5:Value) (st:Bool) (n:Nat) (hn:n≤5) (TE SU:Fd→PT) (hte:TestDoesG C mb fb x y l0 l1 l2 l3 l4 l5 st TE 56 4 16 27 1) (hsu:SumDoesG C mb fb x y l0 l1 l2 l3 l4 l5 st SU 83 5 34 41 n) (T:ByteArray) (K:Nat) (V:Int) (S:Nat) (d:Bool) (hT:T.size≤500) (hS:S≤5000) (hK:d=false→K=0∧V=0) (g:Fd) (w:World) (h:MakG w mb fb x y l0 l1 l2 l3 l4 l5 st g) :
  Calls Tryz.prog 21 #[.pointer (some ⟨mb,0,none⟩),.agg (mg T K V S),.bool d,.int .i64 n] w fun e w'=>∃ (T2:ByteArray) (K2:Nat) (V2:Int) (S2:Nat) (d2:Bool) (r:MadeR) (g':Fd),(RuleIs C T K V S d T2 K2 V2 S2 d2 r∧ruleG TE SU T g=(T2,g')∧e=.returned (.tuple #[.agg (mg T2 K2 V2 S2),.bool d2]))∧MakG w' mb fb x y l0 l1 l2 l3 l4 l5 st g'∧But fb w w':=by
 have HTE:Hid (∀ g w,MakG w mb fb x y l0 l1 l2 l3 l4 l5 st g→Calls Tryz.prog 40 #[.pointer (some ⟨mb,0,none⟩),.int .i64 1] w fun e w'=>∃ t b k g',(Pc C t b k 2 56 4 16 27 st∧TE g=(t,b,g')∧e=.returned (pcV t b k))∧MakG w' mb fb x y l0 l1 l2 l3 l4 l5 st g'∧But fb w w'):=hte
 have HSU:Hid (∀ g w,MakG w mb fb x y l0 l1 l2 l3 l4 l5 st g→Calls Tryz.prog 20 #[.pointer (some ⟨mb,0,none⟩),.int .i64 n] w fun e w'=>∃ t b k g',(Pc C t b k 1 83 5 34 41 st∧SU g=(t,b,g')∧e=.returned (pcV t b k))∧MakG w' mb fb x y l0 l1 l2 l3 l4 l5 st g'∧But fb w w'):=hsu
 have HR:=Hid.mk2 (ruG_start h (mg T K V S))
 have HK:=Hid.mk2 hK
 clear h hte hsu hK
 go_enter Tryz.func21,Tryz.ntmps21
 go_upto_region 2 with fail
 generalize (w.alloc (.cells (mg T K V S) 31)).alloc (.cells (mg ⟨#[]⟩ 0 0 0) 31)=W at HR ⊢
 obtain ⟨p,f,q,z,c0⟩:=HR.out.facts
 go_upto_if 18 with (go_at_call 19;refine (next_fed 4 (by omega) _ _ _ HR.out.mak.fed).mono ?_;rintro e w1 ⟨r,g1,⟨hg,hr0,hr5,rfl⟩,hF,hB⟩;have HG:=Hid.mk2 hg;clear hg;replace HR:=Hid.mk2 (HR.out.next hF hB);clear hF hB p f q z c0;obtain ⟨p,f,q,z,c0⟩:=HR.out.facts)
 go_cut [2,10] (fun s2 s10 wx=>∃ (T1:ByteArray) (K1:Nat) (V1:Int) (S1:Nat) (d1 a1:Bool) (o:OptP) (g':Fd),s2=.bool d1∧s10=.bool a1∧RuG w wx mb fb x y l0 l1 l2 l3 l4 l5 st g' (mg T1 K1 V1 S1)∧WhenIs C T K V S d T1 K1 V1 S1 d1 a1 o∧whenG TE T g=(T1,g'))
 case first =>
  by_cases hr:r=0
  ·subst hr
   go_wp2
   go_meet
   case rel=>exact ⟨T,K,V,S,d,true,none,g1,rfl,rfl,HR.out,when_none HK.out,whenG_no HG.out⟩
  ·have hr':decide (0 < r)=true:=by simp;omega
   go_upto_region 4 with (first | (go_at_call 40;refine (HTE.out _ _ HR.out.mak).mono ?_;rintro e w2 ⟨tw,bw,kw,gw,⟨hpw,hew,rfl⟩,hM,hB⟩;have HEW:=Hid.mk2 hew;clear hew;obtain ⟨nw,fw,sw,iw⟩:=kw;unfold pcV pcA;have hlt:w.heap.size+1 < w2.heap.size:=(HR.out.call hM hB).out.lt;replace HR:=Hid.mk2 ((HR.out.call hM hB).al (.cells (ag tw bw nw fw sw iw) 62));have HW:=Hid.mk2 (Blk.new w2 (ag tw bw nw fw sw iw) 62);have HPW:=Hid.mk2 hpw;clear hM hB hpw p f q z c0;obtain ⟨p,f,q,z,c0⟩:=HR.out.facts;have u:=HW.out.cell))
   have zw:=HPW.out.size
   have zs:=HPW.out.steps
   simp only at zs
   have y1:(9223372036854775807 < T.size+5)=False:=by simp;omega
   have y2:(9223372036854775807 < T.size+5+tw.size)=False:=by simp;omega
   have y3:(9223372036854775807 < T.size+5+tw.size+1)=False:=by simp;omega
   have ne1:w2.heap.size≠w.heap.size:=by omega
   have ne2:w.heap.size≠w2.heap.size:=by omega
   cases d
   case true =>
    go_wp2
    go_meet
    case rel=>exact ⟨(T++⟨#[119,104,101,110,32]⟩++tw++⟨#[32]⟩),K,V,S,true,true,some (tw,⟨nw,fw,sw,iw⟩),gw,rfl,rfl,HR.out.setB 0 _,⟨when_txt T tw ⟨nw,fw,sw,iw⟩,(by rw[when_size];omega),fun E hE=>Pc.isO (C:=C) (E:=E) (p:=25) hE HPW.out (by decide) (by omega),(by omega),.inl ⟨rfl,rfl,rfl,rfl,rfl⟩⟩,whenG_yes HG.out hr HEW.out⟩
   case false =>
    have htr:=HPW.out.fit.truth rfl
    simp only at htr
    by_cases hfw:fw=0
    ·have d0:((fw:Int)==0)=true:=by simp;omega
     have d1:((fw:Int) != 0)=false:=by simp;omega
     have HFW:=Hid.mk2 hfw
     have HTR:=Hid.mk2 htr
     clear hfw htr
     cases iw
     ·go_wp2
      go_meet
      case rel =>
       obtain ⟨rfl,rfl⟩:=HK.out (by simp)
       exact ⟨(T++⟨#[119,104,101,110,32]⟩++tw++⟨#[32]⟩),0,0,S+sw+1,false,(nw==1),some (tw,⟨nw,fw,sw,false⟩),gw,rfl,rfl,((HR.out.setB 0 _).setB 3 _).setB 3 _,⟨when_txt T tw ⟨nw,fw,sw,false⟩,(by rw[when_size];omega),fun E hE=>Pc.isO (C:=C) (E:=E) (p:=25) hE HPW.out (by decide) (by omega),(by omega),.inr (.inr ⟨rfl,rfl,rfl,rfl,.inr ⟨tw,⟨nw,fw,sw,false⟩,rfl,HFW.out,HTR.out,rfl,by unfold whenW;rw[if_neg (by simp)];rfl⟩⟩)⟩,whenG_yes HG.out hr HEW.out⟩
     ·go_wp2
      go_meet
      case rel =>
       obtain ⟨rfl,rfl⟩:=HK.out (by simp)
       exact ⟨(T++⟨#[119,104,101,110,32]⟩++tw++⟨#[32]⟩),0,0,S,false,(nw==1),some (tw,⟨nw,fw,sw,true⟩),gw,rfl,rfl,HR.out.setB 0 _,⟨when_txt T tw ⟨nw,fw,sw,true⟩,(by rw[when_size];omega),fun E hE=>Pc.isO (C:=C) (E:=E) (p:=25) hE HPW.out (by decide) (by omega),(by omega),.inr (.inr ⟨rfl,rfl,rfl,rfl,.inr ⟨tw,⟨nw,fw,sw,true⟩,rfl,HFW.out,HTR.out,rfl,by unfold whenW;rw[if_pos ⟨rfl,HFW.out⟩];rfl⟩⟩)⟩,whenG_yes HG.out hr HEW.out⟩
    ·have d0:((fw:Int)==0)=false:=by simp;omega
     have d1:((fw:Int) != 0)=true:=by simp;omega
     have HFW:=Hid.mk2 hfw
     clear hfw htr
     cases iw
     all_goals go_wp2
     all_goals go_meet
     all_goals exact ⟨(T++⟨#[119,104,101,110,32]⟩++tw++⟨#[32]⟩),2,(fw:Int),S+sw,true,(nw==1),some (tw,⟨nw,fw,sw,_⟩),gw,rfl,rfl,(((HR.out.setB 0 _).setB 3 _).setB 1 _).setB 2 _,⟨when_txt T tw ⟨nw,fw,sw,_⟩,(by rw[when_size];omega),fun E hE=>Pc.isO (C:=C) (E:=E) (p:=25) hE HPW.out (by decide) (by omega),(by omega),.inr (.inl ⟨rfl,rfl,rfl,tw,⟨nw,fw,sw,_⟩,rfl,HFW.out,rfl,rfl⟩)⟩,whenG_yes HG.out hr HEW.out⟩
 case rest =>
  obtain ⟨T1,K1,V1,S1,d1,a1,o,g2,rfl,rfl,hR,hW,hWG⟩:=hcut
  clear HG
  have HWG:=Hid.mk2 hWG
  clear hWG
  clear HR p f q z c0 HTE
  have HR:=Hid.mk2 hR
  have HWI:=Hid.mk2 hW
  have z1:=hW.len
  have z2:=hW.stp
  clear hR hW
  obtain ⟨p,f,q,z,c0⟩:=HR.out.facts
  go_upto_if 73 with (go_at_call 19;refine (next_fed 4 (by omega) _ _ _ HR.out.mak.fed).mono ?_;rintro e w4 ⟨r2,g3,⟨hg,hs0,hs5,rfl⟩,hF,hB⟩;have HG:=Hid.mk2 hg;clear hg;replace HR:=Hid.mk2 (HR.out.next hF hB);clear hF hB p f q z c0;obtain ⟨p,f,q,z,c0⟩:=HR.out.facts)
  by_cases hr2:r2=1
  ·subst hr2
   have y1:(9223372036854775807 < T1.size+7)=False:=by simp;omega
   have hz:(T1++⟨#[114,101,106,101,99,116,59]⟩).size≤T1.size+90:=by rw[rej_size];omega
   have HZ:=Hid.mk2 hz
   clear hz
   cases d1 <;> cases a1
   ·go_wp2
    obtain ⟨gg,hmk,hbl⟩:=(HR.out.setB 0 (.string (T1++⟨#[114,101,106,101,99,116,59]⟩))).fin (.string (T1++⟨#[114,101,106,101,99,116,59]⟩)) (.int .i64 K1) (.int .i64 V1) (.int .i64 S1)
    unfold finUG at gg hmk hbl
    exact bodyPost_ret (v:=.tuple #[.agg #[.string (T1++⟨#[114,101,106,101,99,116,59]⟩),.int .i64 K1,.int .i64 V1,.int .i64 S1],.bool false]) (by simp[results,Tryz.results21,go_sem,gg]) rfl ⟨(T1++⟨#[114,101,106,101,99,116,59]⟩),K1,V1,S1,false,_,g3,⟨HWI.out.skip (.inr rfl) none _ (rej_txt T1) HZ.out (fun E hE=>isO_none),ruleG_rej HWG.out HG.out,rfl⟩,hmk,hbl⟩
   ·have hK1:K1=0∧V1=0:=by
     rcases HWI.out.say with ⟨_,_,_,_,h⟩ | ⟨_,h,_⟩ | ⟨_,_,h1,h2,_⟩
     ·cases h
     ·cases h
     ·exact ⟨h1,h2⟩
    obtain ⟨rfl,rfl⟩:=hK1
    go_wp2
    obtain ⟨gg,hmk,hbl⟩:=((HR.out.setB 0 (.string (T1++⟨#[114,101,106,101,99,116,59]⟩))).setB 3 (.int .i64 ((S1:Int)+1))).fin (.string (T1++⟨#[114,101,106,101,99,116,59]⟩)) (.int .i64 0) (.int .i64 0) (.int .i64 ((S1:Int)+1))
    unfold finUG at gg hmk hbl
    exact bodyPost_ret (v:=.tuple #[.agg #[.string (T1++⟨#[114,101,106,101,99,116,59]⟩),.int .i64 0,.int .i64 0,.int .i64 ((S1:Int)+1)],.bool true]) (by simp[results,Tryz.results21,go_sem,gg]) rfl ⟨(T1++⟨#[114,101,106,101,99,116,59]⟩),0,0,(S1+1),true,_,g3,⟨HWI.out.act rfl rfl none _ (rej_txt T1) HZ.out (fun E hE=>isO_none) 0 0 1 (by decide) rfl,ruleG_rej HWG.out HG.out,rfl⟩,hmk,hbl⟩
   ·go_wp2
    obtain ⟨gg,hmk,hbl⟩:=(HR.out.setB 0 (.string (T1++⟨#[114,101,106,101,99,116,59]⟩))).fin (.string (T1++⟨#[114,101,106,101,99,116,59]⟩)) (.int .i64 K1) (.int .i64 V1) (.int .i64 S1)
    unfold finUG at gg hmk hbl
    exact bodyPost_ret (v:=.tuple #[.agg #[.string (T1++⟨#[114,101,106,101,99,116,59]⟩),.int .i64 K1,.int .i64 V1,.int .i64 S1],.bool true]) (by simp[results,Tryz.results21,go_sem,gg]) rfl ⟨(T1++⟨#[114,101,106,101,99,116,59]⟩),K1,V1,S1,true,_,g3,⟨HWI.out.skip (.inl rfl) none _ (rej_txt T1) HZ.out (fun E hE=>isO_none),ruleG_rej HWG.out HG.out,rfl⟩,hmk,hbl⟩
   ·go_wp2
    obtain ⟨gg,hmk,hbl⟩:=(HR.out.setB 0 (.string (T1++⟨#[114,101,106,101,99,116,59]⟩))).fin (.string (T1++⟨#[114,101,106,101,99,116,59]⟩)) (.int .i64 K1) (.int .i64 V1) (.int .i64 S1)
    unfold finUG at gg hmk hbl
    exact bodyPost_ret (v:=.tuple #[.agg #[.string (T1++⟨#[114,101,106,101,99,116,59]⟩),.int .i64 K1,.int .i64 V1,.int .i64 S1],.bool true]) (by simp[results,Tryz.results21,go_sem,gg]) rfl ⟨(T1++⟨#[114,101,106,101,99,116,59]⟩),K1,V1,S1,true,_,g3,⟨HWI.out.skip (.inl rfl) none _ (rej_txt T1) HZ.out (fun E hE=>isO_none),ruleG_rej HWG.out HG.out,rfl⟩,hmk,hbl⟩
  ·have hr2':(r2==1)=false:=by simpa using hr2
   go_upto_region 22 with (first | (go_at_call 20;refine (HSU.out _ _ HR.out.mak).mono ?_;rintro e w3 ⟨te,be,ke,ge,⟨hpe,hee,rfl⟩,hM,hB⟩;have HEE:=Hid.mk2 hee;clear hee;obtain ⟨ne,fe,se,ie⟩:=ke;unfold pcV pcA;have hlt:w.heap.size+1 < w3.heap.size:=(HR.out.call hM hB).out.lt;replace HR:=Hid.mk2 ((HR.out.call hM hB).al (.cells (ag te be ne fe se ie) 62));have HE:=Hid.mk2 (Blk.new w3 (ag te be ne fe se ie) 62);have HPE:=Hid.mk2 hpe;clear hM hB hpe p f q z c0;obtain ⟨p,f,q,z,c0⟩:=HR.out.facts;have u:=HE.out.cell))
   have ze:=HPE.out.size
   have zs:=HPE.out.steps
   simp only at zs
   have y1:(9223372036854775807 < T1.size+6)=False:=by simp;omega
   have y2:(9223372036854775807 < T1.size+6+te.size)=False:=by simp;omega
   have y3:(9223372036854775807 < T1.size+6+te.size+1)=False:=by simp;omega
   have ne1:w3.heap.size≠w.heap.size:=by omega
   have ne2:w.heap.size≠w3.heap.size:=by omega
   have hz:(T1++⟨#[115,99,111,114,101,32]⟩++te++⟨#[59]⟩).size≤T1.size+90:=by rw[sco_size];omega
   have HZ:=Hid.mk2 hz
   have HIS:Hid (∀ E,C E→IsO E (some (te.toList,(⟨ne,fe,se,ie⟩:Wo))) 1 50):=Hid.mk2 (fun E hE=>Pc.isO (C:=C) (E:=E) (p:=50) hE HPE.out (by decide) (by omega))
   clear hz
   cases d1 <;> cases a1
   ·go_wp2
    obtain ⟨gg,hmk,hbl⟩:=(HR.out.setB 0 (.string (T1++⟨#[115,99,111,114,101,32]⟩++te++⟨#[59]⟩))).fin (.string (T1++⟨#[115,99,111,114,101,32]⟩++te++⟨#[59]⟩)) (.int .i64 K1) (.int .i64 V1) (.int .i64 S1)
    unfold finUG at gg hmk hbl
    exact bodyPost_ret (v:=.tuple #[.agg #[.string (T1++⟨#[115,99,111,114,101,32]⟩++te++⟨#[59]⟩),.int .i64 K1,.int .i64 V1,.int .i64 S1],.bool false]) (by simp[results,Tryz.results21,go_sem,gg]) rfl ⟨(T1++⟨#[115,99,111,114,101,32]⟩++te++⟨#[59]⟩),K1,V1,S1,false,_,ge,⟨HWI.out.skip (.inr rfl) (some (te.toList,⟨ne,fe,se,ie⟩)) _ (sco_txt T1 te) HZ.out HIS.out,ruleG_sco HWG.out HG.out hr2 HEE.out,rfl⟩,hmk,hbl⟩
   ·have hK1:K1=0∧V1=0:=by
     rcases HWI.out.say with ⟨_,_,_,_,h⟩ | ⟨_,h,_⟩ | ⟨_,_,h1,h2,_⟩
     ·cases h
     ·cases h
     ·exact ⟨h1,h2⟩
    obtain ⟨rfl,rfl⟩:=hK1
    by_cases hfe:fe=0
    ·have d0:((fe:Int) != 0)=false:=by simp;omega
     have HFE:=Hid.mk2 hfe
     clear hfe
     go_upto_region 33 with fail
     have HR2:=(((((HR.out.setB 0 (.string (T1++⟨#[115,99,111,114,101,32]⟩++te++⟨#[59]⟩))).setB 3 (.int .i64 ((S1:Int)+se))).setB 3 (.int .i64 ((S1:Int)+se+1))).setB 1 (.int .i64 1)).setB 2 (.int .i64 ne))
     simp only[List.setIfInBounds_toArray,List.set_cons_zero,List.set_cons_succ] at HR2
     clear HR p f q z c0 u
     generalize ((((((w3.alloc (.cells (ag te be ne fe se ie) 62)).setCell ⟨w.heap.size,0,none⟩ (.string (T1++⟨#[115,99,111,114,101,32]⟩++te++⟨#[59]⟩))).setCell ⟨w.heap.size,3,none⟩ (.int .i64 ((S1:Int)+se))).setCell ⟨w.heap.size,3,none⟩ (.int .i64 ((S1:Int)+se+1))).setCell ⟨w.heap.size,1,none⟩ (.int .i64 1)).setCell ⟨w.heap.size,2,none⟩ (.int .i64 ne))=W5 at HR2 ⊢
     have HR:=Hid.mk2 HR2
     clear HR2
     obtain ⟨p,f,q,z,c0⟩:=HR.out.facts
     go_wp2
     obtain ⟨gg,hmk,hbl⟩:=HR.out.fin (.string (T1++⟨#[115,99,111,114,101,32]⟩++te++⟨#[59]⟩)) (.int .i64 1) (.int .i64 ne) (.int .i64 ((S1:Int)+se+1))
     unfold finUG at gg hmk hbl
     exact bodyPost_ret (v:=.tuple #[.agg #[.string (T1++⟨#[115,99,111,114,101,32]⟩++te++⟨#[59]⟩),.int .i64 1,.int .i64 ne,.int .i64 ((S1:Int)+se+1)],.bool true]) (by simp[results,Tryz.results21,go_sem,gg]) rfl ⟨(T1++⟨#[115,99,111,114,101,32]⟩++te++⟨#[59]⟩),1,ne,(S1+(se+1)),true,_,ge,⟨HWI.out.act rfl rfl (some (te.toList,⟨ne,fe,se,ie⟩)) _ (sco_txt T1 te) HZ.out HIS.out 1 ne (se+1) (by omega) (actO_fine (e:=⟨ne,fe,se,ie⟩) HFE.out),ruleG_sco HWG.out HG.out hr2 HEE.out,by rw[show (((S1+(se+1):Nat)):Int)=(S1:Int)+se+1 by omega];rfl⟩,hmk,hbl⟩
    ·have d0:((fe:Int) != 0)=true:=by simp;omega
     have HFE:=Hid.mk2 hfe
     clear hfe
     go_upto_region 29 with fail
     have HR2:=((((HR.out.setB 0 (.string (T1++⟨#[115,99,111,114,101,32]⟩++te++⟨#[59]⟩))).setB 3 (.int .i64 ((S1:Int)+se))).setB 1 (.int .i64 2)).setB 2 (.int .i64 fe))
     simp only[List.setIfInBounds_toArray,List.set_cons_zero,List.set_cons_succ] at HR2
     clear HR p f q z c0 u
     generalize (((((w3.alloc (.cells (ag te be ne fe se ie) 62)).setCell ⟨w.heap.size,0,none⟩ (.string (T1++⟨#[115,99,111,114,101,32]⟩++te++⟨#[59]⟩))).setCell ⟨w.heap.size,3,none⟩ (.int .i64 ((S1:Int)+se))).setCell ⟨w.heap.size,1,none⟩ (.int .i64 2)).setCell ⟨w.heap.size,2,none⟩ (.int .i64 fe))=W5 at HR2 ⊢
     have HR:=Hid.mk2 HR2
     clear HR2
     obtain ⟨p,f,q,z,c0⟩:=HR.out.facts
     go_wp2
     obtain ⟨gg,hmk,hbl⟩:=HR.out.fin (.string (T1++⟨#[115,99,111,114,101,32]⟩++te++⟨#[59]⟩)) (.int .i64 2) (.int .i64 (fe:Int)) (.int .i64 ((S1:Int)+se))
     unfold finUG at gg hmk hbl
     exact bodyPost_ret (v:=.tuple #[.agg #[.string (T1++⟨#[115,99,111,114,101,32]⟩++te++⟨#[59]⟩),.int .i64 2,.int .i64 (fe:Int),.int .i64 ((S1:Int)+se)],.bool true]) (by simp[results,Tryz.results21,go_sem,gg]) rfl ⟨(T1++⟨#[115,99,111,114,101,32]⟩++te++⟨#[59]⟩),2,(fe:Int),(S1+se),true,_,ge,⟨HWI.out.act rfl rfl (some (te.toList,⟨ne,fe,se,ie⟩)) _ (sco_txt T1 te) HZ.out HIS.out 2 fe se (by omega) (actO_bad (e:=⟨ne,fe,se,ie⟩) HFE.out),ruleG_sco HWG.out HG.out hr2 HEE.out,rfl⟩,hmk,hbl⟩
   ·go_wp2
    obtain ⟨gg,hmk,hbl⟩:=(HR.out.setB 0 (.string (T1++⟨#[115,99,111,114,101,32]⟩++te++⟨#[59]⟩))).fin (.string (T1++⟨#[115,99,111,114,101,32]⟩++te++⟨#[59]⟩)) (.int .i64 K1) (.int .i64 V1) (.int .i64 S1)
    unfold finUG at gg hmk hbl
    exact bodyPost_ret (v:=.tuple #[.agg #[.string (T1++⟨#[115,99,111,114,101,32]⟩++te++⟨#[59]⟩),.int .i64 K1,.int .i64 V1,.int .i64 S1],.bool true]) (by simp[results,Tryz.results21,go_sem,gg]) rfl ⟨(T1++⟨#[115,99,111,114,101,32]⟩++te++⟨#[59]⟩),K1,V1,S1,true,_,ge,⟨HWI.out.skip (.inl rfl) (some (te.toList,⟨ne,fe,se,ie⟩)) _ (sco_txt T1 te) HZ.out HIS.out,ruleG_sco HWG.out HG.out hr2 HEE.out,rfl⟩,hmk,hbl⟩
   ·go_wp2
    obtain ⟨gg,hmk,hbl⟩:=(HR.out.setB 0 (.string (T1++⟨#[115,99,111,114,101,32]⟩++te++⟨#[59]⟩))).fin (.string (T1++⟨#[115,99,111,114,101,32]⟩++te++⟨#[59]⟩)) (.int .i64 K1) (.int .i64 V1) (.int .i64 S1)
    unfold finUG at gg hmk hbl
    exact bodyPost_ret (v:=.tuple #[.agg #[.string (T1++⟨#[115,99,111,114,101,32]⟩++te++⟨#[59]⟩),.int .i64 K1,.int .i64 V1,.int .i64 S1],.bool true]) (by simp[results,Tryz.results21,go_sem,gg]) rfl ⟨(T1++⟨#[115,99,111,114,101,32]⟩++te++⟨#[59]⟩),K1,V1,S1,true,_,ge,⟨HWI.out.skip (.inl rfl) (some (te.toList,⟨ne,fe,se,ie⟩)) _ (sco_txt T1 te) HZ.out HIS.out,ruleG_sco HWG.out HG.out hr2 HEE.out,rfl⟩,hmk,hbl⟩
end Go.Proofs.YtpcjadaeolkngaaGreatDoor
