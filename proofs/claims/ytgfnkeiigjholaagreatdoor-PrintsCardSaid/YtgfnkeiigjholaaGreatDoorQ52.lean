/-
  For every script, Prints answers true: each Print of it, of any text, answers as the document says: the plain form of the policy, or the empty text with the error and the place; and the script reads afterwards as it read before. Its condition: the listed package-level variables hold what the program's text lays, which the card ties to that text.
-/
import Derived.Test.YtgfnkeiigjholaaGreatDoorQ49
import Derived.Test.YtgfnkeiigjholaaGreatDoorQ50
import Derived.Test.YtgfnkeiigjholaaGreatDoorQ51
import Derived.Test.YtgfnkeiigjholaaGreatDoorTie
import Derived.Test.YtgfnkeiigjholaaGreatDoorCards
import Derived.SevenTiedAt
set_option linter.unusedVariables false
set_option linter.unusedSimpArgs false
namespace Go.Proofs.YtgfnkeiigjholaaGreatDoor
open Go.RowKit Go.ChangeShapes Go.WideShapes Go.ChangeAt
def PrintAs(s:ByteArray)(t:ByteArray)(c:Int)(p:Int):Prop:=(∃ q:Nat,tokened s.toList=.bad c q∧c≠0∧t=⟨#[]⟩∧p=q)∨(∃ L R,PolicyOf s.toList L R∧t=bsOf (polQ L R)∧c=0∧p=0)
theorem Print_prog(s:ByteArray)(w:World)(hg:GlobT w)(hz:s.size≤maxLen) :
  Calls Tryz.prog 11 #[.string s] w fun e w'=>Below w.heap.size w w'∧∃ t c p,PrintAs s t c p∧e=.returned (.tuple #[.string t,.int .i64 c,.int .i64 p]):=by
 refine (Print_any s hz w hg).mono ?_
 rintro e w' ⟨hb,⟨c,p,h1,h2,rfl⟩ | ⟨L,R,h1,rfl⟩⟩
 ·exact ⟨hb,_,_,_,.inl ⟨p,h1,h2,rfl,rfl⟩,rfl⟩
 ·exact ⟨hb,_,_,_,.inr ⟨L,R,h1,rfl,rfl,rfl⟩,rfl⟩
theorem Print_ref(s:ByteArray)(w:World){t:ByteArray}{c p:Int}(h:PrintAs s t c p) :
  Calls Tryz.prog 12 #[.string s] w fun e w'=>Below w.heap.size w w'∧e=.returned (.tuple #[.string t,.int .i64 c,.int .i64 p]):=by
 rcases h with ⟨q,h1,h2,rfl,rfl⟩ | ⟨L,R,h1,rfl,rfl,rfl⟩
 ·exact (bad_ref s w c q h1 h2).mono fun e w' h=>⟨h.2,h.1⟩
 ·exact (Print_fine s w L R h1).mono fun e w' h=>⟨h.2,h.1⟩
set_option maxHeartbeats 1000000 in
theorem printed_any(s:ByteArray)(w:World)(hg:GlobT w)(hz:s.size≤maxLen) :
  Calls Tryz.prog 6 #[.string s] w fun e w'=>Below w.heap.size w w'∧e=.returned (.bool true):=by
 have HG:=mH hg
 have HSZ:=mH hz
 clear hg hz
 go_enter Tryz.func6,Tryz.ntmps6
 go_wp2_with (first | (go_at_call 11;refine (Print_prog s _ HG.out HSZ.out).mono ?_;rintro e w1 ⟨hb1,t,c,p,hs,rfl⟩;have HB1:=mH hb1;have HS:=mH hs;clear hb1 hs) | (go_at_call 12;refine (Print_ref s _ HS.out).mono ?_;rintro e w2 ⟨hb2,rfl⟩;have HB2:=mH hb2;clear hb2))
 go_ret
 exact ⟨HB1.out.trans (HB2.out.mono HB1.out.size),rfl⟩
set_option maxHeartbeats 1000000 in
theorem alone_print(o:Opr)(hf:o.Fit)(hk:o.kind=1)(w:World)(hg:GlobT w) :
  Calls Tryz.prog 5 #[oprV o] w fun e w'=>Below w.heap.size w w'∧e=.returned (.bool true):=by
 have HG:Hid (GlobT w):=hg
 have HF:Hid o.Fit:=hf
 unfold oprV
 rw[hk]
 clear hg hk hf
 go_enter Tryz.func5,Tryz.ntmps5
 go_wp2_with (go_at_call 6;refine (printed_any o.s _ (HG.out.below (new_below w _)) HF.out).mono ?_;rintro e w1 ⟨hb1,rfl⟩)
 go_ret
 exact ⟨(new_below w _).trans (hb1.mono (by simp)),rfl⟩
set_option maxHeartbeats 1000000 in
theorem Prints_any(n:Nat)(hn:n≤maxLen)(v:Value)(os:Nat→Opr)(w:World)(hs:Script w v n os)(hg:GlobT w) :
  Calls Tryz.prog 3 #[v] w fun e w'=>Below w.heap.size w w'∧e=.returned (.bool true):=by
 go_enter Tryz.func3,Tryz.ntmps3
 go_wp2_with (go_at_call 4;refine (each_any GlobT (fun _ _ h hb=>h.below hb) 1 n hn v os _ hs hg (fun o hf hk w hg=>alone_print o hf hk w hg)).mono ?_;rintro e w1 ⟨hb1,rfl⟩)
 go_ret
 exact ⟨hb1,rfl⟩
set_option maxRecDepth 100000 in
theorem prints_lifted(os:Os)(started:os.Started)(H:Type)(enc:TypeId×Value→H) :
  ReturnsInHanded {} Tryz.checked os 3 .any (fun w args=>(Rows.printsSpec.pre enc Tryz.prog Tryz.f3 [] false w args∧laidMetH Tryz.prog laidAllC w)∧sizedMet enc Tryz.prog Tryz.f3 (OpenSpec.ofChange Rows.printsSpec) false w args)
   (Rows.printsSpec.post enc Tryz.prog Tryz.f3 false true false false):=by
 refine returnsInHanded_of_change_and (C:=Tryz.checked) (X:=fun w _=>laidMetH Tryz.prog laidAllC w) (fun _ _ _ hh h=>h.of_heap hh) Tryz.ownC started (by kernel_rfl) Tryz.func3
  (ChangeSpec.witness_shaped (enc:=enc) (C:=Tryz.checked) (os:=os) (X:=fun w _=>laidMetH Tryz.prog laidAllC w) false (World.doorLaid Tryz.prog 87 os) #[.slice none 0 0] 8 rfl (World.shaped_of_RefB (by kernel_rfl) (by kernel_rfl)) (by kernel_rfl) (by kernel_rfl) (by kernel_rfl) (door_metC os _)) ?_
 intro W base args ds gs before hval0 hW _ _ hL _
 have hval:∀ (j:Nat) t v,Tryz.f3.params[j]?=some t→args[j]?=some v→Value.okWide Tryz.prog W .any base t v:=hval0
 have hW':=hW
 have hlt:=hW.lt
 obtain ⟨p,q,hA0,hV,rfl,hfz,hnd⟩:=hW
 have hA:DataW.TrodAll enc Tryz.prog W 0 (fun _=>true) true Tryz.f3.params.toList args.toList ds p:=hA0
 rw[Tryz.params3]at hA hval
 obtain ⟨v0,d0,rfl,rfl,h0⟩:=trodAll_one hA
 obtain ⟨rfl,rfl⟩:=trodVars_none hV
 simp only[List.append_nil]at hW' hlt
 obtain ⟨n,scr,hn,hs⟩:=script_of (hval 0 22 v0 rfl rfl) h0
 refine (Prints_any n hn v0 scr W hs (globs_of_laid hL).2).mono fun e W' ⟨hb,he⟩=>?_
 subst he
 exact ⟨_,rfl,⟨_,_,_,[],p,[],hW',trodAll_mk1 (shut_bool Tryz.underlying4 _),trodAll_mk1 (Below.trod Tryz.laidOutC (by kernel_rfl) (of_decide_eq_true (by kernel_rfl)) h0 hb hlt),rfl,hb.frame _,fun h=>by cases h⟩⟩
theorem prints_holds:Rows.PrintsSaid :=
 OpenClaim.holds_of_wide 3 Tryz.f3 rfl rfl rfl rfl rfl rfl rfl ⟨rfl,rfl,rfl,rfl,rfl⟩ rfl rfl rfl rfl rfl (by kernel_rfl) Tryz.func3 (by kernel_rfl)
  (of_decide_eq_true (by kernel_rfl)) (by unfold Func.isWrapper;first | (rw[if_pos (by decide +kernel)];kernel_rfl) | (rw[if_neg (by decide +kernel)];exact ⟨rfl,rfl⟩))
  (fun os started H enc _=>prints_lifted os started H enc)
open Go
theorem prints_card:Rows.PrintsCardSaid :=
 Claim7.holds_tied_plain_at .later [] Rows.printsCard.laidKinds true Rows.printsCard.stood.harness true
  prints_holds (fun _ h=>by cases h) (by kernel_rfl) (fun _ h=>by cases h) prints_row_tie rfl ⟨rfl,rfl⟩ (by kernel_rfl) rfl
  (fun f fn hf hfn=>by
   obtain rfl:f=3:=Option.some.inj ((show Tryz.prog.funcNamed Rows.printsRow.func=some 3 by kernel_rfl).symm.trans hf) |>.symm
   obtain rfl:fn=Tryz.f3:=(Option.some.inj (Tryz.func3.symm.trans hfn)).symm
   exact ⟨by kernel_rfl,fun j t ht=>by
    rw[Tryz.params3]at ht
    have hm:t∈[22]:=by simpa using Array.mem_of_getElem? ht
    have hall:([22].all fun u=>!Tryz.prog.wantsStandIn u)=true:=by kernel_rfl
    exact (show Tryz.prog.wantsStandIn t=false by simpa using List.all_eq_true.1 hall t hm)⟩)
  (by kernel_rfl)
#print axioms prints_card
end Go.Proofs.YtgfnkeiigjholaaGreatDoor
