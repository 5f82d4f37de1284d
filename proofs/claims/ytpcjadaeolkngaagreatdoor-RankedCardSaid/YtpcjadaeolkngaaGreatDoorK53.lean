/-
  For all raw bytes for a policy, all raw bytes for bins and every four numbers, Ranked answers true: with a policy made out of the bytes loaded, and with its image loaded, Rank tells the best places of the bins by what the making says of each, the best first and none left out that is better, or the first fault; under the policy that rejects it tells none; and the arguments read afterwards as they read before. Its condition: the listed package-level variables hold what the program's text lays, which the card ties to that text.
-/
import Derived.Test.YtpcjadaeolkngaaGreatDoorK52
import Derived.Test.YtpcjadaeolkngaaGreatDoorTie
import Derived.Test.YtpcjadaeolkngaaGreatDoorCards
import Derived.SevenTiedAt
set_option linter.unusedVariables false
set_option linter.unusedSimpArgs false
namespace Go.Proofs.YtpcjadaeolkngaaGreatDoor
open Go.RowKit Go.ChangeShapes Go.WideShapes Go.ChangeAt
set_option maxRecDepth 100000 in
theorem ranked_lifted (os:Os) (started:os.Started) (H:Type) (enc:TypeId × Value→H) :
  ReturnsInHanded {} Tryz.checked os 4 .any (fun w args=>(Rows.rankedSpec.pre enc Tryz.prog Tryz.f4 [] false w args∧laidMetH Tryz.prog laidAll w)∧sizedMet enc Tryz.prog Tryz.f4 (OpenSpec.ofChange Rows.rankedSpec) false w args)
   (Rows.rankedSpec.post enc Tryz.prog Tryz.f4 false true false false):=by
 refine returnsInHanded_of_change_and (C:=Tryz.checked) (X:=fun w _=>laidMetH Tryz.prog laidAll w) (fun _ _ _ hh h=>h.of_heap hh) Tryz.own started (by kernel_rfl) Tryz.func4
  (ChangeSpec.witness_shaped (enc:=enc) (C:=Tryz.checked) (os:=os) (X:=fun w _=>laidMetH Tryz.prog laidAll w) false (World.doorLaid Tryz.prog 87 os) #[.string ⟨#[]⟩,.string ⟨#[]⟩,.int .i64 0,.int .i64 0,.int .i64 0,.int .i64 0] 8 rfl (World.shaped_of_RefB (by kernel_rfl) (by kernel_rfl)) (by kernel_rfl) (by kernel_rfl) (by kernel_rfl) (door_met os _)) ?_
 intro W base args ds gs before hval0 hW _ _ hL _
 have hval:∀ (j:Nat) t v,Tryz.f4.params[j]?=some t→args[j]?=some v→Value.okWide Tryz.prog W .any base t v:=hval0
 have hW':=hW
 have hlt:=hW.lt
 obtain ⟨p,q,hA0,hV,rfl,hfz,hnd⟩:=hW
 have hA:DataW.TrodAll enc Tryz.prog W 0 (fun _=>true) true Tryz.f4.params.toList args.toList ds p:=hA0
 rw[Tryz.params4] at hA hval
 obtain ⟨v1,v2,v3,v4,v5,v6,d1,d2,d3,d4,d5,d6,p1,p2,p3,p4,p5,p6,rfl,rfl,rfl,h1,h2,h3,h4,h5,h6⟩:=trodAll_six hA
 obtain ⟨rfl,rfl⟩:=trodVars_none hV
 simp only[List.append_nil] at hW' hlt
 obtain ⟨s,rfl,hs⟩:=str_arg Tryz.underlying9 (hval 0 9 v1 rfl rfl) h1
 obtain ⟨t,rfl,ht⟩:=str_arg Tryz.underlying9 (hval 1 9 v2 rfl rfl) h2
 obtain ⟨a,rfl,ha⟩:=int_arg Tryz.underlying3 (hval 2 3 v3 rfl rfl) h3
 obtain ⟨b,rfl,hb⟩:=int_arg Tryz.underlying3 (hval 3 3 v4 rfl rfl) h4
 obtain ⟨c,rfl,hc⟩:=int_arg Tryz.underlying3 (hval 4 3 v5 rfl rfl) h5
 obtain ⟨k,rfl,hk⟩:=int_arg Tryz.underlying3 (hval 5 3 v6 rfl rfl) h6
 refine (Ranked_any s t hs ht a b c k ha hb hc hk W (glob_of_laid hL).1 (glob_of_laid hL).2).mono fun e W' ⟨hbl,he⟩=>?_
 subst he
 exact ⟨_,rfl,⟨_,_,_,[],_,[],hW',trodAll_mk1 (shut_bool Tryz.underlying4 _),trodAll_cons_mk (Below.trod Tryz.laidOut (by kernel_rfl) (of_decide_eq_true (by kernel_rfl)) h1 hbl (fun x hx=>hlt x (by simp[hx]))) (trodAll_cons_mk (Below.trod Tryz.laidOut (by kernel_rfl) (of_decide_eq_true (by kernel_rfl)) h2 hbl (fun x hx=>hlt x (by simp[hx]))) (trodAll_cons_mk (Below.trod Tryz.laidOut (by kernel_rfl) (of_decide_eq_true (by kernel_rfl)) h3 hbl (fun x hx=>hlt x (by simp[hx]))) (trodAll_cons_mk (Below.trod Tryz.laidOut (by kernel_rfl) (of_decide_eq_true (by kernel_rfl)) h4 hbl (fun x hx=>hlt x (by simp[hx]))) (trodAll_cons_mk (Below.trod Tryz.laidOut (by kernel_rfl) (of_decide_eq_true (by kernel_rfl)) h5 hbl (fun x hx=>hlt x (by simp[hx]))) (trodAll_mk1 (Below.trod Tryz.laidOut (by kernel_rfl) (of_decide_eq_true (by kernel_rfl)) h6 hbl (fun x hx=>hlt x (by simp[hx])))))))),rfl,hbl.frame _,fun h=>by cases h⟩⟩
theorem ranked_holds:Rows.RankedSaid :=
 OpenClaim.holds_of_wide 4 Tryz.f4 rfl rfl rfl rfl rfl rfl rfl ⟨rfl,rfl,rfl,rfl,rfl⟩ rfl rfl rfl rfl rfl (by kernel_rfl) Tryz.func4 (by kernel_rfl)
  (of_decide_eq_true (by kernel_rfl)) (by unfold Func.isWrapper;first | (rw[if_pos (by decide +kernel)];kernel_rfl) | (rw[if_neg (by decide +kernel)];exact ⟨rfl,rfl⟩))
  (fun os started H enc _=>ranked_lifted os started H enc)
end Go.Proofs.YtpcjadaeolkngaaGreatDoor
namespace Go.Proofs.YtpcjadaeolkngaaGreatDoor
open Go
theorem ranked_card:Rows.RankedCardSaid :=
 Claim7.holds_tied_plain_at .later [] Rows.rankedCard.laidKinds true Rows.rankedCard.stood.harness false
  ranked_holds (fun _ h=>by cases h) (by kernel_rfl) (fun _ h=>by cases h) ranked_row_tie rfl ⟨rfl,rfl⟩ (by kernel_rfl) rfl
  (fun f fn hf hfn=>by
   obtain rfl:f=4:=Option.some.inj ((show Tryz.prog.funcNamed Rows.rankedRow.func=some 4 by kernel_rfl).symm.trans hf) |>.symm
   obtain rfl:fn=Tryz.f4:=(Option.some.inj (Tryz.func4.symm.trans hfn)).symm
   exact ⟨by kernel_rfl,fun j t ht=>by
    rw[Tryz.params4] at ht
    have hm:t∈[9,9,3,3,3,3]:=by simpa using Array.mem_of_getElem? ht
    have hall:([9,9,3,3,3,3].all fun u=>!Tryz.prog.wantsStandIn u)=true:=by kernel_rfl
    exact (show Tryz.prog.wantsStandIn t=false by simpa using List.all_eq_true.1 hall t hm)⟩)
  (by kernel_rfl)
#print axioms ranked_card
end Go.Proofs.YtpcjadaeolkngaaGreatDoor
