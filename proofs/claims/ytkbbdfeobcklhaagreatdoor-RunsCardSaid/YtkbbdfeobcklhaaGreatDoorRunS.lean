/-
  For every script, Runs answers true: each Run of it, of any bytes, item and bin, ends as the document says, with its value, its steps and its error; and the script reads afterwards as it read before. Its condition: the listed package-level variables hold what the program's text lays, which the card ties to that text.
-/
import Derived.Test.YtkbbdfeobcklhaaGreatDoorRunR
set_option linter.unusedVariables false
set_option linter.unusedSimpArgs false
namespace Go.Proofs.YtkbbdfeobcklhaaGreatDoor
open Go

theorem runs_card : Rows.RunsCardSaid :=
  Claim7.holds_tied_plain_at .later [] Rows.runsCard.laidKinds true Rows.runsCard.stood.harness true
    runs_holds (fun _ h => by cases h) (by kernel_rfl) (fun _ h => by cases h) runs_row_tie rfl ⟨rfl, rfl⟩ (by kernel_rfl) rfl
    (fun f fn hf hfn => by
      obtain rfl : f = 5 := Option.some.inj ((show Tryz.prog.funcNamed Rows.runsRow.func = some 5 by kernel_rfl).symm.trans hf) |>.symm
      obtain rfl : fn = Tryz.f5 := (Option.some.inj (Tryz.func5.symm.trans hfn)).symm
      exact ⟨by kernel_rfl, fun j t ht => by
        rw [Tryz.params5] at ht
        have hm : t ∈ [22] := by simpa using Array.mem_of_getElem? ht
        have hall : ([22].all fun u => !Tryz.prog.wantsStandIn u) = true := by kernel_rfl
        exact (show Tryz.prog.wantsStandIn t = false by simpa using List.all_eq_true.1 hall t hm)⟩)
    (by kernel_rfl)
#print axioms runs_card
end Go.Proofs.YtkbbdfeobcklhaaGreatDoor
