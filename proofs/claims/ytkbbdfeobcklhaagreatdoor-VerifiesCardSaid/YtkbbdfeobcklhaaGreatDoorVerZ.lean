/-
  For every script, Verifies answers true: each Verify of it, of any bytes, is as the document says; and the script reads afterwards as it read before. Its condition: the listed package-level variables hold what the program's text lays, which the card ties to that text.
-/
import Derived.Test.YtkbbdfeobcklhaaGreatDoorVerY
set_option linter.unusedVariables false
set_option linter.unusedSimpArgs false
namespace Go.Proofs.YtkbbdfeobcklhaaGreatDoor
open Go

theorem verifies_card : Rows.VerifiesCardSaid :=
  Claim7.holds_tied_plain_at .later [] Rows.verifiesCard.laidKinds true Rows.verifiesCard.stood.harness true
    verifies_holds (fun _ h => by cases h) (by kernel_rfl) (fun _ h => by cases h) verifies_row_tie rfl ⟨rfl, rfl⟩ (by kernel_rfl) rfl
    (fun f fn hf hfn => by
      obtain rfl : f = 4 := Option.some.inj ((show Tryz.prog.funcNamed Rows.verifiesRow.func = some 4 by kernel_rfl).symm.trans hf) |>.symm
      obtain rfl : fn = Tryz.f4 := (Option.some.inj (Tryz.func4.symm.trans hfn)).symm
      exact ⟨by kernel_rfl, fun j t ht => by
        rw [Tryz.params4] at ht
        have hm : t ∈ [22] := by simpa using Array.mem_of_getElem? ht
        have hall : ([22].all fun u => !Tryz.prog.wantsStandIn u) = true := by kernel_rfl
        exact (show Tryz.prog.wantsStandIn t = false by simpa using List.all_eq_true.1 hall t hm)⟩)
    (by kernel_rfl)
#print axioms verifies_card
end Go.Proofs.YtkbbdfeobcklhaaGreatDoor
