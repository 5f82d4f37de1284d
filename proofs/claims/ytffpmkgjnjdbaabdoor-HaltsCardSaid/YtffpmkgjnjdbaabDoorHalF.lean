/-
  For every image's bytes, every three numbers and every bytes for a bin, Halts answers true: Verify, Run and LoadImage agree on whether the bytes are an image; if they are one, its run ends, with no more steps than it has bytes of operations, as a score, a rejection or a fault; and the arguments read afterwards as they read before. Its condition: the listed package-level variables hold what the program's text lays, which the card ties to that text.
-/
import Derived.Test.YtffpmkgjnjdbaabDoorHalE
set_option linter.unusedVariables false
set_option linter.unusedSimpArgs false
namespace Go.Proofs.YtffpmkgjnjdbaabDoor
open Go

theorem halts_card : Rows.HaltsCardSaid :=
  Claim7.holds_tied_plain_at .later [] Rows.haltsCard.laidKinds true Rows.haltsCard.stood.harness false
    halts_holds (fun _ h => by cases h) (by kernel_rfl) (fun _ h => by cases h) halts_row_tie rfl ⟨rfl, rfl⟩ (by kernel_rfl) rfl
    (fun f fn hf hfn => by
      obtain rfl : f = 4 := Option.some.inj ((show Tryd.prog.funcNamed Rows.haltsRow.func = some 4 by kernel_rfl).symm.trans hf) |>.symm
      obtain rfl : fn = Tryd.f4 := (Option.some.inj (Tryd.func4.symm.trans hfn)).symm
      exact ⟨by kernel_rfl, fun j t ht => by
        rw [Tryd.params4] at ht
        have hm : t ∈ [9, 3, 3, 3, 9] := by simpa using Array.mem_of_getElem? ht
        have hall : ([9, 3, 3, 3, 9].all fun u => !Tryd.prog.wantsStandIn u) = true := by kernel_rfl
        exact (show Tryd.prog.wantsStandIn t = false by simpa using List.all_eq_true.1 hall t hm)⟩)
    (by kernel_rfl)
#print axioms halts_card
end Go.Proofs.YtffpmkgjnjdbaabDoor
