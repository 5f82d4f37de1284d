/-
  For all raw bytes and every number, Broken answers true: a policy made out of the bytes, with a byte put into it that begins no token (in front of any byte of it or behind all, but not into a !=): Print, Check, Compile and Load tell that error and its place, Compile with an empty image; and Print of the policy without its last byte tells that it ends too early, at its end; and the arguments read afterwards as they read before. Its condition: the listed package-level variables hold what the program's text lays, which the card ties to that text.
-/
import Derived.Test.YtjjbmbjmdgoofaaGreatDoorB52
set_option linter.unusedVariables false
set_option linter.unusedSimpArgs false
namespace Go.Proofs.YtjjbmbjmdgoofaaGreatDoor
open Go
theorem broken_card : Rows.BrokenCardSaid :=
  Claim7.holds_tied_plain_at .later [] Rows.brokenCard.laidKinds true Rows.brokenCard.stood.harness false
    broken_holds (fun _ h => by cases h) (by kernel_rfl) (fun _ h => by cases h) broken_row_tie rfl ⟨rfl, rfl⟩ (by kernel_rfl) rfl
    (fun f fn hf hfn => by
      obtain rfl : f = 3 := Option.some.inj ((show Tryz.prog.funcNamed Rows.brokenRow.func = some 3 by kernel_rfl).symm.trans hf) |>.symm
      obtain rfl : fn = Tryz.f3 := (Option.some.inj (Tryz.func3.symm.trans hfn)).symm
      exact ⟨by kernel_rfl, fun j t ht => by
        rw [Tryz.params3] at ht
        have hm : t ∈ [9, 3] := by simpa using Array.mem_of_getElem? ht
        have hall : ([9, 3].all fun u => !Tryz.prog.wantsStandIn u) = true := by kernel_rfl
        exact (show Tryz.prog.wantsStandIn t = false by simpa using List.all_eq_true.1 hall t hm)⟩)
    (by kernel_rfl)
#print axioms broken_card
end Go.Proofs.YtjjbmbjmdgoofaaGreatDoor
