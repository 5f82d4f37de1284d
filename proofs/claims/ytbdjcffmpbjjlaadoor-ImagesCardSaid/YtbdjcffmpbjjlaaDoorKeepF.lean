/-
  Images of known making: what operators make of two numbers.
-/
import Derived.Test.YtbdjcffmpbjjlaaDoorKeepE
set_option linter.unusedVariables false
set_option linter.unusedSimpArgs false
namespace Go.Proofs.YtbdjcffmpbjjlaaDoor
open Go.RowKit

theorem quo_fine (a b : Int) (ha : In64 a) (hb : In64 b) (h0 : a ≠ 0) (h1 : ¬ (a = -1 ∧ b = -9223372036854775808)) : wrap64 ((wrap64 (a * b)).tdiv a) = (wrap64 (a * b)).tdiv a := by
  refine wrap64_eq (tdiv_in _ a ?_ ha h0 ?_)
  · rw [← wmul]; exact in_wrap _
  · rintro ⟨h2, h3⟩
    refine h1 ⟨h3, ?_⟩
    rw [h3] at h2
    unfold In64 at hb
    unfold wrap64 at h2
    omega
end Go.Proofs.YtbdjcffmpbjjlaaDoor
