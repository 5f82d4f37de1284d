/-
  Images of known making: numberOf.
-/
import Derived.Test.YtbdjcffmpbjjlaaDoorKeepB
set_option linter.unusedVariables false
set_option linter.unusedSimpArgs false
namespace Go.Proofs.YtbdjcffmpbjjlaaDoor
open Go.RowKit

/-- Where a feed stands, and what the call has left alone. -/
structure Fed (w0 w : World) (fb : Nat) : Prop where
  at' : FeedAt w fb
  bl : But fb w0 w
theorem Fed.next {w0 w w' : World} {fb : Nat} (h : Fed w0 w fb) (h1 : FeedAt w' fb) (h2 : But fb w w') : Fed w0 w' fb := ⟨h1, h.bl.trans h2⟩
theorem in64_wrap (z : Int) : In64 (wrap64 z) := by
  unfold wrap64 In64
  omega
set_option maxHeartbeats 2000000 in
theorem numberOf_any (fb : Nat) (w : World) (h : FeedAt w fb) :
    Calls Tryd.prog 21 #[.pointer (some ⟨fb, 0, none⟩)] w fun e w' => (∃ v : Int, In64 v ∧ e = .returned (.int .i64 v)) ∧ FeedAt w' fb ∧ But fb w w' := by
  have HF := Hid.mk2 (Fed.mk (w0 := w) h (But.refl fb w))
  clear h
  go_enter Tryd.func21, Tryd.ntmps21
  go_wp2_with (go_at_call 13; refine (next_any _ (by omega) fb _ HF.out.at').mono ?_; rintro e w1 ⟨⟨r, hr0, hr1, rfl⟩, hF, hB⟩; replace HF := Hid.mk2 (HF.out.next hF hB); clear hF hB)
  all_goals go_ret
  all_goals refine ⟨⟨_, ?_, rfl⟩, HF.out.at', HF.out.bl⟩
  all_goals first | decide | exact in64_wrap _ | (constructor <;> omega)
end Go.Proofs.YtbdjcffmpbjjlaaDoor
