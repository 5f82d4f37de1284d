/-
  Verifies: each Verify of a script is as the document says.
-/
import Derived.Test.YtkbbdfeobcklhaaGreatDoorVerV
import Derived.Test.YtkbbdfeobcklhaaGreatDoorEach
set_option linter.unusedVariables false
set_option linter.unusedSimpArgs false
namespace Go.Proofs.YtkbbdfeobcklhaaGreatDoor
open Go.RowKit

set_option maxHeartbeats 1000000 in
theorem alone_verify (o : Opr) (hk : o.kind = 3) (w : World) (hg : GlobP w) :
    Calls Tryz.prog 7 #[oprV o] w fun e w' => Below w.heap.size w w' ∧ e = .returned (.bool true) := by
  have HG : Hid (GlobP w) := hg
  unfold oprV
  rw [hk]
  clear hg hk
  go_enter Tryz.func7, Tryz.ntmps7
  go_wp2_with (go_at_call 10; refine (verified_any o.s _ (HG.out.below (box3 _ _))).mono ?_; rintro e w1 ⟨hb1, rfl⟩)
  go_ret
  exact ⟨(box3 _ _).trans (hb1.mono (by simp)), rfl⟩
set_option maxHeartbeats 1000000 in
theorem Verifies_any (n : Nat) (hn : n ≤ maxLen) (v : Value) (os : Nat → Opr) (w : World) (hs : Script w v n os) (hg : GlobP w) :
    Calls Tryz.prog 4 #[v] w fun e w' => Below w.heap.size w w' ∧ e = .returned (.bool true) := by
  go_enter Tryz.func4, Tryz.ntmps4
  go_wp2_with (go_at_call 6; refine (each_any GlobP (fun _ _ h hb => h.below hb) 3 n hn v os _ hs hg (fun o _ hk w hg => alone_verify o hk w hg)).mono ?_; rintro e w1 ⟨hb1, rfl⟩)
  go_ret
  exact ⟨hb1, rfl⟩
end Go.Proofs.YtkbbdfeobcklhaaGreatDoor
