/-
  A new store; LoadImage; the image that rejects.
-/
import Derived.Test.YtffpmkgjnjdbaabDoorHalA
import Derived.Test.YtffpmkgjnjdbaabDoorHalB
set_option linter.unusedVariables false
set_option linter.unusedSimpArgs false
namespace Go.Proofs.YtffpmkgjnjdbaabDoor
open Go.RowKit

set_option maxHeartbeats 1000000 in
theorem New_any (w : World) :
    Calls Tryd.prog 10 #[] w fun e w' => e = .returned (.pointer (some ⟨w.heap.size, 0, none⟩)) ∧ w' = w.alloc (.cells #[.slice none 0 0, .string { data := #[] }] 61) := by
  go_enter Tryd.func10, Tryd.ntmps10
  go_wp2
  go_ret
  exact ⟨rfl, rfl⟩
set_option maxHeartbeats 1000000 in
theorem LoadImage_any (s : ByteArray) (sb : Nat) (v : Value) (im : ByteArray) (w : World) (hg : GlobP w) (h : Blk w sb #[v, .string im] 61) :
    Calls Tryd.prog 12 #[.pointer (some ⟨sb, 0, none⟩), .string s] w fun e w' =>
      (IsImg s ∧ e = .returned (.int .i64 0) ∧ Blk w' sb #[v, .string s] 61 ∧ But sb w w') ∨ (¬ IsImg s ∧ e = .returned (.int .i64 7) ∧ Below w.heap.size w w') := by
  have HG := Hid.mk2 hg
  have HS := Hid.mk2 h
  clear hg h
  go_enter Tryd.func12, Tryd.ntmps12
  go_wp2_with (go_at_call 21; refine (IsImage_any s _ HG.out).mono ?_; rintro e w1 ⟨hb1, ⟨hi, rfl⟩ | ⟨hi, rfl⟩⟩; all_goals (replace HS := Hid.mk2 (HS.out.below hb1 HS.out.lt); have c1 := HS.out.cell 1; have f1 := HS.out.free 1))
  · go_ret
    exact .inl ⟨hi, rfl, HS.out.set 1 _, (But.of hb1).trans (But.set sb 1 _ HS.out.lt)⟩
  · go_ret
    exact .inr ⟨hi, rfl, hb1⟩
end Go.Proofs.YtffpmkgjnjdbaabDoor
