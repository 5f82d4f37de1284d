/-
  Verify, held against the document: verified answers true.
-/
import Derived.Test.YtkbbdfeobcklhaaGreatDoorVerU
import Derived.Test.YtkbbdfeobcklhaaGreatDoorVerE
set_option linter.unusedVariables false
set_option linter.unusedSimpArgs false
namespace Go.Proofs.YtkbbdfeobcklhaaGreatDoor
open Go.RowKit

set_option maxHeartbeats 1000000 in
theorem verified_any (s : ByteArray) (w : World) (hg : GlobP w) :
    Calls Tryz.prog 10 #[.string s] w fun e w' => Below w.heap.size w w' ∧ e = .returned (.bool true) := by
  have HG := Hid.mk' hg
  clear hg
  by_cases hi : IsImg s
  case pos =>
    have HI := Hid.mk' hi
    clear hi
    go_enter Tryz.func10, Tryz.ntmps10
    go_wp2_with (first | (go_at_call 17; refine (Verify_any s _ HG.out).mono ?_; rintro e w1 ⟨hb1, hor⟩; obtain ⟨_, rfl⟩ := hor.resolve_right (fun h => h.1 HI.out)) | (go_at_call 18; refine (Sound_any s _).mono ?_; rintro e w2 ⟨hb2, hor2⟩; obtain ⟨_, l, v, _, _, rfl, _⟩ := hor2.resolve_right (fun h => h.1 HI.out)))
    go_ret
    exact ⟨hb1.trans (hb2.mono hb1.size), rfl⟩
  case neg =>
    have HI := Hid.mk' hi
    clear hi
    go_enter Tryz.func10, Tryz.ntmps10
    go_wp2_with (first | (go_at_call 17; refine (Verify_any s _ HG.out).mono ?_; rintro e w1 ⟨hb1, hor⟩; obtain ⟨_, rfl⟩ := hor.resolve_left (fun h => HI.out h.1)) | (go_at_call 18; refine (Sound_any s _).mono ?_; rintro e w2 ⟨hb2, hor2⟩; obtain ⟨_, v, rfl⟩ := hor2.resolve_left (fun h => HI.out h.1)))
    go_ret
    exact ⟨hb1.trans (hb2.mono hb1.size), rfl⟩
end Go.Proofs.YtkbbdfeobcklhaaGreatDoor
