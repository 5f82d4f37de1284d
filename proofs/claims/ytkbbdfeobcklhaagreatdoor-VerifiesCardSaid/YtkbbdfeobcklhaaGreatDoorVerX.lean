/-
  Verifies, the row: every Verify of every script answers as the document says; the script reads afterwards as it read before.
-/
import Derived.Test.YtkbbdfeobcklhaaGreatDoorVerW
import Derived.Test.YtkbbdfeobcklhaaGreatDoorLaid
set_option linter.unusedVariables false
set_option linter.unusedSimpArgs false
namespace Go.Proofs.YtkbbdfeobcklhaaGreatDoor
open Go.RowKit Go.ChangeShapes Go.WideShapes Go.ChangeAt

theorem Tryz.own : ownKnob Tryz.prog.godebug = none := by kernel_rfl
theorem Tryz.laidOut : laidOutB Tryz.prog = true := by kernel_rfl
def laidAll : List (String × DataW Unit) := Rows.verifiesRow.laid
/-- The door's own heap meets the condition. -/
theorem door_met (os : Os) (args : Array Value) : laidMetH Tryz.prog laidAll ((World.doorLaid Tryz.prog 87 os).forCall (fun _ _ => 0) ⟨#[], args, []⟩).memory :=
  laidMetH_of_parts3 (fuel := 8) (laidMet_of_run' 8 (by kernel_rfl) (by kernel_rfl)) (by kernel_rfl) (by kernel_rfl)
theorem glob_of_laid {W : World} (h : laidMetH Tryz.prog laidAll W) : GlobP W := by
  rw [MakeChecks.laidMetH_plain _ _ _ (by kernel_rfl)] at h
  obtain ⟨ps, ⟨g0, t0, cs0, f0, p0, q0, hg0, ht0, hv0, hd0, ⟨g1, t1, cs1, f1, p1, q1, hg1, ht1, hv1, hd1, ⟨g2, t2, cs2, f2, p2, q2, hg2, ht2, hv2, hd2, ⟨g3, t3, cs3, f3, p3, q3, hg3, ht3, hv3, hd3, ⟨g4, t4, cs4, f4, p4, q4, hg4, ht4, hv4, hd4, ⟨g5, t5, cs5, f5, p5, q5, hg5, ht5, hv5, hd5, _, _⟩, _⟩, _⟩, _⟩, _⟩, _⟩, _, _⟩ := h
  have hb := table_of 0 gBytes tyBytes dBytes hg3 ht3 hv3 hd3
  have ht := table_of 1 gTakes tyTakes dTakes hg4 ht4 hv4 hd4
  have hl := table_of 2 gLays tyLays dLays hg5 ht5 hv5 hd5
  have hlt : ∀ (k : Nat) (v : Value), W.cell? ⟨k, 0, none⟩ = some v → k < W.heap.size := fun k v hc => by
    by_cases h : k < W.heap.size
    · exact h
    · simp [World.cell?, Array.getElem?_eq_none (by omega : W.heap.size ≤ k)] at hc
  exact ⟨fun c hc => hb c _ (tabBytes_eq c hc), fun c hc => ht c _ (tabTakes_eq c hc), fun c hc => hl c _ (tabLays_eq c hc), ⟨hlt _ _ (hb 0 _ (tabBytes_eq 0 (by omega))), hlt _ _ (ht 0 _ (tabTakes_eq 0 (by omega))), hlt _ _ (hl 0 _ (tabLays_eq 0 (by omega)))⟩⟩
end Go.Proofs.YtkbbdfeobcklhaaGreatDoor
