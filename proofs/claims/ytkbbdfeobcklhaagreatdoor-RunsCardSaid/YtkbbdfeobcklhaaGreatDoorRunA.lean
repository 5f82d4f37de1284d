/-
  What the operators are worth, by the document's functions and by the program's: of numbers of 64 bits.
-/
import Derived.Test.YtkbbdfeobcklhaaGreatDoorProg
import Derived.Test.YtkbbdfeobcklhaaGreatDoorKit
import Derived.Test.YtkbbdfeobcklhaaGreatDoorNum
import Derived.Deep.Light
set_option linter.unusedVariables false
set_option linter.unusedSimpArgs false
namespace Go.Proofs.YtkbbdfeobcklhaaGreatDoor
open Go.RowKit

theorem ret_two {k : IntKind} {a b c d : Int} (h : a = b) (h2 : c = d) : Ending.returned (.tuple #[.int k a, .int k c]) = .returned (.tuple #[.int k b, .int k d]) := by rw [h, h2]
theorem ret_ib {k : IntKind} {a b : Int} {c d : Bool} (h : a = b) (h2 : c = d) : Ending.returned (.tuple #[.int k a, .bool c]) = .returned (.tuple #[.int k b, .bool d]) := by rw [h, h2]
theorem wrap64_eq {n : Int} (h : In64 n) : wrap64 n = n := IntWalk.wrap64_in n h
set_option maxHeartbeats 400000 in
theorem rsum_any (a b : Int) (ha : In64 a) (hb : In64 b) (w : World) :
    Calls Tryz.prog 86 #[.int .i64 a, .int .i64 b] w fun e w' => e = .returned (.tuple #[.int .i64 (exact64 (a + b)).1, .bool (decide ((exact64 (a + b)).2 = 0))]) ∧ w' = w := by
  obtain ⟨ha1, ha2⟩ := ha
  obtain ⟨hb1, hb2⟩ := hb
  by_cases hi : In64 (a + b)
  · rw [exact_in hi]
    obtain ⟨h1, h2⟩ := hi
    go_enter Tryz.func86, Tryz.ntmps86
    go_wp2
    all_goals go_ret2
    all_goals first | (exfalso; go_light; omega) | exact ⟨ret_ib rfl rfl, rfl⟩
  · rw [exact_out hi]
    have hi' : a + b < -9223372036854775808 ∨ 9223372036854775807 < a + b := by unfold In64 at hi; omega
    clear hi
    go_enter Tryz.func86, Tryz.ntmps86
    go_wp2
    all_goals go_ret2
    all_goals first | (exfalso; go_light; omega) | exact ⟨ret_ib rfl rfl, rfl⟩
set_option maxHeartbeats 400000 in
theorem rless_any (a b : Int) (ha : In64 a) (hb : In64 b) (w : World) :
    Calls Tryz.prog 87 #[.int .i64 a, .int .i64 b] w fun e w' => e = .returned (.tuple #[.int .i64 (exact64 (a - b)).1, .bool (decide ((exact64 (a - b)).2 = 0))]) ∧ w' = w := by
  obtain ⟨ha1, ha2⟩ := ha
  obtain ⟨hb1, hb2⟩ := hb
  by_cases hi : In64 (a - b)
  · rw [exact_in hi]
    obtain ⟨h1, h2⟩ := hi
    go_enter Tryz.func87, Tryz.ntmps87
    go_wp2
    all_goals go_ret2
    all_goals first | (exfalso; go_light; omega) | exact ⟨ret_ib rfl rfl, rfl⟩
  · rw [exact_out hi]
    have hi' : a - b < -9223372036854775808 ∨ 9223372036854775807 < a - b := by unfold In64 at hi; omega
    clear hi
    go_enter Tryz.func87, Tryz.ntmps87
    go_wp2
    all_goals go_ret2
    all_goals first | (exfalso; go_light; omega) | exact ⟨ret_ib rfl rfl, rfl⟩
set_option maxHeartbeats 400000 in
theorem bit_any (b : Bool) (w : World) :
    Calls Tryz.prog 49 #[.bool b] w fun e w' => e = .returned (.int .i64 (bitN b)) ∧ w' = w := by
  cases b
  all_goals
    go_enter Tryz.func49, Tryz.ntmps49
    go_wp2
    go_ret
    exact ⟨rfl, rfl⟩
set_option maxHeartbeats 400000 in
theorem truth_any (b : Bool) (w : World) :
    Calls Tryz.prog 170 #[.bool b] w fun e w' => e = .returned (.int .i64 (bitN b)) ∧ w' = w := by
  cases b
  all_goals
    go_enter Tryz.func170, Tryz.ntmps170
    go_wp2
    go_ret
    exact ⟨rfl, rfl⟩
set_option maxHeartbeats 400000 in
theorem psum_any (a b : Int) (ha : In64 a) (hb : In64 b) (w : World) :
    Calls Tryz.prog 171 #[.int .i64 a, .int .i64 b] w fun e w' => e = .returned (.tuple #[.int .i64 (exact64 (a + b)).1, .int .i64 (exact64 (a + b)).2]) ∧ w' = w := by
  obtain ⟨ha1, ha2⟩ := ha
  obtain ⟨hb1, hb2⟩ := hb
  by_cases hi : In64 (a + b)
  · rw [exact_in hi]
    obtain ⟨h1, h2⟩ := hi
    go_enter Tryz.func171, Tryz.ntmps171
    go_wp2
    all_goals go_ret2
    all_goals first | (exfalso; go_light; omega) | exact ⟨ret_two rfl rfl, rfl⟩
  · rw [exact_out hi]
    have hi' : a + b < -9223372036854775808 ∨ 9223372036854775807 < a + b := by unfold In64 at hi; omega
    clear hi
    go_enter Tryz.func171, Tryz.ntmps171
    go_wp2
    all_goals go_ret2
    all_goals first | (exfalso; go_light; omega) | exact ⟨ret_two rfl rfl, rfl⟩
set_option maxHeartbeats 400000 in
theorem pdiff_any (a b : Int) (ha : In64 a) (hb : In64 b) (w : World) :
    Calls Tryz.prog 172 #[.int .i64 a, .int .i64 b] w fun e w' => e = .returned (.tuple #[.int .i64 (exact64 (a - b)).1, .int .i64 (exact64 (a - b)).2]) ∧ w' = w := by
  obtain ⟨ha1, ha2⟩ := ha
  obtain ⟨hb1, hb2⟩ := hb
  by_cases hi : In64 (a - b)
  · rw [exact_in hi]
    obtain ⟨h1, h2⟩ := hi
    go_enter Tryz.func172, Tryz.ntmps172
    go_wp2
    all_goals go_ret2
    all_goals first | (exfalso; go_light; omega) | exact ⟨ret_two rfl rfl, rfl⟩
  · rw [exact_out hi]
    have hi' : a - b < -9223372036854775808 ∨ 9223372036854775807 < a - b := by unfold In64 at hi; omega
    clear hi
    go_enter Tryz.func172, Tryz.ntmps172
    go_wp2
    all_goals go_ret2
    all_goals first | (exfalso; go_light; omega) | exact ⟨ret_two rfl rfl, rfl⟩
set_option maxHeartbeats 400000 in
theorem negated_any (a : Int) (ha : In64 a) (w : World) :
    Calls Tryz.prog 169 #[.int .i64 a] w fun e w' => e = .returned (.tuple #[.int .i64 (negN a).1, .int .i64 (negN a).2]) ∧ w' = w := by
  obtain ⟨ha1, ha2⟩ := ha
  by_cases hi : a = -9223372036854775808
  · have e : negN a = (0, 1) := by unfold negN; exact exact_out (by unfold In64; omega)
    rw [e]
    subst hi
    clear e
    go_enter Tryz.func169, Tryz.ntmps169
    go_wp2
    all_goals go_ret2
    all_goals exact ⟨ret_two rfl rfl, rfl⟩
  · have e : negN a = (-a, 0) := by unfold negN; rw [exact_in (by unfold In64; omega)]; simp
    rw [e]
    have hb : (a == -9223372036854775808) = false := by simpa using hi
    have HN : Hid (In64 (-a)) := (by unfold In64; omega : In64 (-a))
    clear e hi
    go_enter Tryz.func169, Tryz.ntmps169
    go_wp2
    all_goals go_ret2
    all_goals exact ⟨ret_two (wrap64_eq HN.out) rfl, rfl⟩
end Go.Proofs.YtkbbdfeobcklhaaGreatDoor
