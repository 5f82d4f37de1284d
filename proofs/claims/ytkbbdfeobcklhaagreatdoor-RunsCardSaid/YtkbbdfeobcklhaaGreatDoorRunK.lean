/-
  What is an item, what is a bin: by both sides.
-/
import Derived.Test.YtkbbdfeobcklhaaGreatDoorRunG
set_option linter.unusedVariables false
set_option linter.unusedSimpArgs false
namespace Go.Proofs.YtkbbdfeobcklhaaGreatDoor
open Go.RowKit

def btw (n a b : Int) : Bool := decide (a ≤ n) && decide (n ≤ b)
def itmB (x : Itm) : Bool := btw x.size 1 1000 && btw x.speed 0 1000 && btw x.need 0 2
def bnB (y : Bn) : Bool := btw y.id 0 1000 && btw y.zone 0 9 && btw y.cap 1 1000 && btw y.used 0 y.cap && btw y.has 0 2
theorem itmB_iff (x : Itm) : itmB x = true ↔ x.Ok := by unfold itmB btw Itm.Ok; simp [and_assoc]
theorem bnB_iff (y : Bn) : bnB y = true ↔ y.Ok := by unfold bnB btw Bn.Ok; simp [and_assoc]
set_option maxHeartbeats 400000 in
theorem between_any (n a b : Int) (w : World) :
    Calls Tryz.prog 45 #[.int .i64 n, .int .i64 a, .int .i64 b] w fun e w' => e = .returned (.bool (btw n a b)) ∧ w' = w := by
  unfold btw
  by_cases h : a ≤ n
  all_goals
    go_enter Tryz.func45, Tryz.ntmps45
    go_wp2
    all_goals go_ret
    all_goals exact ⟨ret_bool (by go_light; first | (simp [h]; done) | (simp; omega)), rfl⟩
set_option maxHeartbeats 400000 in
theorem within_any (n a b : Int) (w : World) :
    Calls Tryz.prog 79 #[.int .i64 n, .int .i64 a, .int .i64 b] w fun e w' => e = .returned (.bool (btw n a b)) ∧ w' = w := by
  unfold btw
  by_cases h : a ≤ n
  all_goals
    go_enter Tryz.func79, Tryz.ntmps79
    go_wp2
    all_goals go_ret
    all_goals exact ⟨ret_bool (by go_light; first | (simp [h]; done) | (simp; omega)), rfl⟩
set_option maxHeartbeats 400000 in
theorem isClass_any (n : Int) (w : World) :
    Calls Tryz.prog 80 #[.int .i64 n] w fun e w' => e = .returned (.bool (btw n 0 2)) ∧ w' = w := by
  go_enter Tryz.func80, Tryz.ntmps80
  go_wp2_with (go_at_call 79; refine (within_any _ _ _ _).mono ?_; rintro e w' ⟨rfl, rfl⟩)
  go_ret
  exact ⟨rfl, rfl⟩
set_option maxHeartbeats 1000000 in
theorem pIsItem_any (x : Itm) (w : World) :
    Calls Tryz.prog 41 #[itmA x] w fun e w' => e = .returned (.bool (itmB x)) ∧ Below w.heap.size w w' := by
  unfold itmA itmB
  cases h1 : btw x.size 1 1000 <;> cases h2 : btw x.speed 0 1000
  all_goals
    go_enter Tryz.func41, Tryz.ntmps41
    go_wp2_with (first | (go_at_call 79; refine (within_any _ _ _ _).mono ?_; rintro e w' ⟨rfl, rfl⟩) | (go_at_call 80; refine (isClass_any _ _).mono ?_; rintro e w' ⟨rfl, rfl⟩))
    go_ret
    exact ⟨ret_bool (by simp), box3 _ _⟩
set_option maxHeartbeats 1000000 in
theorem pIsBin_any (y : Bn) (w : World) :
    Calls Tryz.prog 42 #[bnA y] w fun e w' => e = .returned (.bool (bnB y)) ∧ Below w.heap.size w w' := by
  unfold bnA bnB
  cases h1 : btw y.id 0 1000 <;> cases h2 : btw y.zone 0 9 <;> cases h3 : btw y.cap 1 1000 <;> cases h4 : btw y.used 0 y.cap
  all_goals
    go_enter Tryz.func42, Tryz.ntmps42
    go_wp2_with (first | (go_at_call 79; refine (within_any _ _ _ _).mono ?_; rintro e w' ⟨rfl, rfl⟩) | (go_at_call 80; refine (isClass_any _ _).mono ?_; rintro e w' ⟨rfl, rfl⟩))
    go_ret
    exact ⟨ret_bool (by simp), box3 _ _⟩
set_option maxHeartbeats 1000000 in
theorem rIsItem_any (x : Itm) (w : World) :
    Calls Tryz.prog 23 #[itmA x] w fun e w' => e = .returned (.bool (itmB x)) ∧ Below w.heap.size w w' := by
  unfold itmA itmB
  cases h1 : btw x.size 1 1000 <;> cases h2 : btw x.speed 0 1000
  all_goals
    go_enter Tryz.func23, Tryz.ntmps23
    go_wp2_with (go_at_call 45; refine (between_any _ _ _ _).mono ?_; rintro e w' ⟨rfl, rfl⟩)
    go_ret
    exact ⟨ret_bool (by simp), box3 _ _⟩
set_option maxHeartbeats 1000000 in
theorem rIsBin_any (y : Bn) (w : World) :
    Calls Tryz.prog 24 #[bnA y] w fun e w' => e = .returned (.bool (bnB y)) ∧ Below w.heap.size w w' := by
  unfold bnA bnB
  cases h1 : btw y.id 0 1000 <;> cases h2 : btw y.zone 0 9 <;> cases h3 : btw y.cap 1 1000 <;> cases h4 : btw y.used 0 y.cap
  all_goals
    go_enter Tryz.func24, Tryz.ntmps24
    go_wp2_with (go_at_call 45; refine (between_any _ _ _ _).mono ?_; rintro e w' ⟨rfl, rfl⟩)
    go_ret
    exact ⟨ret_bool (by simp), box3 _ _⟩
end Go.Proofs.YtkbbdfeobcklhaaGreatDoor
