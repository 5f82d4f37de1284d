/-
  Images of known making: what operators make of two numbers.
-/
import Derived.Test.YtbdjcffmpbjjlaaDoorKeepF
import Derived.BigQuiet
set_option linter.unusedVariables false
set_option linter.unusedSimpArgs false
namespace Go.Proofs.YtbdjcffmpbjjlaaDoor
open Go.RowKit

set_option maxHeartbeats 2000000 in
theorem crossed_any (a b : Int) (ha : In64 a) (hb : In64 b) (w : World) :
    Calls Tryd.prog 32 #[.int .i64 a, .int .i64 b] w fun e w' => (∃ c : Int, e = .returned (.tuple #[.int .i64 c, .bool (decide (In64 (a * b)))]) ∧ (In64 (a * b) → c = a * b)) ∧ Below w.heap.size w w' := by
  have HA := Hid.mk2 ha
  have HB := Hid.mk2 hb
  obtain ⟨a1, a2⟩ := ha
  obtain ⟨b1, b2⟩ := hb
  by_cases h0 : a = 0
  · subst h0
    have e : decide (In64 (0 * b)) = true := by rw [Int.zero_mul]; decide
    rw [e]
    go_enter Tryd.func32, Tryd.ntmps32
    go_wp2
    all_goals go_ret2
    all_goals exact ⟨⟨0, rfl, fun _ => (Int.zero_mul b).symm⟩, Below.refl _ _⟩
  have ea : (a == 0) = false := by simpa using h0
  by_cases h1 : b = 0
  · subst h1
    have e : decide (In64 (a * 0)) = true := by rw [Int.mul_zero]; decide
    rw [e]
    go_enter Tryd.func32, Tryd.ntmps32
    go_wp2
    all_goals go_ret2
    all_goals exact ⟨⟨0, rfl, fun _ => (Int.mul_zero a).symm⟩, Below.refl _ _⟩
  have eb : (b == 0) = false := by simpa using h1
  by_cases h2 : a = -9223372036854775808 ∧ b = -1
  · obtain ⟨rfl, rfl⟩ := h2
    have e : decide (In64 (-9223372036854775808 * -1)) = false := by decide
    rw [e]
    go_enter Tryd.func32, Tryd.ntmps32
    go_wp2
    all_goals go_ret2
    all_goals exact ⟨⟨0, rfl, fun h => absurd h (by decide)⟩, Below.refl _ _⟩
  by_cases h3 : b = -9223372036854775808 ∧ a = -1
  · obtain ⟨rfl, rfl⟩ := h3
    have e : decide (In64 (-1 * -9223372036854775808)) = false := by decide
    rw [e]
    go_enter Tryd.func32, Tryd.ntmps32
    go_wp2
    all_goals go_ret2
    all_goals exact ⟨⟨0, rfl, fun h => absurd h (by decide)⟩, Below.refl _ _⟩
  have q1 := quo_fine a b HA.out HB.out h0 (fun h => h3 ⟨h.2, h.1⟩)
  have q2 := quo_fine b a HB.out HA.out h1 (fun h => h2 ⟨h.2, h.1⟩)
  have m1 := mul_test b a HB.out HA.out h0
  have m2 := mul_test a b HA.out HB.out h1
  rw [wmul] at m1 m2
  rw [Int.mul_comm b a] at m1 q2
  have g1 : (wrap64 ((wrap64 (a * b)).tdiv a) == b) = decide (In64 (a * b)) := by
    rw [q1, beq_dec]
    simp only [m1]
  have g2 : (wrap64 ((wrap64 (a * b)).tdiv b) == a) = decide (In64 (a * b)) := by
    rw [q2, beq_dec]
    simp only [m2]
  have g3 : Hid (In64 (a * b) → wrap64 (a * b) = a * b) := fun h => wrap64_eq h
  have t2 : ((a == -9223372036854775808) && (b == -1)) = false := by
    rw [beq_dec, beq_dec]; simp; exact fun h h' => h2 ⟨h, h'⟩
  have t3 : ((b == -9223372036854775808) && (a == -1)) = false := by
    rw [beq_dec, beq_dec]; simp; exact fun h h' => h3 ⟨h, h'⟩
  clear q1 q2 m1 m2 h2 h3
  by_cases hi : In64 (a * b)
  · have e : decide (In64 (a * b)) = true := by simpa using hi
    rw [e] at g1 g2 ⊢
    have k1 : (IntKind.i64.wrap ((wrap64 (a * b)).tdiv a) == b) = true := by rw [IntWalk.i64_left]; exact g1
    have k2 : (IntKind.i64.wrap ((wrap64 (a * b)).tdiv b) == a) = true := by rw [IntWalk.i64_left]; exact g2
    have G := Hid.mk2 (g3.out hi)
    clear hi g3 e
    cases eA : (a == -9223372036854775808) <;> cases eB : (b == -9223372036854775808)
    · clear t2 t3
      go_enter Tryd.func32, Tryd.ntmps32
      go_wp2
      go_quiet (fail)
      go_wp2
      go_ret2
      exact ⟨⟨_, rfl, fun _ => G.out⟩, below_drewN (Below.refl _ w) _⟩
    · have n2 : (a == -1) = false := by rw [eB] at t3; simpa using t3
      clear t2 t3
      go_enter Tryd.func32, Tryd.ntmps32
      go_wp2
      go_quiet (fail)
      go_wp2
      go_ret2
      exact ⟨⟨_, rfl, fun _ => G.out⟩, below_drewN (Below.refl _ w) _⟩
    · have n1 : (b == -1) = false := by rw [eA] at t2; simpa using t2
      clear t2 t3
      go_enter Tryd.func32, Tryd.ntmps32
      go_wp2
      go_quiet (fail)
      go_wp2
      go_ret2
      exact ⟨⟨_, rfl, fun _ => G.out⟩, below_drewN (Below.refl _ w) _⟩
    · have n1 : (b == -1) = false := by rw [eA] at t2; simpa using t2
      have n2 : (a == -1) = false := by rw [eB] at t3; simpa using t3
      clear t2 t3
      go_enter Tryd.func32, Tryd.ntmps32
      go_wp2
      go_quiet (fail)
      go_wp2
      go_ret2
      exact ⟨⟨_, rfl, fun _ => G.out⟩, below_drewN (Below.refl _ w) _⟩
  · have e : decide (In64 (a * b)) = false := by simpa using hi
    rw [e] at g1 g2 ⊢
    have k1 : (IntKind.i64.wrap ((wrap64 (a * b)).tdiv a) == b) = false := by rw [IntWalk.i64_left]; exact g1
    have k2 : (IntKind.i64.wrap ((wrap64 (a * b)).tdiv b) == a) = false := by rw [IntWalk.i64_left]; exact g2
    have G := Hid.mk2 hi
    clear hi g3 e
    cases eA : (a == -9223372036854775808) <;> cases eB : (b == -9223372036854775808)
    · clear t2 t3
      go_enter Tryd.func32, Tryd.ntmps32
      go_wp2
      go_quiet (fail)
      go_wp2
      go_ret2
      exact ⟨⟨_, rfl, fun h => absurd h G.out⟩, below_drewN (Below.refl _ w) _⟩
    · have n2 : (a == -1) = false := by rw [eB] at t3; simpa using t3
      clear t2 t3
      go_enter Tryd.func32, Tryd.ntmps32
      go_wp2
      go_quiet (fail)
      go_wp2
      go_ret2
      exact ⟨⟨_, rfl, fun h => absurd h G.out⟩, below_drewN (Below.refl _ w) _⟩
    · have n1 : (b == -1) = false := by rw [eA] at t2; simpa using t2
      clear t2 t3
      go_enter Tryd.func32, Tryd.ntmps32
      go_wp2
      go_quiet (fail)
      go_wp2
      go_ret2
      exact ⟨⟨_, rfl, fun h => absurd h G.out⟩, below_drewN (Below.refl _ w) _⟩
    · have n1 : (b == -1) = false := by rw [eA] at t2; simpa using t2
      have n2 : (a == -1) = false := by rw [eB] at t3; simpa using t3
      clear t2 t3
      go_enter Tryd.func32, Tryd.ntmps32
      go_wp2
      go_quiet (fail)
      go_wp2
      go_ret2
      exact ⟨⟨_, rfl, fun h => absurd h G.out⟩, below_drewN (Below.refl _ w) _⟩
end Go.Proofs.YtbdjcffmpbjjlaaDoor
