/-
  What the operators are worth, of numbers of 64 bits: plain; and that both ways of telling an overflow of a product tell it.
-/
import Derived.WalkKit
import Derived.WalkSpells
set_option linter.unusedVariables false
set_option linter.unusedSimpArgs false
namespace Go.Proofs.YtkbbdfeobcklhaaGreatDoor
open Go.RowKit

/-- A number of 64 bits. -/
abbrev In64 (n : Int) : Prop := -9223372036854775808 ≤ n ∧ n ≤ 9223372036854775807
theorem wrap_in {n : Int} (h : In64 n) : IntKind.i64.wrap n = n := IntWalk.i64_in n h
theorem in_wrap (n : Int) : In64 (IntKind.i64.wrap n) := by rw [IntKind.wrap_i64]; unfold In64; omega
theorem wrap_off (n : Int) : ∃ k : Int, IntKind.i64.wrap n = n + 18446744073709551616 * k := by
  rw [IntKind.wrap_i64]
  exact ⟨-((n + 9223372036854775808) / 18446744073709551616), by omega⟩

/-- A number, or the kind of a fault. -/
def exact64 (v : Int) : Int × Nat := if In64 v then (v, 0) else (0, 1)
def bitN (b : Bool) : Int := if b then 1 else 0
/-- What an operation of two numbers is worth. -/
def joinN (c : Nat) (a b : Int) : Int × Nat :=
  if c = 4 then exact64 (a + b)
  else if c = 5 then exact64 (a - b)
  else if c = 6 then exact64 (a * b)
  else if c = 7 then (if b = 0 then (0, 2) else exact64 (a.tdiv b))
  else if c = 8 then (if b = 0 then (0, 2) else if a = -9223372036854775808 ∧ b = -1 then (0, 1) else (a.tmod b, 0))
  else if c = 9 then (bitN (decide (a < b)), 0)
  else if c = 10 then (bitN (decide (a ≤ b)), 0)
  else if c = 11 then (bitN (decide (a = b)), 0)
  else (bitN (decide (a ≠ b)), 0)
/-- What an operation of one number is worth. -/
def negN (a : Int) : Int × Nat := exact64 (0 - a)

theorem exact_in {v : Int} (h : In64 v) : exact64 v = (v, 0) := if_pos h
theorem exact_out {v : Int} (h : ¬ In64 v) : exact64 v = (0, 1) := if_neg h

theorem tdiv_bound (a b : Int) (hb : b ≠ 0) : (a - b * a.tdiv b).natAbs < b.natAbs := by
  have h1 := Int.tmod_add_mul_tdiv a b
  have h2 : a - b * a.tdiv b = a.tmod b := by omega
  rw [h2, Int.natAbs_tmod]
  exact Nat.mod_lt _ (by omega)
theorem tdiv_in (a b : Int) (ha : In64 a) (hb : In64 b) (h0 : b ≠ 0) (hne : ¬ (a = -9223372036854775808 ∧ b = -1)) : In64 (a.tdiv b) := by
  have hab : (a.tdiv b).natAbs = a.natAbs / b.natAbs := Int.natAbs_tdiv a b
  have hle : (a.tdiv b).natAbs ≤ a.natAbs := by rw [hab]; exact Nat.div_le_self _ _
  unfold In64 at *
  by_cases h1 : a = -9223372036854775808
  · have hb1 : b ≠ -1 := fun h => hne ⟨h1, h⟩
    by_cases hb2 : b = 1
    · subst hb2; rw [Int.tdiv_one]; exact ha
    · have h2 : 2 ≤ b.natAbs := by omega
      have : a.natAbs / b.natAbs ≤ a.natAbs / 2 := Nat.div_le_div_left h2 (by omega)
      omega
  · omega
theorem tdiv_out : ¬ In64 ((-9223372036854775808 : Int).tdiv (-1)) := by decide
theorem join_div (a b : Int) (ha : In64 a) (hb : In64 b) (h0 : b ≠ 0) : joinN 7 a b = if a = -9223372036854775808 ∧ b = -1 then (0, 1) else (a.tdiv b, 0) := by
  simp only [joinN]
  rw [if_neg (by omega), if_neg (by omega), if_neg (by omega), if_pos trivial, if_neg h0]
  split
  · rename_i h; rw [h.1, h.2]; exact exact_out tdiv_out
  · rename_i h; exact exact_in (tdiv_in a b ha hb h0 h)
/-- The program's test of a product. -/
theorem mul_test (a b : Int) (ha : In64 a) (hb : In64 b) (h0 : b ≠ 0) : (IntKind.i64.wrap (a * b)).tdiv b = a ↔ In64 (a * b) := by
  constructor
  · intro h
    obtain ⟨k, hk⟩ := wrap_off (a * b)
    have hi := in_wrap (a * b)
    have h1 := tdiv_bound (IntKind.i64.wrap (a * b)) b h0
    rw [h, Int.mul_comm b a] at h1
    by_cases hk0 : k = 0
    · rw [hk, hk0] at hi; simpa using hi
    · unfold In64 at *
      omega
  · intro h
    rw [wrap_in h]
    exact Int.mul_tdiv_cancel a h0
/-- The document's tests of a product. -/
theorem mul_pp (a b : Int) (ha : In64 a) (hb : In64 b) (h1 : 0 < a) (h2 : 0 < b) : ¬ ((9223372036854775807 : Int).tdiv b < a) ↔ In64 (a * b) := by
  have hpos := Int.mul_pos h1 h2
  rw [Int.tdiv_eq_ediv_of_nonneg (by omega)]
  unfold In64
  constructor
  · intro h
    have := Int.mul_le_of_le_ediv h2 (Int.not_lt.1 h)
    omega
  · rintro ⟨_, h⟩
    exact Int.not_lt.2 ((Int.le_ediv_iff_mul_le h2).2 h)
theorem mul_pn (a b : Int) (ha : In64 a) (hb : In64 b) (h1 : 0 < a) (h2 : b < 0) : ¬ (b < (-9223372036854775808 : Int).tdiv a) ↔ In64 (a * b) := by
  have hneg : a * b < 0 := Int.mul_neg_of_pos_of_neg h1 h2
  have e : (-9223372036854775808 : Int).tdiv a = -((9223372036854775808 : Int) / a) := by
    rw [show (-9223372036854775808 : Int) = -(9223372036854775808 : Int) from rfl, Int.neg_tdiv, Int.tdiv_eq_ediv_of_nonneg (by omega)]
  have h3 : (9223372036854775808 : Int) / a < -b ↔ 9223372036854775808 < -b * a := Int.ediv_lt_iff_lt_mul h1
  have h4 : -b * a = -(a * b) := by rw [Int.neg_mul, Int.mul_comm]
  rw [e]
  rw [h4] at h3
  unfold In64
  constructor
  · intro h
    have : ¬ ((9223372036854775808 : Int) / a < -b) := by omega
    rw [h3] at this
    omega
  · intro h hh
    have : (9223372036854775808 : Int) / a < -b := by omega
    rw [h3] at this
    omega
theorem mul_np (a b : Int) (ha : In64 a) (hb : In64 b) (h1 : a < 0) (h2 : 0 < b) : ¬ (a < (-9223372036854775808 : Int).tdiv b) ↔ In64 (a * b) := by
  rw [Int.mul_comm a b]; exact mul_pn b a hb ha h2 h1
theorem mul_nn (a b : Int) (ha : In64 a) (hb : In64 b) (h1 : a < 0) (h2 : b < 0) (h3 : a ≠ -9223372036854775808) (h4 : b ≠ -9223372036854775808) : ¬ ((9223372036854775807 : Int).tdiv (-b) < -a) ↔ In64 (a * b) := by
  have := mul_pp (-a) (-b) (by unfold In64 at *; omega) (by unfold In64 at *; omega) (by omega) (by omega)
  rw [Int.neg_mul_neg] at this
  exact this
theorem mul_least (a b : Int) (h1 : a < 0) (h2 : b < 0) (h : a = -9223372036854775808 ∨ b = -9223372036854775808) : ¬ In64 (a * b) := by
  unfold In64
  rcases h with rfl | rfl <;> omega
theorem rem_eq (a b : Int) : a - b * a.tdiv b = a.tmod b := by have := Int.tmod_add_mul_tdiv a b; omega
theorem join_in (c : Nat) (a b : Int) (ha : In64 a) (hb : In64 b) : In64 (joinN c a b).1 := by
  have e : ∀ v, In64 (exact64 v).1 := fun v => by unfold exact64; split <;> simp_all [In64]
  have e0 : In64 (0 : Int) := by decide
  have e1 : ∀ x, In64 (bitN x) := fun x => by cases x <;> decide
  have em : In64 (a.tmod b) := by
    have h2 : (a.tmod b).natAbs = a.natAbs % b.natAbs := Int.natAbs_tmod a b
    have h3 := Nat.mod_le a.natAbs b.natAbs
    have h4 := Int.tmod_nonneg (a := a) b
    unfold In64 at *
    by_cases h : 0 ≤ a
    · have := h4 h; omega
    · have h5 := Int.tmod_nonneg (a := -a) b (by omega)
      rw [Int.neg_tmod] at h5
      omega
  unfold joinN
  repeat' split
  all_goals first | exact e _ | exact e0 | exact e1 _ | exact em
theorem neg_in (a : Int) : In64 (negN a).1 := by unfold negN exact64; split <;> simp_all [In64]
end Go.Proofs.YtkbbdfeobcklhaaGreatDoor
