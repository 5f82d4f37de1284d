/-
  All operators of one and of two numbers, by both sides.
-/
import Derived.Test.YtkbbdfeobcklhaaGreatDoorRunB
set_option linter.unusedVariables false
set_option linter.unusedSimpArgs false
namespace Go.Proofs.YtkbbdfeobcklhaaGreatDoor
open Go.RowKit

def divFault (a b : Int) : Nat := if b = 0 then 2 else if a = -9223372036854775808 ∧ b = -1 then 1 else 0
theorem tmod_in (a b : Int) (ha : In64 a) : In64 (a.tmod b) ∧ In64 (a - a.tmod b) := by
  have h2 : (a.tmod b).natAbs = a.natAbs % b.natAbs := Int.natAbs_tmod a b
  have h3 := Nat.mod_le a.natAbs b.natAbs
  have h4 := Int.tmod_nonneg (a := a) b
  unfold In64 at *
  by_cases h : 0 ≤ a
  · have := h4 h; omega
  · have h5 := Int.tmod_nonneg (a := -a) b (by omega)
    rw [Int.neg_tmod] at h5
    omega
theorem join7 (a b : Int) (ha : In64 a) (hb : In64 b) : joinN 7 a b = if divFault a b = 0 then (a.tdiv b, 0) else (0, divFault a b) := by
  unfold divFault
  by_cases h0 : b = 0
  · simp [joinN, h0]
  · rw [join_div a b ha hb h0]
    by_cases h1 : a = -9223372036854775808 ∧ b = -1
    · simp [h0, h1]
    · rw [if_neg h1, if_neg h0, if_neg h1]; rfl
theorem join8 (a b : Int) : joinN 8 a b = if divFault a b = 0 then (a.tmod b, 0) else (0, divFault a b) := by
  unfold divFault
  by_cases h0 : b = 0
  · simp [joinN, h0]
  · by_cases h1 : a = -9223372036854775808 ∧ b = -1
    · simp [joinN, h0, h1]
    · simp only [joinN]
      rw [if_neg (by omega), if_neg (by omega), if_neg (by omega), if_neg (by omega), if_pos trivial, if_neg h0, if_neg h1, if_neg h0, if_neg h1]; rfl
set_option maxHeartbeats 400000 in
theorem fod_any (a b : Int) (w : World) :
    Calls Tryz.prog 192 #[.int .i64 a, .int .i64 b] w fun e w' => e = .returned (.int .i64 (divFault a b)) ∧ w' = w := by
  by_cases h0 : b = 0
  · have e : divFault a b = 2 := by simp [divFault, h0]
    rw [e]
    subst h0
    clear e
    go_enter Tryz.func192, Tryz.ntmps192
    go_wp2
    go_ret
    exact ⟨rfl, rfl⟩
  have eb : (b == 0) = false := by simpa using h0
  by_cases h1 : a = -9223372036854775808
  · by_cases h2 : b = -1
    · have e : divFault a b = 1 := by simp [divFault, h1, h2]
      rw [e]
      subst h1; subst h2
      clear e
      go_enter Tryz.func192, Tryz.ntmps192
      go_wp2
      go_ret
      exact ⟨rfl, rfl⟩
    · have e : divFault a b = 0 := by simp [divFault, h0, h2]
      rw [e]
      have eb1 : (b == -1) = false := by simpa using h2
      subst h1
      clear e h2 h0
      go_enter Tryz.func192, Tryz.ntmps192
      go_wp2
      go_ret
      exact ⟨rfl, rfl⟩
  · have e : divFault a b = 0 := by simp [divFault, h0, h1]
    rw [e]
    have ea : (a == -9223372036854775808) = false := by simpa using h1
    clear e h1 h0
    go_enter Tryz.func192, Tryz.ntmps192
    go_wp2
    go_ret
    exact ⟨rfl, rfl⟩
theorem divFault_cases (a b : Int) : divFault a b = 0 ∧ b ≠ 0 ∧ ¬ (a = -9223372036854775808 ∧ b = -1) ∨ divFault a b = 1 ∨ divFault a b = 2 := by
  unfold divFault
  by_cases h0 : b = 0
  · simp [h0]
  · by_cases h1 : a = -9223372036854775808 ∧ b = -1
    · simp [h0, h1]
    · exact .inl ⟨by rw [if_neg h0, if_neg h1], h0, h1⟩
set_option maxHeartbeats 400000 in
theorem quotient_any (a b : Int) (ha : In64 a) (hb : In64 b) (w : World) :
    Calls Tryz.prog 174 #[.int .i64 a, .int .i64 b] w fun e w' => e = .returned (.tuple #[.int .i64 (joinN 7 a b).1, .int .i64 (joinN 7 a b).2]) ∧ w' = w := by
  rw [join7 a b ha hb]
  rcases divFault_cases a b with ⟨h, h0, h1⟩ | h | h
  · rw [if_pos h]
    have HI : Hid (In64 (a.tdiv b)) := tdiv_in a b ha hb h0 h1
    have eb : (b == 0) = false := by simpa using h0
    have HH : Hid (divFault a b = 0) := h
    obtain ⟨ha1, ha2⟩ := ha
    obtain ⟨hb1, hb2⟩ := hb
    clear h h1
    go_enter Tryz.func174, Tryz.ntmps174
    go_wp2_with (go_at_call 192; refine (fod_any a b _).mono ?_; rintro e w' ⟨rfl, rfl⟩; rw [HH.out])
    go_ret2
    exact ⟨ret_two (wrap64_eq HI.out) rfl, rfl⟩
  all_goals
    rw [if_neg (by omega), h]
    have HH := h
    clear ha hb
    go_enter Tryz.func174, Tryz.ntmps174
    go_wp2_with (go_at_call 192; refine (fod_any a b _).mono ?_; rintro e w' ⟨rfl, rfl⟩; rw [HH])
    go_ret2
    exact ⟨ret_two rfl rfl, rfl⟩
set_option maxHeartbeats 400000 in
theorem remainder_any (a b : Int) (ha : In64 a) (hb : In64 b) (w : World) :
    Calls Tryz.prog 175 #[.int .i64 a, .int .i64 b] w fun e w' => e = .returned (.tuple #[.int .i64 (joinN 8 a b).1, .int .i64 (joinN 8 a b).2]) ∧ w' = w := by
  rw [join8 a b]
  rcases divFault_cases a b with ⟨h, h0, h1⟩ | h | h
  · rw [if_pos h]
    have HI : Hid (In64 (a.tmod b)) := (tmod_in a b ha).1
    have eb : (b == 0) = false := by simpa using h0
    have HH : Hid (divFault a b = 0) := h
    obtain ⟨ha1, ha2⟩ := ha
    obtain ⟨hb1, hb2⟩ := hb
    clear h h1
    go_enter Tryz.func175, Tryz.ntmps175
    go_wp2_with (go_at_call 192; refine (fod_any a b _).mono ?_; rintro e w' ⟨rfl, rfl⟩; rw [HH.out])
    go_ret2
    exact ⟨ret_two (by first | rfl | exact wrap64_eq HI.out) rfl, rfl⟩
  all_goals
    rw [if_neg (by omega), h]
    have HH := h
    clear ha hb
    go_enter Tryz.func175, Tryz.ntmps175
    go_wp2_with (go_at_call 192; refine (fod_any a b _).mono ?_; rintro e w' ⟨rfl, rfl⟩; rw [HH])
    go_ret2
    exact ⟨ret_two rfl rfl, rfl⟩
end Go.Proofs.YtkbbdfeobcklhaaGreatDoor
