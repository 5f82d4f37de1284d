/-
  Images of known making: what an operator makes of two numbers, and the fault.
-/
import Derived.Test.YtbdjcffmpbjjlaaDoorKeepG
set_option linter.unusedVariables false
set_option linter.unusedSimpArgs false
namespace Go.Proofs.YtbdjcffmpbjjlaaDoor
open Go.RowKit

set_option maxHeartbeats 1000000 in
theorem counted_sum (a b : Int) (ha : In64 a) (hb : In64 b) (w : World) :
    Calls Tryd.prog 23 #[.string ⟨#[43]⟩, .int .i64 a, .int .i64 b] w fun e w' => e = .returned (.tuple #[.int .i64 (exact64 (a + b)).1, .int .i64 (exact64 (a + b)).2]) ∧ Below w.heap.size w w' := by
  obtain ⟨ha1, ha2⟩ := ha
  obtain ⟨hb1, hb2⟩ := hb
  by_cases hi : In64 (a + b)
  · rw [exact_in hi]
    obtain ⟨h1, h2⟩ := hi
    have t : Hid ((decide (a ≤ a + b) == decide (0 ≤ b)) = true) := by
      have h : a ≤ a + b ↔ 0 ≤ b := by omega
      rw [Hid, beq_iff_eq]
      exact decide_eq_decide.2 h
    go_enter Tryd.func23, Tryd.ntmps23
    go_wp2
    all_goals go_ret2
    all_goals first | (rename_i h; rw [t.out] at h; exact absurd h (by decide)) | exact ⟨ret_two rfl rfl, Below.refl _ _⟩
  · rw [exact_out hi]
    have hi' : a + b < -9223372036854775808 ∨ 9223372036854775807 < a + b := by unfold In64 at hi; omega
    clear hi
    have t : Hid ((decide (a ≤ wrap64 (a + b)) == decide (0 ≤ b)) = false) := by
      have h : ¬ (a ≤ wrap64 (a + b) ↔ 0 ≤ b) := by unfold wrap64; omega
      rw [Hid, beq_eq_false_iff_ne]
      exact fun h' => h (decide_eq_decide.1 h')
    go_enter Tryd.func23, Tryd.ntmps23
    go_wp2
    all_goals go_ret2
    all_goals first | (rename_i h; rw [t.out] at h; exact absurd h (by decide)) | exact ⟨ret_two rfl rfl, Below.refl _ _⟩
set_option maxHeartbeats 1000000 in
theorem counted_diff (a b : Int) (ha : In64 a) (hb : In64 b) (w : World) :
    Calls Tryd.prog 23 #[.string ⟨#[45]⟩, .int .i64 a, .int .i64 b] w fun e w' => e = .returned (.tuple #[.int .i64 (exact64 (a - b)).1, .int .i64 (exact64 (a - b)).2]) ∧ Below w.heap.size w w' := by
  obtain ⟨ha1, ha2⟩ := ha
  obtain ⟨hb1, hb2⟩ := hb
  by_cases hi : In64 (a - b)
  · rw [exact_in hi]
    obtain ⟨h1, h2⟩ := hi
    have t : Hid ((decide (a - b ≤ a) == decide (0 ≤ b)) = true) := by
      have h : a - b ≤ a ↔ 0 ≤ b := by omega
      rw [Hid, beq_iff_eq]
      exact decide_eq_decide.2 h
    go_enter Tryd.func23, Tryd.ntmps23
    go_wp2
    all_goals go_ret2
    all_goals first | (rename_i h; rw [t.out] at h; exact absurd h (by decide)) | exact ⟨ret_two rfl rfl, Below.refl _ _⟩
  · rw [exact_out hi]
    have hi' : a - b < -9223372036854775808 ∨ 9223372036854775807 < a - b := by unfold In64 at hi; omega
    clear hi
    have t : Hid ((decide (wrap64 (a - b) ≤ a) == decide (0 ≤ b)) = false) := by
      have h : ¬ (wrap64 (a - b) ≤ a ↔ 0 ≤ b) := by unfold wrap64; omega
      rw [Hid, beq_eq_false_iff_ne]
      exact fun h' => h (decide_eq_decide.1 h')
    go_enter Tryd.func23, Tryd.ntmps23
    go_wp2
    all_goals go_ret2
    all_goals first | (rename_i h; rw [t.out] at h; exact absurd h (by decide)) | exact ⟨ret_two rfl rfl, Below.refl _ _⟩
set_option maxHeartbeats 1000000 in
theorem counted_prod (a b : Int) (ha : In64 a) (hb : In64 b) (w : World) :
    Calls Tryd.prog 23 #[.string ⟨#[42]⟩, .int .i64 a, .int .i64 b] w fun e w' => e = .returned (.tuple #[.int .i64 (exact64 (a * b)).1, .int .i64 (exact64 (a * b)).2]) ∧ Below w.heap.size w w' := by
  have HA := Hid.mk2 ha
  have HB := Hid.mk2 hb
  obtain ⟨ha1, ha2⟩ := ha
  obtain ⟨hb1, hb2⟩ := hb
  by_cases hi : In64 (a * b)
  · rw [exact_in hi]
    have HE : Hid (decide (In64 (a * b)) = true) := by simpa [Hid] using hi
    have HI := Hid.mk2 hi
    clear hi
    go_enter Tryd.func23, Tryd.ntmps23
    go_wp2_with (go_at_call 32; refine (crossed_any a b HA.out HB.out _).mono ?_; rintro e w1 ⟨⟨c, rfl, hc⟩, hb1⟩; rw [HE.out]; have HC := Hid.mk2 (hc HI.out); have HW := Hid.mk2 hb1; clear hc hb1)
    all_goals go_ret2
    all_goals exact ⟨ret_two HC.out rfl, HW.out⟩
  · rw [exact_out hi]
    have HE : Hid (decide (In64 (a * b)) = false) := by simpa [Hid] using hi
    clear hi
    go_enter Tryd.func23, Tryd.ntmps23
    go_wp2_with (go_at_call 32; refine (crossed_any a b HA.out HB.out _).mono ?_; rintro e w1 ⟨⟨c, rfl, hc⟩, hb1⟩; rw [HE.out]; have HW := Hid.mk2 hb1; clear hc hb1)
    all_goals go_ret2
    all_goals exact ⟨ret_two rfl rfl, HW.out⟩
set_option maxHeartbeats 1000000 in
theorem counted_quo (a b : Int) (ha : In64 a) (hb : In64 b) (w : World) :
    Calls Tryd.prog 23 #[.string ⟨#[47]⟩, .int .i64 a, .int .i64 b] w fun e w' => e = .returned (.tuple #[.int .i64 (joinN 7 a b).1, .int .i64 (joinN 7 a b).2]) ∧ Below w.heap.size w w' := by
  rw [join7 a b ha hb]
  by_cases h0 : b = 0
  · subst h0
    have e : divFault a 0 = 2 := by simp [divFault]
    rw [if_neg (by omega), e]
    go_enter Tryd.func23, Tryd.ntmps23
    go_wp2
    all_goals go_ret2
    all_goals exact ⟨ret_two rfl rfl, Below.refl _ _⟩
  have eb : (b == 0) = false := by simpa using h0
  by_cases h1 : a = -9223372036854775808 ∧ b = -1
  · obtain ⟨rfl, rfl⟩ := h1
    have e : divFault (-9223372036854775808) (-1) = 1 := by decide
    rw [if_neg (by omega), e]
    go_enter Tryd.func23, Tryd.ntmps23
    go_wp2
    all_goals go_ret2
    all_goals exact ⟨ret_two rfl rfl, Below.refl _ _⟩
  have e : divFault a b = 0 := by simp [divFault, h0, h1]
  rw [if_pos e]
  have HI : Hid (In64 (a.tdiv b)) := tdiv_in a b ha hb h0 h1
  have t2 : ((a == -9223372036854775808) && (b == -1)) = false := by
    rw [beq_dec, beq_dec]; simp; exact fun h h' => h1 ⟨h, h'⟩
  obtain ⟨ha1, ha2⟩ := ha
  obtain ⟨hb1, hb2⟩ := hb
  clear h1 e
  cases eA : (a == -9223372036854775808)
  · clear t2
    go_enter Tryd.func23, Tryd.ntmps23
    go_wp2
    all_goals go_ret2
    all_goals exact ⟨ret_two (wrap64_eq HI.out) rfl, Below.refl _ _⟩
  · have n1 : (b == -1) = false := by rw [eA] at t2; simpa using t2
    clear t2
    go_enter Tryd.func23, Tryd.ntmps23
    go_wp2
    all_goals go_ret2
    all_goals exact ⟨ret_two (wrap64_eq HI.out) rfl, Below.refl _ _⟩
set_option maxHeartbeats 1000000 in
theorem counted_rem (a b : Int) (ha : In64 a) (hb : In64 b) (w : World) :
    Calls Tryd.prog 23 #[.string ⟨#[37]⟩, .int .i64 a, .int .i64 b] w fun e w' => e = .returned (.tuple #[.int .i64 (joinN 8 a b).1, .int .i64 (joinN 8 a b).2]) ∧ Below w.heap.size w w' := by
  rw [join8 a b]
  by_cases h0 : b = 0
  · subst h0
    have e : divFault a 0 = 2 := by simp [divFault]
    rw [if_neg (by omega), e]
    go_enter Tryd.func23, Tryd.ntmps23
    go_wp2
    all_goals go_ret2
    all_goals exact ⟨ret_two rfl rfl, Below.refl _ _⟩
  have eb : (b == 0) = false := by simpa using h0
  by_cases h1 : a = -9223372036854775808 ∧ b = -1
  · obtain ⟨rfl, rfl⟩ := h1
    have e : divFault (-9223372036854775808) (-1) = 1 := by decide
    rw [if_neg (by omega), e]
    go_enter Tryd.func23, Tryd.ntmps23
    go_wp2
    all_goals go_ret2
    all_goals exact ⟨ret_two rfl rfl, Below.refl _ _⟩
  have e : divFault a b = 0 := by simp [divFault, h0, h1]
  rw [if_pos e]
  have HI : Hid (In64 (a.tmod b)) := (tmod_in a b ha).1
  have t2 : ((a == -9223372036854775808) && (b == -1)) = false := by
    rw [beq_dec, beq_dec]; simp; exact fun h h' => h1 ⟨h, h'⟩
  obtain ⟨ha1, ha2⟩ := ha
  obtain ⟨hb1, hb2⟩ := hb
  clear h1 e
  cases eA : (a == -9223372036854775808)
  · clear t2
    go_enter Tryd.func23, Tryd.ntmps23
    go_wp2
    all_goals go_ret2
    all_goals first | exact ⟨ret_two rfl rfl, Below.refl _ _⟩ | exact ⟨ret_two (wrap64_eq HI.out) rfl, Below.refl _ _⟩
  · have n1 : (b == -1) = false := by rw [eA] at t2; simpa using t2
    clear t2
    go_enter Tryd.func23, Tryd.ntmps23
    go_wp2
    all_goals go_ret2
    all_goals first | exact ⟨ret_two rfl rfl, Below.refl _ _⟩ | exact ⟨ret_two (wrap64_eq HI.out) rfl, Below.refl _ _⟩
/-- The five operators as the builder names them. -/
def signC (n : Nat) : Nat := if n = 4 then 43 else if n = 5 then 45 else if n = 6 then 42 else if n = 7 then 47 else 37
theorem counted_any (n : Nat) (hn : 4 ≤ n ∧ n ≤ 8) (a b : Int) (ha : In64 a) (hb : In64 b) (w : World) :
    Calls Tryd.prog 23 #[.string ⟨#[UInt8.ofNat (signC n)]⟩, .int .i64 a, .int .i64 b] w fun e w' => e = .returned (.tuple #[.int .i64 (joinN n a b).1, .int .i64 (joinN n a b).2]) ∧ Below w.heap.size w w' := by
  obtain rfl | rfl | rfl | rfl | rfl : n = 4 ∨ n = 5 ∨ n = 6 ∨ n = 7 ∨ n = 8 := by omega
  · exact counted_sum a b ha hb w
  · exact counted_diff a b ha hb w
  · exact counted_prod a b ha hb w
  · exact counted_quo a b ha hb w
  · exact counted_rem a b ha hb w
end Go.Proofs.YtbdjcffmpbjjlaaDoor
