/-
  Products, quotients and what is left over, by both sides; then all operators of two numbers.
-/
import Derived.Test.YtkbbdfeobcklhaaGreatDoorRunA
set_option linter.unusedVariables false
set_option linter.unusedSimpArgs false
namespace Go.Proofs.YtkbbdfeobcklhaaGreatDoor
open Go.RowKit

theorem quo_neg (x : Int) (hx : In64 x) (h : 0 < x) : wrap64 (-Int.tdiv 9223372036854775808 x) = (-9223372036854775808 : Int).tdiv x := by
  have e : (-9223372036854775808 : Int).tdiv x = -Int.tdiv 9223372036854775808 x := by
    rw [show (-9223372036854775808 : Int) = -(9223372036854775808 : Int) from rfl, Int.neg_tdiv]
  rw [← e]
  exact wrap64_eq (tdiv_in _ x (by decide) hx (by omega) (by omega))
theorem quo_neg2 (x : Int) (hx : In64 x) (h : x < 0) (hl : -9223372036854775808 < x) : wrap64 (-Int.tdiv 9223372036854775807 x) = (9223372036854775807 : Int).tdiv (-x) := by
  rw [← Int.tdiv_neg]
  exact wrap64_eq (tdiv_in _ (-x) (by decide) (by unfold In64 at *; omega) (by omega) (by omega))
set_option maxHeartbeats 1000000 in
theorem rproduct_any (a b : Int) (ha : In64 a) (hb : In64 b) (w : World) :
    Calls Tryz.prog 88 #[.int .i64 a, .int .i64 b] w fun e w' => e = .returned (.tuple #[.int .i64 (exact64 (a * b)).1, .bool (decide ((exact64 (a * b)).2 = 0))]) ∧ w' = w := by
  have HA : Hid (In64 a) := ha
  have HB : Hid (In64 b) := hb
  obtain ⟨ha1, ha2⟩ := ha
  obtain ⟨hb1, hb2⟩ := hb
  by_cases h0 : a = 0 ∨ b = 0
  · have e : exact64 (a * b) = (0, 0) := by
      have : a * b = 0 := by rcases h0 with h | h <;> simp [h]
      rw [this]; exact exact_in (by decide)
    rw [e]
    clear e HA HB
    by_cases h1 : a = 0
    · subst h1
      go_enter Tryz.func88, Tryz.ntmps88
      go_wp2
      all_goals go_ret2
      all_goals exact ⟨ret_ib rfl rfl, rfl⟩
    · have h2 : b = 0 := by omega
      subst h2
      have hb : (a == 0) = false := by simpa using h1
      clear h0 h1
      go_enter Tryz.func88, Tryz.ntmps88
      go_wp2
      all_goals go_ret2
      all_goals exact ⟨ret_ib rfl rfl, rfl⟩
  have ea : (a == 0) = false := by simp; omega
  have eb : (b == 0) = false := by simp; omega
  have hane : a ≠ 0 := by omega
  have hbne : b ≠ 0 := by omega
  clear h0
  by_cases hp : 0 < a
  · by_cases hq : 0 < b
    · have hmul := mul_pp a b HA.out HB.out hp hq
      by_cases hi : In64 (a * b)
      · rw [exact_in hi]
        have HI : Hid (In64 (a * b)) := hi
        have hdec : a ≤ 9223372036854775807 / b := by have := hmul.2 hi; rw [Int.tdiv_eq_ediv_of_nonneg (by omega)] at this; omega
        clear hi hmul
        go_enter Tryz.func88, Tryz.ntmps88
        go_wp2
        all_goals go_ret2
        all_goals first | exact ⟨ret_ib (wrap64_eq HI.out) rfl, rfl⟩ | (exfalso; go_light; omega)
      · rw [exact_out hi]
        have hdec : 9223372036854775807 / b < a := by have h : ¬ ¬ ((9223372036854775807 : Int).tdiv b < a) := fun x => hi (hmul.1 x); rw [Int.tdiv_eq_ediv_of_nonneg (by omega)] at h; omega
        clear hi hmul
        go_enter Tryz.func88, Tryz.ntmps88
        go_wp2
        all_goals go_ret2
        all_goals first | exact ⟨ret_ib rfl rfl, rfl⟩ | (exfalso; go_light; omega)
    · have hq' : b < 0 := by omega
      have hmul := mul_pn a b HA.out HB.out hp hq'
      by_cases hi : In64 (a * b)
      · rw [exact_in hi]
        have HI : Hid (In64 (a * b)) := hi
        have hdec : wrap64 (-Int.tdiv 9223372036854775808 a) ≤ b := by rw [quo_neg a HA.out hp]; have := hmul.2 hi; omega
        clear hi hmul
        go_enter Tryz.func88, Tryz.ntmps88
        go_wp2
        all_goals go_ret2
        all_goals first | exact ⟨ret_ib (wrap64_eq HI.out) rfl, rfl⟩ | (exfalso; go_light; omega)
      · rw [exact_out hi]
        have hdec : b < wrap64 (-Int.tdiv 9223372036854775808 a) := by rw [quo_neg a HA.out hp]; have h : ¬ ¬ (b < (-9223372036854775808 : Int).tdiv a) := fun x => hi (hmul.1 x); omega
        clear hi hmul
        go_enter Tryz.func88, Tryz.ntmps88
        go_wp2
        all_goals go_ret2
        all_goals first | exact ⟨ret_ib rfl rfl, rfl⟩ | (exfalso; go_light; omega)
  · have hp' : a < 0 := by omega
    by_cases hq : 0 < b
    · have hmul := mul_np a b HA.out HB.out hp' hq
      by_cases hi : In64 (a * b)
      · rw [exact_in hi]
        have HI : Hid (In64 (a * b)) := hi
        have hdec : wrap64 (-Int.tdiv 9223372036854775808 b) ≤ a := by rw [quo_neg b HB.out hq]; have := hmul.2 hi; omega
        clear hi hmul
        go_enter Tryz.func88, Tryz.ntmps88
        go_wp2
        all_goals go_ret2
        all_goals first | exact ⟨ret_ib (wrap64_eq HI.out) rfl, rfl⟩ | (exfalso; go_light; omega)
      · rw [exact_out hi]
        have hdec : a < wrap64 (-Int.tdiv 9223372036854775808 b) := by rw [quo_neg b HB.out hq]; have h : ¬ ¬ (a < (-9223372036854775808 : Int).tdiv b) := fun x => hi (hmul.1 x); omega
        clear hi hmul
        go_enter Tryz.func88, Tryz.ntmps88
        go_wp2
        all_goals go_ret2
        all_goals first | exact ⟨ret_ib rfl rfl, rfl⟩ | (exfalso; go_light; omega)
    · have hq' : b < 0 := by omega
      by_cases hl : a = -9223372036854775808 ∨ b = -9223372036854775808
      · rw [exact_out (mul_least a b hp' hq' hl)]
        have hcs : (a == -9223372036854775808) = true ∨ ((a == -9223372036854775808) = false ∧ (b == -9223372036854775808) = true) := by
          by_cases h : a = -9223372036854775808
          · exact .inl (by simpa using h)
          · exact .inr ⟨by simpa using h, by simp; omega⟩
        clear hl
        rcases hcs with h1 | ⟨h1, h2⟩
        all_goals
          go_enter Tryz.func88, Tryz.ntmps88
          go_wp2
          all_goals go_ret2
          all_goals first | exact ⟨ret_ib rfl rfl, rfl⟩ | (exfalso; go_light; omega)
      · have hl1 : (a == -9223372036854775808) = false := by simp; omega
        have hl2 : (b == -9223372036854775808) = false := by simp; omega
        have hmul := mul_nn a b HA.out HB.out hp' hq' (by omega) (by omega)
        have hla : -9223372036854775808 < a := by omega
        have hlb : -9223372036854775808 < b := by omega
        clear hl
        by_cases hi : In64 (a * b)
        · rw [exact_in hi]
          have HI : Hid (In64 (a * b)) := hi
          have hdec : -a ≤ wrap64 (-Int.tdiv 9223372036854775807 b) := by rw [quo_neg2 b HB.out hq' hlb]; have := hmul.2 hi; omega
          clear hi hmul
          go_enter Tryz.func88, Tryz.ntmps88
          go_wp2
          all_goals go_ret2
          all_goals first | exact ⟨ret_ib (wrap64_eq HI.out) rfl, rfl⟩ | (exfalso; go_light; omega)
        · rw [exact_out hi]
          have hdec : wrap64 (-Int.tdiv 9223372036854775807 b) < -a := by rw [quo_neg2 b HB.out hq' hlb]; have h : ¬ ¬ ((9223372036854775807 : Int).tdiv (-b) < -a) := fun x => hi (hmul.1 x); omega
          clear hi hmul
          go_enter Tryz.func88, Tryz.ntmps88
          go_wp2
          all_goals go_ret2
          all_goals first | exact ⟨ret_ib rfl rfl, rfl⟩ | (exfalso; go_light; omega)
theorem wmul (a b : Int) : IntKind.i64.wrap (a * b) = wrap64 (a * b) := IntWalk.i64_left _
set_option maxHeartbeats 1000000 in
theorem pproduct_any (a b : Int) (ha : In64 a) (hb : In64 b) (w : World) :
    Calls Tryz.prog 173 #[.int .i64 a, .int .i64 b] w fun e w' => e = .returned (.tuple #[.int .i64 (exact64 (a * b)).1, .int .i64 (exact64 (a * b)).2]) ∧ w' = w := by
  have HA : Hid (In64 a) := ha
  have HB : Hid (In64 b) := hb
  obtain ⟨ha1, ha2⟩ := ha
  obtain ⟨hb1, hb2⟩ := hb
  by_cases h0 : b = 0
  · have e : exact64 (a * b) = (0, 0) := by rw [h0, Int.mul_zero]; exact exact_in (by decide)
    rw [e]
    subst h0
    clear e
    go_enter Tryz.func173, Tryz.ntmps173
    go_wp2
    all_goals go_ret2
    all_goals exact ⟨ret_two rfl rfl, rfl⟩
  have eb : (b == 0) = false := by simpa using h0
  by_cases h1 : b = -1
  · have e : exact64 (a * b) = negN a := by rw [h1]; unfold negN; congr 1; omega
    rw [e]
    subst h1
    clear e
    go_enter Tryz.func173, Tryz.ntmps173
    go_wp2_with (go_at_call 169; refine (negated_any a HA.out _).mono ?_; rintro e w' ⟨rfl, rfl⟩)
    all_goals go_ret2
    all_goals exact ⟨ret_two rfl rfl, rfl⟩
  have eb1 : (b == -1) = false := by simpa using h1
  have hmul := mul_test a b HA.out HB.out h0
  have hin : In64 ((wrap64 (a * b)).tdiv b) := by rw [← wmul]; exact tdiv_in _ b (in_wrap _) HB.out h0 (by omega)
  have HQ : Hid (wrap64 ((wrap64 (a * b)).tdiv b) = (wrap64 (a * b)).tdiv b) := wrap64_eq hin
  rw [wmul] at hmul
  have HM : Hid ((wrap64 (a * b)).tdiv b = a ↔ In64 (a * b)) := hmul
  clear hmul hin
  by_cases hi : In64 (a * b)
  · rw [exact_in hi]
    have HI : Hid (In64 (a * b)) := hi
    have hd : (wrap64 ((wrap64 (a * b)).tdiv b) == a) = true := by rw [HQ.out]; simpa using HM.out.2 hi
    have hd' : (wrap64 ((wrap64 (a * b)).tdiv b) != a) = false := by simp [bne, hd]
    clear hi
    go_enter Tryz.func173, Tryz.ntmps173
    go_wp2
    all_goals go_ret2
    all_goals exact ⟨ret_two (wrap64_eq HI.out) rfl, rfl⟩
  · rw [exact_out hi]
    have hd : (wrap64 ((wrap64 (a * b)).tdiv b) == a) = false := by rw [HQ.out]; simpa using fun h => hi (HM.out.1 h)
    have hd' : (wrap64 ((wrap64 (a * b)).tdiv b) != a) = true := by simp [bne, hd]
    clear hi
    go_enter Tryz.func173, Tryz.ntmps173
    go_wp2
    all_goals go_ret2
    all_goals exact ⟨ret_two rfl rfl, rfl⟩
end Go.Proofs.YtkbbdfeobcklhaaGreatDoor
