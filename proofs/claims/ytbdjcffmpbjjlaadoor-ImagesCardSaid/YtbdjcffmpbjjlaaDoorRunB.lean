/-
  Products, quotients and what is left over, by both sides; then all operators of two numbers.
-/
import Derived.Test.YtbdjcffmpbjjlaaDoorRunA
set_option linter.unusedVariables false
set_option linter.unusedSimpArgs false
namespace Go.Proofs.YtbdjcffmpbjjlaaDoor
open Go.RowKit

theorem quo_neg (x : Int) (hx : In64 x) (h : 0 < x) : wrap64 (-Int.tdiv 9223372036854775808 x) = (-9223372036854775808 : Int).tdiv x := by
  have e : (-9223372036854775808 : Int).tdiv x = -Int.tdiv 9223372036854775808 x := by
    rw [show (-9223372036854775808 : Int) = -(9223372036854775808 : Int) from rfl, Int.neg_tdiv]
  rw [← e]
  exact wrap64_eq (tdiv_in _ x (by decide) hx (by omega) (by omega))
theorem quo_neg2 (x : Int) (hx : In64 x) (h : x < 0) (hl : -9223372036854775808 < x) : wrap64 (-Int.tdiv 9223372036854775807 x) = (9223372036854775807 : Int).tdiv (-x) := by
  rw [← Int.tdiv_neg]
  exact wrap64_eq (tdiv_in _ (-x) (by decide) (by unfold In64 at *; omega) (by omega) (by omega))
theorem wmul (a b : Int) : IntKind.i64.wrap (a * b) = wrap64 (a * b) := IntWalk.i64_left _
set_option maxHeartbeats 1000000 in
theorem pproduct_any (a b : Int) (ha : In64 a) (hb : In64 b) (w : World) :
    Calls Tryd.prog 55 #[.int .i64 a, .int .i64 b] w fun e w' => e = .returned (.tuple #[.int .i64 (exact64 (a * b)).1, .int .i64 (exact64 (a * b)).2]) ∧ w' = w := by
  have HA : Hid (In64 a) := ha
  have HB : Hid (In64 b) := hb
  obtain ⟨ha1, ha2⟩ := ha
  obtain ⟨hb1, hb2⟩ := hb
  by_cases h0 : b = 0
  · have e : exact64 (a * b) = (0, 0) := by rw [h0, Int.mul_zero]; exact exact_in (by decide)
    rw [e]
    subst h0
    clear e
    go_enter Tryd.func55, Tryd.ntmps55
    go_wp2
    all_goals go_ret2
    all_goals exact ⟨ret_two rfl rfl, rfl⟩
  have eb : (b == 0) = false := by simpa using h0
  by_cases h1 : b = -1
  · have e : exact64 (a * b) = negN a := by rw [h1]; unfold negN; congr 1; omega
    rw [e]
    subst h1
    clear e
    go_enter Tryd.func55, Tryd.ntmps55
    go_wp2_with (go_at_call 51; refine (negated_any a HA.out _).mono ?_; rintro e w' ⟨rfl, rfl⟩)
    all_goals go_ret2
    all_goals exact ⟨ret_two rfl rfl, rfl⟩
  have eb1 : (b == -1) = false := by simpa using h1
  have hmul := mul_test a b HA.out HB.out h0
  have hin : In64 ((wrap64 (a * b)).tdiv b) := by rw [← wmul]; exact tdiv_in _ b (in_wrap _) HB.out h0 (by omega)
  have HQ : Hid (wrap64 ((wrap64 (a * b)).tdiv b) = (wrap64 (a * b)).tdiv b) := wrap64_eq hin
  rw [wmul] at hmul
  have HM : Hid ((wrap64 (a * b)).tdiv b = a ↔ In64 (a * b)) := hmul
  clear hmul hin
  by_cases hi : In64 (a * b)
  · rw [exact_in hi]
    have HI : Hid (In64 (a * b)) := hi
    have hd : (wrap64 ((wrap64 (a * b)).tdiv b) == a) = true := by rw [HQ.out]; simpa using HM.out.2 hi
    have hd' : (wrap64 ((wrap64 (a * b)).tdiv b) != a) = false := by simp [bne, hd]
    clear hi
    go_enter Tryd.func55, Tryd.ntmps55
    go_wp2
    all_goals go_ret2
    all_goals exact ⟨ret_two (wrap64_eq HI.out) rfl, rfl⟩
  · rw [exact_out hi]
    have hd : (wrap64 ((wrap64 (a * b)).tdiv b) == a) = false := by rw [HQ.out]; simpa using fun h => hi (HM.out.1 h)
    have hd' : (wrap64 ((wrap64 (a * b)).tdiv b) != a) = true := by simp [bne, hd]
    clear hi
    go_enter Tryd.func55, Tryd.ntmps55
    go_wp2
    all_goals go_ret2
    all_goals exact ⟨ret_two rfl rfl, rfl⟩
end Go.Proofs.YtbdjcffmpbjjlaaDoor
