/-
  Two and One of the program, Joined and sign of the document: each operator by its number.
-/
import Derived.Test.YtkbbdfeobcklhaaGreatDoorRunC
set_option linter.unusedVariables false
set_option linter.unusedSimpArgs false
namespace Go.Proofs.YtkbbdfeobcklhaaGreatDoor
open Go.RowKit

theorem Hid.mk2 {p : Prop} (h : p) : Hid p := h
theorem bitN_lt (a b : Int) : (joinN 9 a b) = (bitN (decide (a < b)), 0) := rfl
theorem bitN_le (a b : Int) : (joinN 10 a b) = (bitN (decide (a ≤ b)), 0) := rfl
theorem bitN_eq (a b : Int) : (joinN 11 a b) = (bitN (decide (a = b)), 0) := rfl
theorem bitN_ne (a b : Int) : (joinN 12 a b) = (bitN (decide (a ≠ b)), 0) := rfl
theorem beq_dec (a b : Int) : (a == b) = decide (a = b) := by by_cases h : a = b <;> simp [h]
theorem bne_dec (a b : Int) : (a != b) = decide (a ≠ b) := by by_cases h : a = b <;> simp [h]
set_option maxHeartbeats 400000 in
theorem compared_any (c : Nat) (hc : c = 9 ∨ c = 10 ∨ c = 11 ∨ c = 12) (a b : Int) (w : World) :
    Calls Tryz.prog 176 #[.int .i64 c, .int .i64 a, .int .i64 b] w fun e w' => e = .returned (.int .i64 (joinN c a b).1) ∧ w' = w := by
  rcases hc with rfl | rfl | rfl | rfl
  · rw [bitN_lt]
    go_enter Tryz.func176, Tryz.ntmps176
    go_wp2_with (go_at_call 170; refine (truth_any _ _).mono ?_; rintro e w' ⟨rfl, rfl⟩)
    go_ret
    exact ⟨rfl, rfl⟩
  · rw [bitN_le]
    go_enter Tryz.func176, Tryz.ntmps176
    go_wp2_with (go_at_call 170; refine (truth_any _ _).mono ?_; rintro e w' ⟨rfl, rfl⟩)
    go_ret
    exact ⟨rfl, rfl⟩
  · rw [bitN_eq]
    go_enter Tryz.func176, Tryz.ntmps176
    go_wp2_with (go_at_call 170; refine (truth_any _ _).mono ?_; rintro e w' ⟨rfl, rfl⟩)
    go_ret
    exact ⟨ret_int (by rw [beq_dec]), rfl⟩
  · rw [bitN_ne]
    go_enter Tryz.func176, Tryz.ntmps176
    go_wp2_with (go_at_call 170; refine (truth_any _ _).mono ?_; rintro e w' ⟨rfl, rfl⟩)
    go_ret
    exact ⟨ret_int (by rw [bne_dec]), rfl⟩
theorem join4 (a b : Int) : joinN 4 a b = exact64 (a + b) := rfl
theorem join5 (a b : Int) : joinN 5 a b = exact64 (a - b) := rfl
theorem join6 (a b : Int) : joinN 6 a b = exact64 (a * b) := rfl
theorem join_cmp (c : Nat) (hc : c = 9 ∨ c = 10 ∨ c = 11 ∨ c = 12) (a b : Int) : (joinN c a b).2 = 0 := by rcases hc with rfl | rfl | rfl | rfl <;> rfl
set_option maxHeartbeats 1000000 in
theorem Two_any (c : Nat) (hc : 4 ≤ c ∧ c ≤ 12) (a b : Int) (ha : In64 a) (hb : In64 b) (w : World) :
    Calls Tryz.prog 151 #[.int .i64 c, .int .i64 a, .int .i64 b] w fun e w' => e = .returned (.tuple #[.int .i64 (joinN c a b).1, .int .i64 (joinN c a b).2]) ∧ w' = w := by
  have HA : Hid (In64 a) := ha
  have HB : Hid (In64 b) := hb
  clear ha hb
  have hk : c = 4 ∨ c = 5 ∨ c = 6 ∨ c = 7 ∨ c = 8 ∨ (c = 9 ∨ c = 10 ∨ c = 11 ∨ c = 12) := by omega
  clear hc
  rcases hk with rfl | rfl | rfl | rfl | rfl | hk
  · rw [join4]
    go_enter Tryz.func151, Tryz.ntmps151
    go_wp2_with (go_at_call 171; refine (psum_any a b HA.out HB.out _).mono ?_; rintro e w' ⟨rfl, rfl⟩)
    go_ret2
    exact ⟨ret_two rfl rfl, rfl⟩
  · rw [join5]
    go_enter Tryz.func151, Tryz.ntmps151
    go_wp2_with (go_at_call 172; refine (pdiff_any a b HA.out HB.out _).mono ?_; rintro e w' ⟨rfl, rfl⟩)
    go_ret2
    exact ⟨ret_two rfl rfl, rfl⟩
  · rw [join6]
    go_enter Tryz.func151, Tryz.ntmps151
    go_wp2_with (go_at_call 173; refine (pproduct_any a b HA.out HB.out _).mono ?_; rintro e w' ⟨rfl, rfl⟩)
    go_ret2
    exact ⟨ret_two rfl rfl, rfl⟩
  · go_enter Tryz.func151, Tryz.ntmps151
    go_wp2_with (go_at_call 174; refine (quotient_any a b HA.out HB.out _).mono ?_; rintro e w' ⟨rfl, rfl⟩)
    go_ret2
    exact ⟨ret_two rfl rfl, rfl⟩
  · go_enter Tryz.func151, Tryz.ntmps151
    go_wp2_with (go_at_call 175; refine (remainder_any a b HA.out HB.out _).mono ?_; rintro e w' ⟨rfl, rfl⟩)
    go_ret2
    exact ⟨ret_two rfl rfl, rfl⟩
  · have HK : Hid (c = 9 ∨ c = 10 ∨ c = 11 ∨ c = 12) := hk
    rw [join_cmp c hk]
    have e4 : ((c : Int) == 4) = false := by simp; omega
    have e5 : ((c : Int) == 5) = false := by simp; omega
    have e6 : ((c : Int) == 6) = false := by simp; omega
    have e7 : ((c : Int) == 7) = false := by simp; omega
    have e8 : ((c : Int) == 8) = false := by simp; omega
    obtain ⟨jv, hjv⟩ : ∃ jv, jv = (joinN c a b).1 := ⟨_, rfl⟩
    have HJ : Hid ((joinN c a b).1 = jv) := hjv.symm
    rw [← hjv]
    clear hk hjv
    go_enter Tryz.func151, Tryz.ntmps151
    go_wp2_with (go_at_call 176; refine (compared_any c HK.out a b _).mono ?_; rintro e w' ⟨rfl, rfl⟩; rw [HJ.out])
    go_ret2
    exact ⟨ret_two rfl rfl, rfl⟩
def oneN (c : Nat) (a : Int) : Int × Nat := if c = 2 then negN a else (bitN (decide (a = 0)), 0)
set_option maxHeartbeats 400000 in
theorem One_any (c : Nat) (hc : c = 2 ∨ c = 3) (a : Int) (ha : In64 a) (w : World) :
    Calls Tryz.prog 149 #[.int .i64 c, .int .i64 a] w fun e w' => e = .returned (.tuple #[.int .i64 (oneN c a).1, .int .i64 (oneN c a).2]) ∧ w' = w := by
  have HA : Hid (In64 a) := ha
  clear ha
  rcases hc with rfl | rfl
  · rw [show oneN 2 a = negN a from rfl]
    go_enter Tryz.func149, Tryz.ntmps149
    go_wp2_with (go_at_call 169; refine (negated_any a HA.out _).mono ?_; rintro e w' ⟨rfl, rfl⟩)
    go_ret2
    exact ⟨ret_two rfl rfl, rfl⟩
  · rw [show oneN 3 a = (bitN (decide (a = 0)), 0) from rfl]
    go_enter Tryz.func149, Tryz.ntmps149
    go_wp2_with (go_at_call 170; refine (truth_any _ _).mono ?_; rintro e w' ⟨rfl, rfl⟩)
    go_ret2
    exact ⟨ret_two (by rw [beq_dec]) rfl, rfl⟩
/-- The sign of an operation of two numbers. -/
def signS (c : Nat) : ByteArray := if c = 4 then ⟨#[43]⟩ else if c = 5 then ⟨#[45]⟩ else if c = 6 then ⟨#[42]⟩ else if c = 7 then ⟨#[47]⟩ else if c = 8 then ⟨#[37]⟩ else if c = 9 then ⟨#[60]⟩ else if c = 10 then ⟨#[60, 61]⟩ else if c = 11 then ⟨#[61]⟩ else ⟨#[33, 61]⟩
theorem rem_val (a b : Int) (ha : In64 a) (hb : In64 b) (h0 : b ≠ 0) (h1 : ¬ (a = -9223372036854775808 ∧ b = -1)) : wrap64 (a - wrap64 (b * wrap64 (a.tdiv b))) = a.tmod b := by
  have h2 := tmod_in a b ha
  rw [wrap64_eq (tdiv_in a b ha hb h0 h1)]
  have e : b * a.tdiv b = a - a.tmod b := by have := rem_eq a b; omega
  rw [e, wrap64_eq h2.2]
  have e2 : a - (a - a.tmod b) = a.tmod b := by omega
  rw [e2]
  exact wrap64_eq h2.1
set_option maxHeartbeats 1000000 in
theorem Joined_any (c : Nat) (hc : 4 ≤ c ∧ c ≤ 12) (a b : Int) (ha : In64 a) (hb : In64 b) (w : World) :
    Calls Tryz.prog 48 #[.string (signS c), .int .i64 a, .int .i64 b] w fun e w' => e = .returned (.tuple #[.int .i64 (joinN c a b).1, .int .i64 (joinN c a b).2]) ∧ w' = w := by
  have HA : Hid (In64 a) := ha
  have HB : Hid (In64 b) := hb
  obtain ⟨ha1, ha2⟩ := ha
  obtain ⟨hb1, hb2⟩ := hb
  have hk : c = 4 ∨ c = 5 ∨ c = 6 ∨ c = 7 ∨ c = 8 ∨ c = 9 ∨ c = 10 ∨ c = 11 ∨ c = 12 := by omega
  clear hc
  rcases hk with rfl | rfl | rfl | rfl | rfl | rfl | rfl | rfl | rfl
  · rw [join4, show signS 4 = ⟨#[43]⟩ from rfl]
    by_cases hi : In64 (a + b)
    · have HI := hi
      rw [exact_in hi]
      have HE : Hid (exact64 (a + b) = (a + b, 0)) := exact_in hi
      clear hi HI
      go_enter Tryz.func48, Tryz.ntmps48
      go_wp2_with (go_at_call 86; refine (rsum_any a b HA.out HB.out _).mono ?_; rintro e w' ⟨rfl, rfl⟩; rw [HE.out])
      go_ret2
      exact ⟨ret_two rfl rfl, rfl⟩
    · rw [exact_out hi]
      have HE : Hid (exact64 (a + b) = (0, 1)) := exact_out hi
      clear hi
      go_enter Tryz.func48, Tryz.ntmps48
      go_wp2_with (go_at_call 86; refine (rsum_any a b HA.out HB.out _).mono ?_; rintro e w' ⟨rfl, rfl⟩; rw [HE.out])
      go_ret2
      exact ⟨ret_two rfl rfl, rfl⟩
  · rw [join5, show signS 5 = ⟨#[45]⟩ from rfl]
    by_cases hi : In64 (a - b)
    · rw [exact_in hi]
      have HE : Hid (exact64 (a - b) = (a - b, 0)) := exact_in hi
      clear hi
      go_enter Tryz.func48, Tryz.ntmps48
      go_wp2_with (go_at_call 87; refine (rless_any a b HA.out HB.out _).mono ?_; rintro e w' ⟨rfl, rfl⟩; rw [HE.out])
      go_ret2
      exact ⟨ret_two rfl rfl, rfl⟩
    · rw [exact_out hi]
      have HE : Hid (exact64 (a - b) = (0, 1)) := exact_out hi
      clear hi
      go_enter Tryz.func48, Tryz.ntmps48
      go_wp2_with (go_at_call 87; refine (rless_any a b HA.out HB.out _).mono ?_; rintro e w' ⟨rfl, rfl⟩; rw [HE.out])
      go_ret2
      exact ⟨ret_two rfl rfl, rfl⟩
  · rw [join6, show signS 6 = ⟨#[42]⟩ from rfl]
    by_cases hi : In64 (a * b)
    · rw [exact_in hi]
      have HE : Hid (exact64 (a * b) = (a * b, 0)) := exact_in hi
      clear hi
      go_enter Tryz.func48, Tryz.ntmps48
      go_wp2_with (go_at_call 88; refine (rproduct_any a b HA.out HB.out _).mono ?_; rintro e w' ⟨rfl, rfl⟩; rw [HE.out])
      go_ret2
      exact ⟨ret_two rfl rfl, rfl⟩
    · rw [exact_out hi]
      have HE : Hid (exact64 (a * b) = (0, 1)) := exact_out hi
      clear hi
      go_enter Tryz.func48, Tryz.ntmps48
      go_wp2_with (go_at_call 88; refine (rproduct_any a b HA.out HB.out _).mono ?_; rintro e w' ⟨rfl, rfl⟩; rw [HE.out])
      go_ret2
      exact ⟨ret_two rfl rfl, rfl⟩
  · rw [join7 a b HA.out HB.out, show signS 7 = ⟨#[47]⟩ from rfl]
    have hdf : divFault a b = if b = 0 then 2 else if a = -9223372036854775808 ∧ b = -1 then 1 else 0 := rfl
    by_cases h0 : b = 0
    · rw [if_pos h0] at hdf
      rw [if_neg (by omega), hdf]
      subst h0
      clear hdf
      go_enter Tryz.func48, Tryz.ntmps48
      go_wp2
      go_ret2
      exact ⟨ret_two rfl rfl, rfl⟩
    have eb : (b == 0) = false := by simpa using h0
    by_cases h1 : a = -9223372036854775808 ∧ b = -1
    · rw [if_neg h0, if_pos h1] at hdf
      rw [if_neg (by omega), hdf]
      obtain ⟨rfl, rfl⟩ := h1
      clear hdf
      go_enter Tryz.func48, Tryz.ntmps48
      go_wp2
      go_ret2
      exact ⟨ret_two rfl rfl, rfl⟩
    · rw [if_neg h0, if_neg h1] at hdf
      rw [if_pos hdf]
      have HV := Hid.mk2 (wrap64_eq (tdiv_in a b HA.out HB.out h0 h1))
      have hcs : (a == -9223372036854775808) = false ∨ ((a == -9223372036854775808) = true ∧ (b == -1) = false) := by
        by_cases h2 : a = -9223372036854775808
        · exact .inr ⟨by simpa using h2, by simp; exact fun h3 => h1 ⟨h2, h3⟩⟩
        · exact .inl (by simpa using h2)
      clear hdf h1
      rcases hcs with h2 | ⟨h2, h3⟩
      all_goals
        go_enter Tryz.func48, Tryz.ntmps48
        go_wp2
        go_ret2
        exact ⟨ret_two HV.out rfl, rfl⟩
  · rw [join8 a b, show signS 8 = ⟨#[37]⟩ from rfl]
    have hdf : divFault a b = if b = 0 then 2 else if a = -9223372036854775808 ∧ b = -1 then 1 else 0 := rfl
    by_cases h0 : b = 0
    · rw [if_pos h0] at hdf
      rw [if_neg (by omega), hdf]
      subst h0
      clear hdf
      go_enter Tryz.func48, Tryz.ntmps48
      go_wp2
      go_ret2
      exact ⟨ret_two rfl rfl, rfl⟩
    have eb : (b == 0) = false := by simpa using h0
    by_cases h1 : a = -9223372036854775808 ∧ b = -1
    · rw [if_neg h0, if_pos h1] at hdf
      rw [if_neg (by omega), hdf]
      obtain ⟨rfl, rfl⟩ := h1
      clear hdf
      go_enter Tryz.func48, Tryz.ntmps48
      go_wp2
      go_ret2
      exact ⟨ret_two rfl rfl, rfl⟩
    · rw [if_neg h0, if_neg h1] at hdf
      rw [if_pos hdf]
      have HV := Hid.mk2 (rem_val a b HA.out HB.out h0 h1)
      have hcs : (a == -9223372036854775808) = false ∨ ((a == -9223372036854775808) = true ∧ (b == -1) = false) := by
        by_cases h2 : a = -9223372036854775808
        · exact .inr ⟨by simpa using h2, by simp; exact fun h3 => h1 ⟨h2, h3⟩⟩
        · exact .inl (by simpa using h2)
      clear hdf h1
      rcases hcs with h2 | ⟨h2, h3⟩
      all_goals
        go_enter Tryz.func48, Tryz.ntmps48
        go_wp2
        go_ret2
        exact ⟨ret_two HV.out rfl, rfl⟩
  · rw [bitN_lt, show signS 9 = ⟨#[60]⟩ from rfl]
    go_enter Tryz.func48, Tryz.ntmps48
    go_wp2_with (go_at_call 49; refine (bit_any _ _).mono ?_; rintro e w' ⟨rfl, rfl⟩)
    go_ret2
    exact ⟨ret_two rfl rfl, rfl⟩
  · rw [bitN_le, show signS 10 = ⟨#[60, 61]⟩ from rfl]
    go_enter Tryz.func48, Tryz.ntmps48
    go_wp2_with (go_at_call 49; refine (bit_any _ _).mono ?_; rintro e w' ⟨rfl, rfl⟩)
    go_ret2
    exact ⟨ret_two rfl rfl, rfl⟩
  · rw [bitN_eq, show signS 11 = ⟨#[61]⟩ from rfl]
    go_enter Tryz.func48, Tryz.ntmps48
    go_wp2_with (go_at_call 49; refine (bit_any _ _).mono ?_; rintro e w' ⟨rfl, rfl⟩)
    go_ret2
    exact ⟨ret_two (by rw [beq_dec]) rfl, rfl⟩
  · rw [bitN_ne, show signS 12 = ⟨#[33, 61]⟩ from rfl]
    go_enter Tryz.func48, Tryz.ntmps48
    go_wp2_with (go_at_call 49; refine (bit_any _ _).mono ?_; rintro e w' ⟨rfl, rfl⟩)
    go_ret2
    exact ⟨ret_two (by rw [bne_dec]) rfl, rfl⟩
end Go.Proofs.YtkbbdfeobcklhaaGreatDoor
