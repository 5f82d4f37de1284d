/-
  What the document's spot does with a token, called on a spot in memory: enter, rule, value, after, step.
  The document's step from token to token, and Tokened: the tokens of a text that is a policy, or the error and its place.
-/
import Derived.Test.YtkbbdfeobcklhaaGreatDoorX36
import Derived.Test.YtkbbdfeobcklhaaGreatDoorX01
import Derived.Test.YtkbbdfeobcklhaaGreatDoorX00
set_option linter.unusedVariables false
set_option linter.unusedSimpArgs false
namespace Go.Proofs.YtkbbdfeobcklhaaGreatDoor
open Go.RowKit

def spotCells (p : Spot) : Array Value := #[.int .i64 p.next, .int .i64 p.expr, .int .i64 p.opn]
def SpotAt (w : World) (b : Nat) (p : Spot) : Prop := Blk w b (spotCells p) 121
theorem SpotAt.facts {w : World} {b : Nat} {p : Spot} (h : SpotAt w b p) : (w.cell? ⟨b, 0, none⟩ = some (.int .i64 p.next) ∧ w.cell? ⟨b, 1, none⟩ = some (.int .i64 p.expr) ∧ w.cell? ⟨b, 2, none⟩ = some (.int .i64 p.opn)) ∧
    w.frozen? ⟨b, 0, none⟩ = false ∧ w.frozen? ⟨b, 1, none⟩ = false ∧ w.frozen? ⟨b, 2, none⟩ = false :=
  ⟨⟨h.cell 0, h.cell 1, h.cell 2⟩, h.free 0, h.free 1, h.free 2⟩
theorem SpotAt.set0 {w : World} {b : Nat} {p : Spot} (h : SpotAt w b p) (n : Nat) : SpotAt (w.setCell ⟨b, 0, none⟩ (.int .i64 n)) b ⟨n, p.expr, p.opn⟩ := h.set 0 _
theorem SpotAt.set1 {w : World} {b : Nat} {p : Spot} (h : SpotAt w b p) (n : Nat) : SpotAt (w.setCell ⟨b, 1, none⟩ (.int .i64 n)) b ⟨p.next, n, p.opn⟩ := h.set 1 _
theorem SpotAt.set2 {w : World} {b : Nat} {p : Spot} (h : SpotAt w b p) (n : Nat) : SpotAt (w.setCell ⟨b, 2, none⟩ (.int .i64 n)) b ⟨p.next, p.expr, n⟩ := h.set 2 _

set_option maxHeartbeats 400000 in
theorem enter_any (b : Nat) (p : Spot) (x : Nat) (w : World) (h : SpotAt w b p) :
    Calls Tryz.prog 141 #[.pointer (some ⟨b, 0, none⟩), .int .i64 x] w fun e w' => e = .returned (.bool true) ∧ SpotAt w' b ⟨3, x, p.opn⟩ ∧ Below b w w' := by
  have HP : Hid (SpotAt w b p) := h
  obtain ⟨⟨c0, c1, c2⟩, f0, f1, f2⟩ := h.facts
  clear h
  go_enter Tryz.func141, Tryz.ntmps141
  go_wp2
  go_ret
  exact ⟨rfl, (HP.out.set0 3).set1 x, (below_setCell b 0 _).setCell (p := ⟨b, 1, none⟩) (Nat.le_refl _) _⟩

set_option maxHeartbeats 1000000 in
theorem rule_any (b : Nat) (p : Spot) (t : ByteArray) (wh : Bool) (w : World) (h : SpotAt w b p) :
    Calls Tryz.prog 99 #[.pointer (some ⟨b, 0, none⟩), .string t, .bool wh] w fun e w' => e = .returned (.bool (ruleS p t.toList wh).2) ∧ SpotAt w' b (ruleS p t.toList wh).1 ∧ Below b w w' := by
  have HP : Hid (SpotAt w b p) := h
  obtain ⟨⟨c0, c1, c2⟩, f0, f1, f2⟩ := h.facts
  clear h
  cases wh
  all_goals
    go_enter Tryz.func99, Tryz.ntmps99
    go_wp2_with (go_at_call 141; refine (enter_any b p _ _ HP.out).mono ?_; rintro e w1 ⟨rfl, hs1, hb1⟩)
  all_goals go_ret
  all_goals first
    | (have hr : ruleS p t.toList true = (⟨3, 1, p.opn⟩, true) := by simp [ruleS, cWhen, *]
       rw [hr]; exact ⟨rfl, hs1, hb1⟩)
    | (have hr : ∀ x, ruleS p t.toList x = (⟨3, 2, p.opn⟩, true) := by simp [ruleS, cWhen, cScore, *]
       rw [hr]; exact ⟨rfl, hs1, hb1⟩)
    | (have hr : ∀ x, ruleS p t.toList x = (⟨5, p.expr, p.opn⟩, true) := by simp [ruleS, cWhen, cScore, cReject, *]
       rw [hr]; exact ⟨rfl, HP.out.set0 5, below_setCell b 0 _⟩)
    | (have hr : ∀ x, ruleS p t.toList x = (p, false) := by simp [ruleS, cWhen, cScore, cReject, *]
       rw [hr]; exact ⟨rfl, HP.out, Below.refl _ _⟩)
    | (have hr : ruleS p t.toList false = (p, false) := by simp [ruleS, cWhen, cScore, cReject, *]
       rw [hr]; exact ⟨rfl, HP.out, Below.refl _ _⟩)

set_option maxHeartbeats 1000000 in
theorem value_any (b : Nat) (p : Spot) (t : ByteArray) (h0 : 0 < t.size) (ho : p.opn ≤ 8) (w : World) (h : SpotAt w b p) :
    Calls Tryz.prog 100 #[.pointer (some ⟨b, 0, none⟩), .string t] w fun e w' => e = .returned (.bool (valueS p t.toList).2) ∧ SpotAt w' b (valueS p t.toList).1 ∧ Below b w w' := by
  have HP : Hid (SpotAt w b p) := h
  have hlt := h.lt
  have HH : Hid (headC t.toList = t[0]) := head_getElem t h0
  obtain ⟨⟨c0, c1, c2⟩, f0, f1, f2⟩ := h.facts
  clear h
  cases hl : leafT t.toList <;> cases hn : nameT t.toList
  all_goals
    go_enter Tryz.func100, Tryz.ntmps100
    go_wp2_with (first | (go_at_call 66; refine (isLeaf_any _ _).mono ?_; rintro e w1 ⟨rfl, hb1⟩) | (go_at_call 67; refine (isName_any _ h0 _).mono ?_; rintro e w2 ⟨rfl, hb2⟩; have hb12 := hb1.trans (hb2.mono hb1.size); have hs2 : Hid (SpotAt w2 b p) := HP.out.below hb12 hlt; have hf2 := hs2.out.facts; obtain ⟨⟨d0, d1, d2⟩, g0, g1, g2⟩ := hf2) | (go_at_call 68; refine (isDigit_any _ _).mono ?_; rintro e _ ⟨rfl, rfl⟩))
  all_goals go_ret
  all_goals first
    | (have hr : valueS p t.toList = (p, true) := by simp [valueS, cMinus, cNot, *]
       rw [hr]; exact ⟨rfl, HP.out, Below.refl _ _⟩)
    | (have hr : valueS p t.toList = (p, true) := by simp_all [valueS, cMinus, cNot]
       rw [hr]; exact ⟨rfl, HP.out, Below.refl _ _⟩)
    | (have hr : valueS p t.toList = (⟨p.next, p.expr, p.opn + 1⟩, decide (p.opn + 1 ≤ 8)) := by simp_all [valueS, cMinus, cNot, cOpen]
       rw [hr]; exact ⟨ret_bool (by simp; omega), HP.out.set2 (p.opn + 1), below_setCell b 2 _⟩)
    | (have hr : valueS p t.toList = (⟨4, p.expr, p.opn⟩, leafT t.toList || nameT t.toList || isDig t[0]) := by rw [← HH.out]; simp_all [valueS, cMinus, cNot, cOpen]
       rw [hr]; exact ⟨ret_bool (by simp [hl, hn]), hs2.out.set0 4, (hb12.mono (Nat.le_of_lt hlt)).setCell (p := ⟨b, 0, none⟩) (Nat.le_refl _) _⟩)

set_option maxHeartbeats 1000000 in
theorem after_any (b : Nat) (p : Spot) (t : ByteArray) (ho : p.opn ≤ 8) (he : p.expr ≤ 2) (w : World) (h : SpotAt w b p) :
    Calls Tryz.prog 101 #[.pointer (some ⟨b, 0, none⟩), .string t] w fun e w' => e = .returned (.bool (afterS p t.toList).2) ∧ SpotAt w' b (afterS p t.toList).1 ∧ Below b w w' := by
  have HP : Hid (SpotAt w b p) := h
  have hlt := h.lt
  clear h
  by_cases hj : jointT t.toList = true
  · have hr : afterS p t.toList = (⟨3, p.expr, p.opn⟩, true) := by simp [afterS, hj]
    rw [hr]; clear hr
    go_enter Tryz.func101, Tryz.ntmps101
    go_wp2_with (go_at_call 142; refine (isJoint_any _ _).mono ?_; rintro e w1 ⟨rfl, hb1⟩; have hs1 : Hid (SpotAt w1 b p) := HP.out.below hb1 hlt; have hf1 := hs1.out.facts; obtain ⟨⟨d0, d1, d2⟩, g0, g1, g2⟩ := hf1)
    go_ret
    exact ⟨rfl, hs1.out.set0 3, (hb1.mono (Nat.le_of_lt hlt)).setCell (p := ⟨b, 0, none⟩) (Nat.le_refl _) _⟩
  · have hj : jointT t.toList = false := by simpa using hj
    by_cases hop : 0 < p.opn
    · have hr : afterS p t.toList = (⟨p.next, p.expr, p.opn - 1⟩, t.toList == cClose) := by simp [afterS, hj, hop]
      rw [hr]; clear hr
      go_enter Tryz.func101, Tryz.ntmps101
      go_wp2_with (go_at_call 142; refine (isJoint_any _ _).mono ?_; rintro e w1 ⟨rfl, hb1⟩; have hs1 : Hid (SpotAt w1 b p) := HP.out.below hb1 hlt; have hf1 := hs1.out.facts; obtain ⟨⟨d0, d1, d2⟩, g0, g1, g2⟩ := hf1)
      go_ret
      refine ⟨rfl, ?_, (hb1.mono (Nat.le_of_lt hlt)).setCell (p := ⟨b, 2, none⟩) (Nat.le_refl _) _⟩
      have := hs1.out.set2 (p.opn - 1)
      rw [show ((p.opn - 1 : Nat) : Int) = (p.opn : Int) - 1 by omega] at this
      exact this
    · have hop0 : p.opn = 0 := by omega
      have hr : afterS p t.toList = if p.expr = 1 then ruleS p t.toList false else if p.expr = 0 then (⟨0, p.expr, p.opn⟩, t.toList == cSemi) else (⟨6, p.expr, p.opn⟩, t.toList == cSemi) := by simp [afterS, hj, hop0]
      rw [hr]; clear hr
      by_cases h1 : p.expr = 1
      · rw [if_pos h1]
        go_enter Tryz.func101, Tryz.ntmps101
        go_wp2_with (first | (go_at_call 142; refine (isJoint_any _ _).mono ?_; rintro e w1 ⟨rfl, hb1⟩; have hs1 : Hid (SpotAt w1 b p) := HP.out.below hb1 hlt; have hf1 := hs1.out.facts; obtain ⟨⟨d0, d1, d2⟩, g0, g1, g2⟩ := hf1) | (go_at_call 99; refine (rule_any b p _ _ _ hs1.out).mono ?_; rintro e w2 ⟨rfl, hs2, hb2⟩))
        go_ret
        exact ⟨rfl, hs2, (hb1.mono (Nat.le_of_lt hlt)).trans hb2⟩
      · rw [if_neg h1]
        by_cases h2 : p.expr = 0
        · rw [if_pos h2]
          go_enter Tryz.func101, Tryz.ntmps101
          go_wp2_with (go_at_call 142; refine (isJoint_any _ _).mono ?_; rintro e w1 ⟨rfl, hb1⟩; have hs1 : Hid (SpotAt w1 b p) := HP.out.below hb1 hlt; have hf1 := hs1.out.facts; obtain ⟨⟨d0, d1, d2⟩, g0, g1, g2⟩ := hf1)
          go_ret
          exact ⟨rfl, hs1.out.set0 0, (hb1.mono (Nat.le_of_lt hlt)).setCell (p := ⟨b, 0, none⟩) (Nat.le_refl _) _⟩
        · rw [if_neg h2]
          go_enter Tryz.func101, Tryz.ntmps101
          go_wp2_with (go_at_call 142; refine (isJoint_any _ _).mono ?_; rintro e w1 ⟨rfl, hb1⟩; have hs1 : Hid (SpotAt w1 b p) := HP.out.below hb1 hlt; have hf1 := hs1.out.facts; obtain ⟨⟨d0, d1, d2⟩, g0, g1, g2⟩ := hf1)
          go_ret
          exact ⟨rfl, hs1.out.set0 6, (hb1.mono (Nat.le_of_lt hlt)).setCell (p := ⟨b, 0, none⟩) (Nat.le_refl _) _⟩
end Go.Proofs.YtkbbdfeobcklhaaGreatDoor

set_option linter.unusedVariables false
set_option linter.unusedSimpArgs false
namespace Go.Proofs.YtkbbdfeobcklhaaGreatDoor
open Go.RowKit

set_option maxHeartbeats 2000000 in
theorem step_any (b : Nat) (p : Spot) (t : ByteArray) (h0 : 0 < t.size) (ho : p.opn ≤ 8) (he : p.expr ≤ 2) (hn : p.next ≤ 6) (w : World) (h : SpotAt w b p) :
    Calls Tryz.prog 61 #[.pointer (some ⟨b, 0, none⟩), .string t] w fun e w' => e = .returned (.bool (stepS p t.toList).2) ∧ SpotAt w' b (stepS p t.toList).1 ∧ Below b w w' := by
  have HP : Hid (SpotAt w b p) := h
  have hlt := h.lt
  obtain ⟨⟨c0, c1, c2⟩, f0, f1, f2⟩ := h.facts
  clear h
  rcases (show p.next = 0 ∨ p.next = 1 ∨ p.next = 2 ∨ p.next = 3 ∨ p.next = 4 ∨ p.next = 5 ∨ p.next = 6 by omega) with e | e | e | e | e | e | e
  · by_cases hl : (t.toList == cLet) = true
    · have hr : stepS p t.toList = (⟨1, p.expr, p.opn⟩, true) := by simp only [stepS, e, hl, if_true]
      rw [hr]; clear hr
      have hl' : (t.toList == [108, 101, 116]) = true := hl
      rw [e] at c0
      go_enter Tryz.func61, Tryz.ntmps61
      go_wp2
      go_ret
      exact ⟨rfl, HP.out.set0 1, below_setCell b 0 _⟩
    · have hl : (t.toList == cLet) = false := by simpa using hl
      have hr : stepS p t.toList = ruleS p t.toList true := by simp [stepS, e, hl]
      rw [hr]; clear hr
      have hl' : (t.toList == [108, 101, 116]) = false := hl
      rw [e] at c0
      go_enter Tryz.func61, Tryz.ntmps61
      go_wp2_with (go_at_call 99; refine (rule_any b p _ _ _ HP.out).mono ?_; rintro e w2 ⟨rfl, hs2, hb2⟩)
      go_ret
      exact ⟨rfl, hs2, hb2⟩
  · have hr : stepS p t.toList = (⟨2, p.expr, p.opn⟩, nameT t.toList) := by simp [stepS, e]
    rw [hr]; clear hr
    rw [e] at c0
    go_enter Tryz.func61, Tryz.ntmps61
    go_wp2_with (go_at_call 67; refine (isName_any _ h0 _).mono ?_; rintro e w2 ⟨rfl, hb2⟩)
    go_ret
    exact ⟨rfl, (HP.out.set0 2).below hb2 (by simp; exact hlt), (below_setCell b 0 _).trans (hb2.mono (by simp; omega))⟩
  · have hr : stepS p t.toList = (⟨3, 0, p.opn⟩, t.toList == cEq) := by simp [stepS, e]
    rw [hr]; clear hr
    rw [e] at c0
    go_enter Tryz.func61, Tryz.ntmps61
    go_wp2
    go_ret
    exact ⟨rfl, (HP.out.set0 3).set1 0, (below_setCell b 0 _).setCell (p := ⟨b, 1, none⟩) (Nat.le_refl _) _⟩
  · have hr : stepS p t.toList = valueS p t.toList := by simp [stepS, e]
    rw [hr]; clear hr
    rw [e] at c0
    go_enter Tryz.func61, Tryz.ntmps61
    go_wp2_with (go_at_call 100; refine (value_any b p _ h0 ho _ HP.out).mono ?_; rintro e w2 ⟨rfl, hs2, hb2⟩)
    go_ret
    exact ⟨rfl, hs2, hb2⟩
  · have hr : stepS p t.toList = afterS p t.toList := by simp [stepS, e]
    rw [hr]; clear hr
    rw [e] at c0
    go_enter Tryz.func61, Tryz.ntmps61
    go_wp2_with (go_at_call 101; refine (after_any b p _ ho he _ HP.out).mono ?_; rintro e w2 ⟨rfl, hs2, hb2⟩)
    go_ret
    exact ⟨rfl, hs2, hb2⟩
  · have hr : stepS p t.toList = (⟨6, p.expr, p.opn⟩, t.toList == cSemi) := by simp [stepS, e]
    rw [hr]; clear hr
    rw [e] at c0
    go_enter Tryz.func61, Tryz.ntmps61
    go_wp2
    go_ret
    exact ⟨rfl, HP.out.set0 6, below_setCell b 0 _⟩
  · have hr : stepS p t.toList = ruleS p t.toList true := by simp [stepS, e]
    rw [hr]; clear hr
    rw [e] at c0
    go_enter Tryz.func61, Tryz.ntmps61
    go_wp2_with (go_at_call 99; refine (rule_any b p _ _ _ HP.out).mono ?_; rintro e w2 ⟨rfl, hs2, hb2⟩)
    go_ret
    exact ⟨rfl, hs2, hb2⟩
end Go.Proofs.YtkbbdfeobcklhaaGreatDoor
