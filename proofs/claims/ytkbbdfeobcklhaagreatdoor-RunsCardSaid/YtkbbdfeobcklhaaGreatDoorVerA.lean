/-
  What the document's small functions on operations do, called in any world: behindOp, takes, lays, low, index.
-/
import Derived.Test.YtkbbdfeobcklhaaGreatDoorProg
import Derived.Test.YtkbbdfeobcklhaaGreatDoorKit
import Derived.Test.YtkbbdfeobcklhaaGreatDoorImgR
import Derived.WalkLawsBesides
import Derived.Deep.QuietTactic
import Derived.BigQuiet
import Derived.Deep.Light
set_option linter.unusedVariables false
set_option linter.unusedSimpArgs false
namespace Go.Proofs.YtkbbdfeobcklhaaGreatDoor
open Go.RowKit

set_option maxHeartbeats 400000 in
theorem behindOp_any (c : Nat) (w : World) :
    Calls Tryz.prog 76 #[.int .i64 c] w fun e w' => e = .returned (.int .i64 (behindN c)) ∧ w' = w := by
  go_enter Tryz.func76, Tryz.ntmps76
  go_wp2
  all_goals go_ret
  all_goals exact ⟨ret_int (by go_light; simp at *; unfold behindN; (repeat' split) <;> omega), rfl⟩
set_option maxHeartbeats 400000 in
theorem takes_any (c : Nat) (w : World) :
    Calls Tryz.prog 46 #[.int .i64 c] w fun e w' => e = .returned (.int .i64 (takesN c)) ∧ w' = w := by
  go_enter Tryz.func46, Tryz.ntmps46
  go_wp2
  all_goals go_ret
  all_goals exact ⟨ret_int (by go_light; simp at *; unfold takesN; (repeat' split) <;> omega), rfl⟩
set_option maxHeartbeats 400000 in
theorem lays_any (c : Nat) (w : World) :
    Calls Tryz.prog 52 #[.int .i64 c] w fun e w' => e = .returned (.int .i64 (laysN c)) ∧ w' = w := by
  go_enter Tryz.func52, Tryz.ntmps52
  go_wp2
  all_goals go_ret
  all_goals exact ⟨ret_int (by go_light; unfold laysN; (repeat' split) <;> omega), rfl⟩

theorem wrap_low (L b : Nat) (h : b < 256) : wrap64 (wrap64 (wrap64 (L : Nat) * 256) + wrap64 (b : Nat)) = IntKind.i64.wrap ((b + 256 * L : Nat) : Int) := by
  simp only [IntKind.wrap_i64, wrap64]; omega
theorem lowU_step (s : ByteArray) (p j n : Nat) (hj : 0 < j) (hn : j ≤ n) : lowU s (p + (j - 1)) (n - (j - 1)) = bt s (p + (j - 1)) + 256 * lowU s (p + j) (n - j) := by
  have e : n - (j - 1) = (n - j) + 1 := by omega
  rw [e]
  simp only [lowU]
  rw [show p + (j - 1) + 1 = p + j by omega]

def cellV (o : Ins) : List Value := [.int .i64 o.pos, .int .i64 o.op, .int .i64 o.arg, .int .i64 o.next]
def cellsV (l : List Ins) : List Value := l.flatMap cellV
theorem cellsN_length (l : List Ins) : (cellsV l).length = l.length * 4 := by
  induction l with
  | nil => rfl
  | cons a r ih => simp only [cellsV, List.flatMap_cons, List.length_append, List.length_cons] at ih ⊢; rw [ih]; simp [cellV]; omega
theorem cellsV_snoc (l : List Ins) (t : Ins) : cellsV (l ++ [t]) = cellsV l ++ cellV t := by simp [cellsV]
theorem cellsN_get : ∀ (l : List Ins) (i : Nat) (h : i < l.length), (cellsV l)[i * 4]? = some (.int .i64 (nth l i).pos) ∧ (cellsV l)[i * 4 + 1]? = some (.int .i64 (nth l i).op) ∧ (cellsV l)[i * 4 + 2]? = some (.int .i64 (nth l i).arg) ∧ (cellsV l)[i * 4 + 3]? = some (.int .i64 (nth l i).next)
  | a :: r, 0, _ => by simp [cellsV, cellV, nth]
  | a :: r, i + 1, h => by
    have ih := cellsN_get r i (by simpa using h)
    have hn : nth (a :: r) (i + 1) = nth r i := by simp [nth]
    rw [hn]
    have e : cellsV (a :: r) = cellV a ++ cellsV r := by simp [cellsV]
    have hl : (cellV a).length = 4 := rfl
    rw [e]
    refine ⟨?_, ?_, ?_, ?_⟩
    · rw [List.getElem?_append_right (by rw [hl]; omega), hl, show (i + 1) * 4 - 4 = i * 4 by omega]; exact ih.1
    · rw [List.getElem?_append_right (by rw [hl]; omega), hl, show (i + 1) * 4 + 1 - 4 = i * 4 + 1 by omega]; exact ih.2.1
    · rw [List.getElem?_append_right (by rw [hl]; omega), hl, show (i + 1) * 4 + 2 - 4 = i * 4 + 2 by omega]; exact ih.2.2.1
    · rw [List.getElem?_append_right (by rw [hl]; omega), hl, show (i + 1) * 4 + 3 - 4 = i * 4 + 3 by omega]; exact ih.2.2.2

set_option maxHeartbeats 1000000 in
theorem low_any (s : ByteArray) (p n : Nat) (hs : s.size ≤ 4000) (hn : p + n ≤ s.size) (w : World) :
    Calls Tryz.prog 77 #[.string s, .int .i64 p, .int .i64 n] w fun e w' => e = .returned (.int .i64 (IntKind.i64.wrap (lowU s p n : Nat))) ∧ w' = w := by
  go_enter Tryz.func77, Tryz.ntmps77
  go_wp2
  go_loop [7, 8] (fun v i => ∃ j : Nat, j ≤ n ∧ i = .int .i64 ((j : Int) - 1) ∧ v = .int .i64 (IntKind.i64.wrap (lowU s (p + j) (n - j) : Nat))) (fun _ i => (intOf i + 1).toNat)
  case atStart => exact ⟨n, Nat.le_refl _, by go_num, by simp [lowU]; rfl⟩
  case round =>
    obtain ⟨j, hj, rfl, rfl⟩ := hrel
    by_cases h0 : 0 < j
    · have hb : p + (j - 1) < s.size := by omega
      have hbt : (s[p + (j - 1)]'hb).toNat = bt s (p + (j - 1)) := (bt_get s _ hb).symm
      have hix := fun wx => run_index_nat (P := Tryz.prog) wx 9 s .i64 (IntKind.i64.wrap ((p : Int) + ((j : Int) - 1))) (p + (j - 1)) Tryz.underlying9 (by rw [IntWalk.i64_in _ ⟨by omega, by omega⟩]; omega) hb
      go_wp2
      go_round
      case rel => exact ⟨j - 1, by omega, by go_num, by
          rw [lowU_step s p j n h0 hj]
          exact congrArg (Value.int .i64) (wrap_low _ _ (bt_lt s (p + (j - 1))))⟩
      case measure => simp [intOf]; omega
    · go_wp2
      go_ret
      have : j = 0 := by omega
      subst this
      exact ⟨ret_int (by simp), rfl⟩

/-- Which operation begins at that place: its number, or -1. -/
def IsIndex (l : List Ins) (a : Int) (r : Int) : Prop := (r = -1 ∧ ∀ k, k < l.length → ((nth l k).pos : Int) ≠ a) ∨ ∃ k : Nat, k < l.length ∧ r = k ∧ ((nth l k).pos : Int) = a
set_option maxHeartbeats 1000000 in
theorem index_any (l : List Ins) (hl : l.length ≤ 4000) (a : Int) (v : Value) (w : World) (hv : Reads w v l.length (cellsV l)) :
    Calls Tryz.prog 50 #[v, .int .i64 a] w fun e w' => ∃ r, e = .returned (.int .i64 r) ∧ IsIndex l a r ∧ w' = w := by
  rcases hv with ⟨rfl, hn, _⟩ | ⟨g, o, cap, rfl, _, hlt, hc⟩
  · have : l = [] := List.eq_nil_of_length_eq_zero hn
    subst this
    go_enter Tryz.func50, Tryz.ntmps50
    go_wp2
    refine wp_loop_rounds 1 ?_; rw [rounds_succ]
    go_wp2
    go_ret
    exact ⟨-1, rfl, .inl ⟨rfl, by simp⟩, rfl⟩
  go_enter Tryz.func50, Tryz.ntmps50
  go_wp2
  go_loop [5] (fun i => ∃ k : Nat, k ≤ l.length ∧ i = .int .i64 k ∧ ∀ j, j < k → ((nth l j).pos : Int) ≠ a) (fun i => l.length - (intOf i).toNat)
  case atStart => exact ⟨0, Nat.zero_le _, rfl, by intro j hj; omega⟩
  case round =>
    obtain ⟨k, hk, rfl, hno⟩ := hrel
    have HN : Hid (∀ j, j < k → ((nth l j).pos : Int) ≠ a) := hno
    have HC : Hid (∀ j u, (cellsV l)[j]? = some u → w.cell? ⟨g, o + j, none⟩ = some u) := hc
    clear hno hc
    by_cases hkl : k < l.length
    · have cx : w.cell? ⟨g, o + k * 4, none⟩ = some (.int .i64 (nth l k).pos) := HC.out _ _ (cellsN_get l k hkl).1
      by_cases he : ((nth l k).pos : Int) = a
      · have HE : Hid (((nth l k).pos : Int) = a) := he
        have hb : (((nth l k).pos : Int) == a) = true := by simpa using he
        clear he
        go_wp2
        go_ret
        exact ⟨k, rfl, .inr ⟨k, hkl, rfl, HE.out⟩, rfl⟩
      · have HE : Hid (((nth l k).pos : Int) ≠ a) := he
        have hb : (((nth l k).pos : Int) == a) = false := by simpa using he
        clear he
        go_wp2
        go_round
        case rel => exact ⟨k + 1, by omega, by go_num, fun j hj => by
          by_cases h : j = k
          · subst h; exact HE.out
          · exact HN.out j (by omega)⟩
        case measure => simp [intOf]; omega
    · go_wp2
      go_ret
      exact ⟨-1, rfl, .inl ⟨rfl, fun j hj => HN.out j (by omega)⟩, rfl⟩
end Go.Proofs.YtkbbdfeobcklhaaGreatDoor
