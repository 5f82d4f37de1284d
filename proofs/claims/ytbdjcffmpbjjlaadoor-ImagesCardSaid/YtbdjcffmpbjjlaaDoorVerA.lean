/-
  What the document's small functions on operations do, called in any world: behindOp, takes, lays, low, index.
-/
import Derived.Test.YtbdjcffmpbjjlaaDoorProg
import Derived.Test.YtbdjcffmpbjjlaaDoorKit
import Derived.Test.YtbdjcffmpbjjlaaDoorImgR
import Derived.WalkLawsBesides
import Derived.Deep.QuietTactic
import Derived.BigQuiet
import Derived.Deep.Light
set_option linter.unusedVariables false
set_option linter.unusedSimpArgs false
namespace Go.Proofs.YtbdjcffmpbjjlaaDoor
open Go.RowKit

theorem wrap_low (L b : Nat) (h : b < 256) : wrap64 (wrap64 (wrap64 (L : Nat) * 256) + wrap64 (b : Nat)) = IntKind.i64.wrap ((b + 256 * L : Nat) : Int) := by
  simp only [IntKind.wrap_i64, wrap64]; omega
theorem lowU_step (s : ByteArray) (p j n : Nat) (hj : 0 < j) (hn : j ≤ n) : lowU s (p + (j - 1)) (n - (j - 1)) = bt s (p + (j - 1)) + 256 * lowU s (p + j) (n - j) := by
  have e : n - (j - 1) = (n - j) + 1 := by omega
  rw [e]
  simp only [lowU]
  rw [show p + (j - 1) + 1 = p + j by omega]

def cellV (o : Ins) : List Value := [.int .i64 o.pos, .int .i64 o.op, .int .i64 o.arg, .int .i64 o.next]
def cellsV (l : List Ins) : List Value := l.flatMap cellV
theorem cellsN_length (l : List Ins) : (cellsV l).length = l.length * 4 := by
  induction l with
  | nil => rfl
  | cons a r ih => simp only [cellsV, List.flatMap_cons, List.length_append, List.length_cons] at ih ⊢; rw [ih]; simp [cellV]; omega
theorem cellsV_snoc (l : List Ins) (t : Ins) : cellsV (l ++ [t]) = cellsV l ++ cellV t := by simp [cellsV]
theorem cellsN_get : ∀ (l : List Ins) (i : Nat) (h : i < l.length), (cellsV l)[i * 4]? = some (.int .i64 (nth l i).pos) ∧ (cellsV l)[i * 4 + 1]? = some (.int .i64 (nth l i).op) ∧ (cellsV l)[i * 4 + 2]? = some (.int .i64 (nth l i).arg) ∧ (cellsV l)[i * 4 + 3]? = some (.int .i64 (nth l i).next)
  | a :: r, 0, _ => by simp [cellsV, cellV, nth]
  | a :: r, i + 1, h => by
    have ih := cellsN_get r i (by simpa using h)
    have hn : nth (a :: r) (i + 1) = nth r i := by simp [nth]
    rw [hn]
    have e : cellsV (a :: r) = cellV a ++ cellsV r := by simp [cellsV]
    have hl : (cellV a).length = 4 := rfl
    rw [e]
    refine ⟨?_, ?_, ?_, ?_⟩
    · rw [List.getElem?_append_right (by rw [hl]; omega), hl, show (i + 1) * 4 - 4 = i * 4 by omega]; exact ih.1
    · rw [List.getElem?_append_right (by rw [hl]; omega), hl, show (i + 1) * 4 + 1 - 4 = i * 4 + 1 by omega]; exact ih.2.1
    · rw [List.getElem?_append_right (by rw [hl]; omega), hl, show (i + 1) * 4 + 2 - 4 = i * 4 + 2 by omega]; exact ih.2.2.1
    · rw [List.getElem?_append_right (by rw [hl]; omega), hl, show (i + 1) * 4 + 3 - 4 = i * 4 + 3 by omega]; exact ih.2.2.2

/-- Which operation begins at that place: its number, or -1. -/
def IsIndex (l : List Ins) (a : Int) (r : Int) : Prop := (r = -1 ∧ ∀ k, k < l.length → ((nth l k).pos : Int) ≠ a) ∨ ∃ k : Nat, k < l.length ∧ r = k ∧ ((nth l k).pos : Int) = a
end Go.Proofs.YtbdjcffmpbjjlaaDoor
