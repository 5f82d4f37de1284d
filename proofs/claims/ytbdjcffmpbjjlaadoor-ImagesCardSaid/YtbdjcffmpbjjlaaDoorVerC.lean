/-
  The document's ways: which operations may come behind an operation.
-/
import Derived.Test.YtbdjcffmpbjjlaaDoorVerB
set_option linter.unusedVariables false
set_option linter.unusedSimpArgs false
namespace Go.Proofs.YtbdjcffmpbjjlaaDoor
open Go.RowKit

def cellsK (l : List Nat) : List Value := l.map fun (n : Nat) => .int .i64 n
theorem Tryd.infoInt : (Tryd.prog.info? 3).map (fun i => (i.zero, i.size, i.bytes)) = some (some (.int .i64 0), 1, 8) := by kernel_rfl
/-- What the list of the operations behind one must be; or that one of them is none. -/
def WaysAre (l : List Ins) (i : Nat) (e : Ending) (w w' : World) : Prop :=
  (∃ ks v, WaysOk l i ks ∧ e = .returned (.tuple #[v, .bool true]) ∧ w'.ownsRow w.heap.size 3 1 v ks.length (cellsK ks)) ∨
  ((∃ q, Flows (nth l i) q ∧ ∀ k, k < l.length → (nth l k).pos ≠ q) ∧ e = .returned (.tuple #[.slice none 0 0, .bool false]))
/-- The next one in the list begins where this one ends. -/
theorem Chain.follow {s : ByteArray} : ∀ {l : List Ins} {p q : Nat}, Chain s p l q → ∀ i, i < l.length → (i + 1 < l.length → (nth l (i + 1)).pos = (nth l i).next) ∧ (¬ i + 1 < l.length → (nth l i).next = q)
  | [], _, _, _, i, hi => by simp at hi
  | a :: r, p, q, h, i, hi => by
    obtain ⟨h1, rfl, h3⟩ := h
    cases i with
    | zero =>
      refine ⟨fun h => ?_, fun h => ?_⟩
      · have hz := Chain.zero h3 (by simpa using h)
        have e1 : nth (mkIns s p :: r) (0 + 1) = nth r 0 := by simp [nth]
        have e2 : nth (mkIns s p :: r) 0 = mkIns s p := by simp [nth]
        rw [e1, e2, hz]
      · have : r = [] := by cases r with
          | nil => rfl
          | cons b r => simp at h
        subst this
        have e2 : nth [mkIns s p] 0 = mkIns s p := by simp [nth]
        rw [e2]; exact h3
    | succ i =>
      have e1 : nth (mkIns s p :: r) (i + 1 + 1) = nth r (i + 1) := by simp [nth]
      have e2 : nth (mkIns s p :: r) (i + 1) = nth r i := by simp [nth]
      rw [e1, e2]
      have := Chain.follow h3 i (by simpa using hi)
      simpa using this
/-- A first append leaves what was there. -/
theorem first_grown {w wa w2 : World} {X Y : Obj} {row : Option Nat} (hX : wa = w.alloc X) (hg : (wa.alloc Y).grownBy w2 row) (hrow : ∀ k, row = some k → wa.heap.size ≤ k) : Below wa.heap.size wa w2 := by
  subst hX
  exact ((Below.refl _ _).alloc (Nat.le_refl _) Y).grown hg (by simp) hrow
theorem nth_lt_size {s : ByteArray} {l : List Ins} {p q : Nat} (h : Chain s p l q) (k : Nat) (hk : k < l.length) : (nth l k).pos < (nth l k).next ∧ (nth l k).next ≤ q := by
  have hm := h.mem _ (nth_mem l k hk)
  refine ⟨?_, hm.2.1⟩
  have := next_pos s (nth l k).pos
  rw [← hm.2.2.2] at this
  exact this
/-- What stands behind an operation in memory. -/
structure InsAt (w : World) (g a : Nat) (o : Ins) : Prop where
  c0 : w.cell? ⟨g, a, none⟩ = some (.int .i64 o.pos)
  c1 : w.cell? ⟨g, a + 1, none⟩ = some (.int .i64 o.op)
  c2 : w.cell? ⟨g, a + 2, none⟩ = some (.int .i64 o.arg)
  c3 : w.cell? ⟨g, a + 3, none⟩ = some (.int .i64 o.next)
end Go.Proofs.YtbdjcffmpbjjlaaDoor
