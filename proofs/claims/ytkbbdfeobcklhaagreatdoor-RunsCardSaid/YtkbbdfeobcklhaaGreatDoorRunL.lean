/-
  The document's attribute and sign; and which operation comes next, by its number.
-/
import Derived.Test.YtkbbdfeobcklhaaGreatDoorRunK
import Derived.Test.YtkbbdfeobcklhaaGreatDoorVerC
set_option linter.unusedVariables false
set_option linter.unusedSimpArgs false
namespace Go.Proofs.YtkbbdfeobcklhaaGreatDoor
open Go.RowKit

theorem AtStep.idx {s : ByteArray} {l : List Ins} {most : Nat} {G : Nat → Int} {q : Nat} {st : List Int} (h : AtStep s l most G q st) : ∃ k, k < l.length ∧ (nth l k).pos = q := by
  obtain ⟨k, hk, he⟩ := mem_nth l _ h.here
  exact ⟨k, hk, by rw [he]; rfl⟩
theorem AtStep.nextIdx {s : ByteArray} {l : List Ins} {most : Nat} {G : Nat → Int} {q i : Nat} {st : List Int} (h : AtStep s l most G q st) (hi : i < l.length) (hq : (nth l i).next = q) : i + 1 < l.length ∧ (nth l (i + 1)).pos = q := by
  have hf := h.chain.follow i hi
  by_cases hl : i + 1 < l.length
  · exact ⟨hl, by rw [hf.1 hl, hq]⟩
  · have h1 := hf.2 hl
    have h2 := h.ok.1
    omega
theorem nth_mk {s : ByteArray} {l : List Ins} {p q : Nat} (hc : Chain s p l q) {i : Nat} (hi : i < l.length) : nth l i = mkIns s (nth l i).pos := (hc.mem _ (nth_mem l i hi)).2.2.2
set_option maxHeartbeats 1000000 in
theorem attribute_any (k : Int) (hk : 0 ≤ k ∧ k ≤ 6) (x : Itm) (y : Bn) (w : World) :
    Calls Tryz.prog 47 #[.int .i64 k, itmA x, bnA y] w fun e w' => e = .returned (.int .i64 (attrN k x y)) ∧ Below w.heap.size w w' := by
  unfold itmA bnA
  have hc : k = 0 ∨ k = 1 ∨ k = 2 ∨ k = 3 ∨ k = 4 ∨ k = 5 ∨ k = 6 := by omega
  clear hk
  rcases hc with rfl | rfl | rfl | rfl | rfl | rfl | rfl
  all_goals
    go_enter Tryz.func47, Tryz.ntmps47
    go_wp2
    go_ret
    exact ⟨rfl, (((box3 _ _).trans ((box3 _ _).mono (by simp))).trans ((box3 _ _).mono (by simp; omega)))⟩
set_option maxHeartbeats 1000000 in
theorem sign_any (c : Nat) (hc : 4 ≤ c ∧ c ≤ 12) (w : World) :
    Calls Tryz.prog 51 #[.int .i64 c] w fun e w' => e = .returned (.string (signS c)) ∧ Below w.heap.size w w' := by
  have hk : c = 4 ∨ c = 5 ∨ c = 6 ∨ c = 7 ∨ c = 8 ∨ c = 9 ∨ c = 10 ∨ c = 11 ∨ c = 12 := by omega
  clear hc
  rcases hk with rfl | rfl | rfl | rfl | rfl | rfl | rfl | rfl | rfl
  all_goals
    go_enter Tryz.func51, Tryz.ntmps51
    go_wp2
    go_ret
    exact ⟨rfl, box3 _ _⟩
end Go.Proofs.YtkbbdfeobcklhaaGreatDoor
