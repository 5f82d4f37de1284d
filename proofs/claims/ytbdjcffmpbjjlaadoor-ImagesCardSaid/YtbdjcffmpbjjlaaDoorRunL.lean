/-
  The document's attribute and sign; and which operation comes next, by its number.
-/
import Derived.Test.YtbdjcffmpbjjlaaDoorRunK
import Derived.Test.YtbdjcffmpbjjlaaDoorVerC
set_option linter.unusedVariables false
set_option linter.unusedSimpArgs false
namespace Go.Proofs.YtbdjcffmpbjjlaaDoor
open Go.RowKit

theorem AtStep.idx {s : ByteArray} {l : List Ins} {most : Nat} {G : Nat → Int} {q : Nat} {st : List Int} (h : AtStep s l most G q st) : ∃ k, k < l.length ∧ (nth l k).pos = q := by
  obtain ⟨k, hk, he⟩ := mem_nth l _ h.here
  exact ⟨k, hk, by rw [he]; rfl⟩
theorem AtStep.nextIdx {s : ByteArray} {l : List Ins} {most : Nat} {G : Nat → Int} {q i : Nat} {st : List Int} (h : AtStep s l most G q st) (hi : i < l.length) (hq : (nth l i).next = q) : i + 1 < l.length ∧ (nth l (i + 1)).pos = q := by
  have hf := h.chain.follow i hi
  by_cases hl : i + 1 < l.length
  · exact ⟨hl, by rw [hf.1 hl, hq]⟩
  · have h1 := hf.2 hl
    have h2 := h.ok.1
    omega
theorem nth_mk {s : ByteArray} {l : List Ins} {p q : Nat} (hc : Chain s p l q) {i : Nat} (hi : i < l.length) : nth l i = mkIns s (nth l i).pos := (hc.mem _ (nth_mem l i hi)).2.2.2
end Go.Proofs.YtbdjcffmpbjjlaaDoor
