/-
  The document's Operations: of some bytes: the operations that stand there, or that there are none such.
-/
import Derived.Test.YtbdjcffmpbjjlaaDoorVerA
import Derived.Test.YtbdjcffmpbjjlaaDoorPure
set_option linter.unusedVariables false
set_option linter.unusedSimpArgs false
namespace Go.Proofs.YtbdjcffmpbjjlaaDoor
open Go.RowKit

theorem ext_two (s : ByteArray) (h : 2 ≤ s.size) : ((s.extract 0 2).toList == [83, 76]) = decide (bt s 0 = 83 ∧ bt s 1 = 76) := by
  rw [extract_bsOf, bsOf_toList, bt_get s 0 (by omega), bt_get s 1 (by omega)]
  have h0 := getElem_toList s 0 (by omega)
  have h1 := getElem_toList s 1 (by omega)
  cases hl : s.toList with
  | nil => rw [hl] at h0; simp at h0
  | cons a r =>
    cases r with
    | nil => rw [hl] at h1; simp at h1
    | cons b r =>
      rw [hl] at h0 h1
      simp at h0 h1
      rw [← h0, ← h1, Bool.eq_iff_iff]
      simp [← UInt8.toNat_inj]
/-- No row of operations goes on from a place at which none begins. -/
theorem no_chain {s : ByteArray} {l : List Ins} {p : Nat} (hc : Chain s 3 l p) (hp : p < s.size) (hb : ¬ OpOkI s p) : ∀ l', ¬ Chain s 3 l' s.size := by
  intro l' h'
  obtain ⟨r, rfl, hr⟩ := hc.pre h'
  cases r with
  | nil => have : p = s.size := hr; omega
  | cons o r => exact hb hr.1
theorem ins_step {w wr w2 : World} {l : List Ins} {v v' : Value} {e : TypeId} {o : Obj} {i : Ins} (hbel : Below w.heap.size w wr)
    (hown2 : w2.ownsRow w.heap.size e 4 v' (l.length + 1) (cellsV l ++ [.int .i64 i.pos, .int .i64 i.op, .int .i64 i.arg, .int .i64 i.next])) (hg : (wr.alloc o).grownBy w2 v.ownBlock) (hown : wr.ownsRow w.heap.size e 4 v l.length (cellsV l)) :
    w2.ownsRow w.heap.size e 4 v' (l ++ [i]).length (cellsV (l ++ [i])) ∧ Below w.heap.size w w2 := by
  have hs1 := hbel.size
  refine ⟨?_, ?_⟩
  · rw [cellsV_snoc, List.length_append]
    exact hown2
  · exact (hbel.alloc (by omega) o).grown hg (by simp; omega) (fun k hk => (hown.lt k hk).1)
end Go.Proofs.YtbdjcffmpbjjlaaDoor
