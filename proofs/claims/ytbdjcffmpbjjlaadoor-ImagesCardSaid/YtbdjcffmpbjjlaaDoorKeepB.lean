/-
  Images of known making: numberOf, op, past, eight.
-/
import Derived.Test.YtbdjcffmpbjjlaaDoorKeepA
import Derived.Laws.BytesString
import Derived.Laws.Cells
set_option linter.unusedVariables false
set_option linter.unusedSimpArgs false
namespace Go.Proofs.YtbdjcffmpbjjlaaDoor
open Go.RowKit

/-- Numbers below 256 as bytes. -/
def bsN (l : List Nat) : ByteArray := ⟨(l.map UInt8.ofNat).toArray⟩
theorem bsN_fold (l : List Nat) : ∀ r : ByteArray, (l.map Int.ofNat).foldl (fun r n => r.push (UInt8.ofNat n.toNat)) r = ⟨r.data ++ (l.map UInt8.ofNat).toArray⟩ := by
  induction l with
  | nil => intro r; simp
  | cons c l ih =>
    intro r
    simp only [List.map_cons, List.foldl_cons]
    rw [ih]
    simp [ByteArray.push]
theorem bsN_append (l m : List Nat) : bsN l ++ bsN m = bsN (l ++ m) := by
  apply ByteArray.ext
  simp [bsN, ByteArray.data_append]
theorem conv_bytes (w : World) (b : Nat) (l : List Nat) (t : TypeId) (hb : Blk w b ((l.map fun n : Nat => Value.int .u8 (n : Int)).toArray) t) :
    (convert 51 9 (.slice (some ⟨b, 0, none⟩) l.length l.length)).run Tryd.prog w = .ok (.string (bsN l)) w := by
  rw [run_convert_bytes_string w 51 9 5 _ _ _ Tryd.underlying51 Tryd.underlying5 Tryd.underlying9]
  rw [run_bytesToString w ⟨b, 0, none⟩ l.length l.length (l.map Int.ofNat) ?_]
  · rw [bsN_fold]
    simp [bsN]
  · have h := run_loadCells_list (P := Tryd.prog) w ⟨b, 0, none⟩ ((l.map Int.ofNat).map (Value.int .u8)) ?_
    · simpa using h
    · intro j v hj
      simp at hj
      obtain ⟨c, hc, rfl⟩ := hj
      have := hb.cell j
      simp [hc] at this
      rw [show (⟨b, 0, none⟩ : Addr).add j = ⟨b, j, none⟩ by unfold Addr.add; split <;> simp_all]
      exact this
set_option maxHeartbeats 1000000 in
theorem op_any (n : Nat) (hn : n < 256) (w : World) :
    Calls Tryd.prog 6 #[.int .i64 n] w fun e w' => e = .returned (.string (bsN [n])) ∧ Below w.heap.size w w' := by
  have hcv := conv_bytes (w.alloc (Obj.cells #[Value.int .u8 n] 5)) w.heap.size [n] 5 (Blk.new w _ _)
  simp only [List.length_cons, List.length_nil, Nat.zero_add] at hcv
  go_enter Tryd.func6, Tryd.ntmps6
  go_wp2
  all_goals go_ret
  exact ⟨rfl, box3 _ _⟩
set_option maxHeartbeats 1000000 in
theorem past_any (n : Nat) (hn : n < 65536) (w : World) :
    Calls Tryd.prog 24 #[.int .i64 n] w fun e w' => e = .returned (.string (bsN [n % 256, n / 256])) ∧ Below w.heap.size w w' := by
  have hcv := conv_bytes (w.alloc (Obj.cells #[Value.int .u8 ((n % 256 : Nat) : Int), Value.int .u8 ((n / 256 : Nat) : Int)] 5)) w.heap.size [n % 256, n / 256] 5 (Blk.new w _ _)
  simp only [List.length_cons, List.length_nil, Nat.zero_add] at hcv
  obtain ⟨lo, hlo⟩ : ∃ lo, lo = n % 256 := ⟨_, rfl⟩
  obtain ⟨hi, hhi⟩ : ∃ hi, hi = n / 256 := ⟨_, rfl⟩
  rw [← hlo, ← hhi] at hcv
  have e1 : (n : Int) % 256 = (lo : Int) := by omega
  have e2 : (n : Int) / 256 = (hi : Int) := by omega
  have e3 : (hi : Int) % 256 = (hi : Int) := by omega
  rw [← hlo, ← hhi]
  clear hlo hhi
  go_enter Tryd.func24, Tryd.ntmps24
  go_wp2
  all_goals go_ret
  exact ⟨rfl, box3 _ _⟩
end Go.Proofs.YtbdjcffmpbjjlaaDoor
