/-
  What the program's small functions on operations do: hasHead, lowestFirst, At, Takes, Lays, Ends, Jumps, Target.
-/
import Derived.Test.YtkbbdfeobcklhaaGreatDoorVerA
import Derived.Test.YtkbbdfeobcklhaaGreatDoorPure
import Derived.Test.YtkbbdfeobcklhaaGreatDoorMach
import Derived.Laws.BitsAllLaws
set_option linter.unusedVariables false
set_option linter.unusedSimpArgs false
namespace Go.Proofs.YtkbbdfeobcklhaaGreatDoor
open Go.RowKit

/-- The program's three tables lie in memory as its text lays them. -/
structure GlobP (w : World) : Prop where
  bytes : ∀ c, c < 18 → w.cell? ⟨0, c, none⟩ = some (.int .i64 (behindN c))
  takes : ∀ c, c < 18 → w.cell? ⟨1, c, none⟩ = some (.int .i64 (takesN c))
  lays : ∀ c, c < 18 → w.cell? ⟨2, c, none⟩ = some (.int .i64 (laysN c))
  size : 0 < w.heap.size ∧ 1 < w.heap.size ∧ 2 < w.heap.size
theorem GlobP.below {w w' : World} (h : GlobP w) (hb : Below w.heap.size w w') : GlobP w' :=
  ⟨fun c hc => (hb.cell (p := ⟨0, c, none⟩) h.size.1).trans (h.bytes c hc), fun c hc => (hb.cell (p := ⟨1, c, none⟩) h.size.2.1).trans (h.takes c hc), fun c hc => (hb.cell (p := ⟨2, c, none⟩) h.size.2.2).trans (h.lays c hc), ⟨Nat.lt_of_lt_of_le h.size.1 hb.size, Nat.lt_of_lt_of_le h.size.2.1 hb.size, Nat.lt_of_lt_of_le h.size.2.2 hb.size⟩⟩

def headB (s : ByteArray) : Bool := decide (4 ≤ s.size) && decide (s.size ≤ 4000) && decide (bt s 0 = 83) && decide (bt s 1 = 76)
theorem headB_iff (s : ByteArray) : headB s = true ↔ HeadOk s := by
  unfold headB HeadOk
  simp only [Bool.and_eq_true, decide_eq_true_eq, and_assoc]
theorem headB_false {s : ByteArray} (h : ¬ HeadOk s) : headB s = false := by
  cases hb : headB s
  · rfl
  · exact absurd ((headB_iff s).1 hb) h
set_option maxHeartbeats 400000 in
theorem hasHead_any (s : ByteArray) (w : World) :
    Calls Tryz.prog 73 #[.string s] w fun e w' => e = .returned (.bool (headB s)) ∧ w' = w := by
  by_cases h1 : s.size ≤ 3
  · go_enter Tryz.func73, Tryz.ntmps73
    go_wp2
    go_ret
    exact ⟨ret_bool (by symm; apply headB_false; intro h; have := h.1; omega), rfl⟩
  by_cases h2 : 4000 < s.size
  · go_enter Tryz.func73, Tryz.ntmps73
    go_wp2
    go_ret
    exact ⟨ret_bool (by symm; apply headB_false; intro h; have := h.2.1; omega), rfl⟩
  have hi0 := fun wx => run_index_nat (P := Tryz.prog) wx 9 s .i64 0 0 Tryz.underlying9 rfl (by omega)
  have hi1 := fun wx => run_index_nat (P := Tryz.prog) wx 9 s .i64 1 1 Tryz.underlying9 rfl (by omega)
  have HB0 : Hid (bt s 0 = s[0].toNat) := bt_get s 0 (by omega)
  have HB1 : Hid (bt s 1 = s[1].toNat) := bt_get s 1 (by omega)
  obtain ⟨c0, hc0⟩ : ∃ c, c = (s[0]'(by omega)).toNat := ⟨_, rfl⟩
  obtain ⟨c1, hc1⟩ : ∃ c, c = (s[1]'(by omega)).toNat := ⟨_, rfl⟩
  rw [← hc0] at hi0 HB0
  rw [← hc1] at hi1 HB1
  clear hc0 hc1
  have HD : Hid (headB s = (((c0 : Int) == 83) && ((c1 : Int) == 76))) := (by
    rw [Bool.eq_iff_iff, headB_iff]
    unfold HeadOk
    rw [HB0.out, HB1.out]
    simp
    omega : headB s = (((c0 : Int) == 83) && ((c1 : Int) == 76)))
  cases h3 : ((c0 : Int) == 83)
  all_goals
    go_enter Tryz.func73, Tryz.ntmps73
    go_wp2
    go_ret
    exact ⟨ret_bool (by rw [HD.out]; simp [h3]), rfl⟩

theorem bt_ext (s : ByteArray) (a b i : Nat) (h : i < (s.extract a b).size) : bt (s.extract a b) i = bt s (a + i) := by
  have h2 : a + i < s.size := by rw [ByteArray.size_extract] at h; omega
  rw [bt_get _ _ h, bt_get _ _ h2]
  congr 1
  have h3 := getElem_toList (s.extract a b) i h
  have h4 := getElem_toList s (a + i) h2
  have e : (s.extract a b).toList = (s.toList.drop a).take (b - a) := by rw [extract_bsOf, bsOf_toList]
  rw [ByteArray.size_extract] at h
  rw [e, List.getElem?_take, if_pos (by omega), List.getElem?_drop, h4] at h3
  exact (Option.some.inj h3).symm
theorem lowU_ext (s : ByteArray) (a b : Nat) : ∀ (n k : Nat), k + n ≤ (s.extract a b).size → lowU (s.extract a b) k n = lowU s (a + k) n
  | 0, _, _ => rfl
  | n + 1, k, h => by
    simp only [lowU]
    rw [bt_ext s a b k (by omega), lowU_ext s a b n (k + 1) (by omega), Nat.add_assoc]
theorem lowU_lt (s : ByteArray) : ∀ (n k : Nat), lowU s k n < 256 ^ n
  | 0, _ => by simp [lowU]
  | n + 1, k => by
    have h1 := lowU_lt s n (k + 1)
    have h2 := bt_lt s k
    simp only [lowU, Nat.pow_succ]
    omega
theorem or_low (L b : Nat) (hL : L < 72057594037927936) (hb : b < 256) : bits .or .u64 (IntKind.u64.wrap ((L : Int) * 256)) (IntKind.u64.wrap (b : Nat)) = ((b + 256 * L : Nat) : Int) := by
  rw [IntWalk.u64_in _ ⟨by omega, by omega⟩, IntWalk.u64_in _ ⟨by omega, by omega⟩]
  have e : (L : Int) * 256 = ((L * 256 : Nat) : Int) := by omega
  rw [e, u64_or_nat _ _ (by omega) (by omega)]
  have h := Nat.shiftLeft_add_eq_or_of_lt (i := 8) (b := b) (by omega) L
  rw [Nat.shiftLeft_eq] at h
  rw [← h]
  omega
set_option maxHeartbeats 1000000 in
theorem lowestFirst_any (t : ByteArray) (ht : t.size ≤ 8) (w : World) :
    Calls Tryz.prog 119 #[.string t] w fun e w' => e = .returned (.int .i64 (IntKind.i64.wrap (lowU t 0 t.size : Nat))) ∧ w' = w := by
  go_enter Tryz.func119, Tryz.ntmps119
  go_wp2
  go_loop [3, 4] (fun v i => ∃ j : Nat, j ≤ t.size ∧ i = .int .i64 ((j : Int) - 1) ∧ v = .int .u64 (lowU t j (t.size - j) : Nat)) (fun _ i => (intOf i + 1).toNat)
  case atStart => exact ⟨t.size, Nat.le_refl _, by go_num, by simp [lowU]⟩
  case round =>
    obtain ⟨j, hj, rfl, rfl⟩ := hrel
    by_cases h0 : 0 < j
    · have hb : j - 1 < t.size := by omega
      have hbt : (t[j - 1]'hb).toNat = bt t (j - 1) := (bt_get t _ hb).symm
      have hix := fun wx => run_index_nat (P := Tryz.prog) wx 9 t .i64 ((j : Int) - 1) (j - 1) Tryz.underlying9 (by omega) hb
      go_wp2
      go_round
      case rel => exact ⟨j - 1, by omega, by go_num, by
          have hL := lowU_lt t (t.size - j) j
          have h7 : 256 ^ (t.size - j) ≤ 256 ^ 7 := Nat.pow_le_pow_right (by omega) (by omega)
          have e := lowU_step t 0 j t.size h0 hj
          simp only [Nat.zero_add] at e
          rw [e, or_low _ _ (by omega) (bt_lt t (j - 1))]⟩
      case measure => simp [intOf]; omega
    · go_wp2
      go_ret
      have : j = 0 := by omega
      subst this
      exact ⟨ret_int (by rw [IntWalk.i64_left]; simp), rfl⟩
end Go.Proofs.YtkbbdfeobcklhaaGreatDoor
