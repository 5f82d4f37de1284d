/-
  Images of known making: eight.
-/
import Derived.Test.YtbdjcffmpbjjlaaDoorKeepC
set_option linter.unusedVariables false
set_option linter.unusedSimpArgs false
namespace Go.Proofs.YtbdjcffmpbjjlaaDoor
open Go.RowKit

theorem bsN_size (l : List Nat) : (bsN l).size = l.length := by simp [bsN, ByteArray.size]
set_option maxHeartbeats 2000000 in
theorem eight_any (v : Int) (hv : In64 v) (w : World) :
    Calls Tryd.prog 22 #[.int .i64 v] w fun e w' => e = .returned (.string (bsN (eightC v))) ∧ Below w.heap.size w w' := by
  obtain ⟨u, hu⟩ : ∃ u : Nat, u = (v % 18446744073709551616).toNat := ⟨_, rfl⟩
  have eu : v % 18446744073709551616 = (u : Int) := by omega
  have hlt : u < 18446744073709551616 := by omega
  have e8 : eightC v = bytesN u 8 := by unfold eightC; rw [hu]
  rw [e8]
  have ew : IntKind.u64.wrap v = (u : Int) := by rw [← eu]; simp [IntKind.wrap, IntKind.signed, IntKind.bits]
  clear eu
  clear hu e8
  go_enter Tryd.func22, Tryd.ntmps22
  go_wp2
  go_loopw [3, 4, 5] (fun vn vs vi wr => ∃ (n k : Nat) (acc : List Nat), k ≤ 8 ∧ vi = .int .i64 k ∧ vn = .int .u64 n ∧ n < 18446744073709551616 ∧ vs = .string (bsN acc) ∧ acc.length = k ∧ Below w.heap.size w wr ∧ bytesN u 8 = acc ++ bytesN n (8 - k)) (fun _ _ i _ => 8 - (intOf i).toNat)
  case atStart => exact ⟨u, 0, [], by omega, rfl, rfl, hlt, rfl, rfl, Below.refl _ _, rfl⟩
  case round =>
    obtain ⟨n, k, acc, hk, rfl, rfl, hn, rfl, hl, hb, hq⟩ := hrel
    by_cases h8 : k < 8
    · obtain ⟨lo, hlo⟩ : ∃ lo, lo = n % 256 := ⟨_, rfl⟩
      obtain ⟨hi, hhi⟩ : ∃ hi, hi = n / 256 := ⟨_, rfl⟩
      have e1 : (n : Int) % 256 = (lo : Int) := by omega
      have e2 : (n : Int) / 256 = (hi : Int) := by omega
      have hq' : bytesN u 8 = (acc ++ [lo]) ++ bytesN hi (8 - (k + 1)) := by
        rw [hq, show 8 - k = (8 - (k + 1)) + 1 by omega, bytesN, hlo, hhi]
        simp
      have HQ := Hid.mk2 hq'
      have HB := Hid.mk2 hb
      have HL := Hid.mk2 hl
      have hhi' : hi < 18446744073709551616 := by omega
      have z1 : (bsN acc).size = k := by rw [bsN_size, hl]
      have z2 : (bsN [lo]).size = 1 := by rw [bsN_size]; rfl
      clear hq hq' hlo hhi hb hl
      have hcv := fun wx : World => conv_bytes (wx.alloc (Obj.cells #[Value.int .u8 (lo : Int)] 5)) wx.heap.size [lo] 5 (Blk.new wx _ _)
      simp only [List.length_cons, List.length_nil, Nat.zero_add] at hcv
      go_wp2
      go_round
      case rel => exact ⟨hi, k + 1, acc ++ [lo], by omega, by go_num, rfl, hhi', by rw [bsN_append], by simp [HL.out], HB.out.alloc HB.out.size _, HQ.out⟩
      case measure => simp [intOf]; omega
    · have : k = 8 := by omega
      subst this
      have e : bytesN u 8 = acc := by rw [hq]; simp [bytesN]
      have HE := Hid.mk2 e
      have HB := Hid.mk2 hb
      clear hb hq e
      go_wp2
      go_ret
      exact ⟨by rw [HE.out]; rfl, HB.out⟩
end Go.Proofs.YtbdjcffmpbjjlaaDoor
