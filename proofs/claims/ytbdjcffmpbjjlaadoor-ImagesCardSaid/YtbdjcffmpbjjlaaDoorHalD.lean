/-
  Halts: any bytes.
-/
import Derived.Test.YtbdjcffmpbjjlaaDoorHalC
import Derived.Deep.DeepCutAuto
import Derived.Deep.RegionWith
set_option linter.unusedVariables false
set_option linter.unusedSimpArgs false
namespace Go.Proofs.YtbdjcffmpbjjlaaDoor
open Go.RowKit

theorem bsN_len (l : List Nat) : (bsN l).size = l.length := by simp [bsN, ByteArray.size]
theorem sits_bsN (l : List Nat) (h : ∀ b ∈ l, b < 256) : Sits (bsN l) 0 l := by
  intro i b hi
  have hlt : i < l.length := (List.getElem?_eq_some_iff.1 hi).1
  have hb : b < 256 := h b (List.mem_of_getElem? hi)
  have hsz : i < (bsN l).size := by rw [bsN_len]; exact hlt
  refine ⟨by rw [Nat.zero_add]; exact hsz, ?_⟩
  rw [Nat.zero_add, bt_get _ _ hsz]
  have e : (bsN l)[i] = UInt8.ofNat l[i] := by
    show (bsN l).data[i]'(by rw [ByteArray.size] at hsz; exact hsz) = _
    simp [bsN]
  have hl : l[i] = b := (List.getElem?_eq_some_iff.1 hi).2
  rw [e, hl]
  simp [UInt8.toNat_ofNat', Nat.mod_eq_of_lt hb]
theorem sim_out {x : Itm} {y : Bn} {r : Nat × Int × Nat} {k : Int} (hx : x.Ok) (hy : y.Ok) (h : OutIs (bsN [83, 76, 0, 17]) x y r k) : r = (0, 0, 1) ∧ k = 0 := by
  have hs : Sits (bsN [83, 76, 0, 17]) 0 (imgC 0 [17]) := sits_bsN [83, 76, 0, 17] (by decide)
  have hz : (bsN [83, 76, 0, 17]).size = 4 := bsN_len _
  have hi := rej_img hs hz
  have hx' := (itmB_iff x).2 hx
  have hy' := (bnB_iff y).2 hy
  rcases h with ⟨a, _⟩ | ⟨_, a, _⟩ | ⟨_, _, a, _⟩ | ⟨_, _, _, a, b⟩
  · exact absurd hi a
  · rw [hx'] at a; cases a
  · rw [hy'] at a; cases a
  · exact ⟨by rw [a, rej_run hs], b⟩
theorem out_img {s : ByteArray} {x : Itm} {y : Bn} {r : Nat × Int × Nat} {k : Int} (hi : IsImg s) (hx : x.Ok) (hy : y.Ok) (h : OutIs s x y r k) : k = 0 ∧ EndOk r.1 r.2.1 ∧ 1 ≤ r.2.2 ∧ r.2.2 + 3 ≤ s.size := by
  have hx' := (itmB_iff x).2 hx
  have hy' := (bnB_iff y).2 hy
  rcases h with ⟨a, _⟩ | ⟨_, a, _⟩ | ⟨_, _, a, _⟩ | ⟨_, _, _, a, b⟩
  · exact absurd hi a
  · rw [hx'] at a; cases a
  · rw [hy'] at a; cases a
  · obtain ⟨k', v, m, e, h1, h2, h3⟩ := img_ends hi hx hy
    rw [a, e]
    exact ⟨b, h1, h2, h3⟩
theorem out_none {s : ByteArray} {x : Itm} {y : Bn} {r : Nat × Int × Nat} {k : Int} (hi : ¬ IsImg s) (h : OutIs s x y r k) : k = 7 ∧ r = (0, 0, 0) := by
  rcases h with ⟨_, a, b⟩ | ⟨a, _⟩ | ⟨a, _⟩ | ⟨a, _⟩
  · exact ⟨b, a⟩
  all_goals exact absurd a hi
end Go.Proofs.YtbdjcffmpbjjlaaDoor
