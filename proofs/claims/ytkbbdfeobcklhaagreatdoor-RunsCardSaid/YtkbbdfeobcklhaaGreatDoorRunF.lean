/-
  One step of the program's machine.
-/
import Derived.Test.YtkbbdfeobcklhaaGreatDoorRunE
import Derived.Test.YtkbbdfeobcklhaaGreatDoorVerS
import Derived.Deep.RegionHeld3
set_option linter.unusedVariables false
set_option linter.unusedSimpArgs false
namespace Go.Proofs.YtkbbdfeobcklhaaGreatDoor
open Go.RowKit

/-- What a step leads to, in memory. -/
def MRes (w : World) (mb : Nat) (x : Itm) (y : Bn) (res : (Nat × Int) ⊕ (Nat × List Int)) (n : Int) : Prop :=
  match res with
  | .inl (k, v) => ∃ sv st p, MSt w mb x y sv st p true k v n
  | .inr (p, st) => ∃ sv, MSt w mb x y sv st p false 0 0 n
theorem MRes.lay0 {w : World} {mb : Nat} {x : Itm} {y : Bn} {a : Int} {f p : Nat} {st : List Int} {n : Int} (hf : f = 0) (h : ∃ sv, MSt w mb x y sv (a :: st) p false 0 0 n) : MRes w mb x y (layM (a, f) p st) n := by
  subst hf; exact h
theorem MRes.lay1 {w : World} {mb : Nat} {x : Itm} {y : Bn} {a : Int} {f p : Nat} {st : List Int} {n : Int} (hf : f ≠ 0) (h : ∃ sv st p, MSt w mb x y sv st p true 2 f n) : MRes w mb x y (layM (a, f) p st) n := by
  unfold layM; simp only [hf, if_false]; exact h
set_option maxHeartbeats 1000000 in
theorem layOrFault_any {w : World} {mb : Nat} {x : Itm} {y : Bn} {sv : Value} {st : List Int} {p : Nat} {n : Int} (z : Int) (f : Nat) (hf : f ≤ 2) (hl : st.length ≤ 4000) (h : MSt w mb x y sv st p false 0 0 n) :
    Calls Tryz.prog 150 #[.pointer (some ⟨mb, 0, none⟩), .int .i64 z, .int .i64 f] w fun e w' => e = .returned (.tuple #[]) ∧ Below mb w w' ∧ MRes w' mb x y (layM (z, f) p st) n := by
  have HM : Hid (MSt w mb x y sv st p false 0 0 n) := h
  clear h
  by_cases h0 : f = 0
  · subst h0
    go_enter Tryz.func150, Tryz.ntmps150
    go_wp2_with (go_at_call 120; refine (lay_any z hl HM.out).mono ?_; rintro e w1 ⟨rfl, hb1, hm1⟩)
    go_end0
    exact ⟨rfl, hb1, .lay0 rfl hm1⟩
  · have e0 : ((f : Int) == 0) = false := by simp; omega
    have e0' : ((f : Int) != 0) = true := by simp; omega
    have H0 : Hid (f ≠ 0) := h0
    clear h0
    go_enter Tryz.func150, Tryz.ntmps150
    go_wp2_with (go_at_call 125; refine (end_any 2 f HM.out).mono ?_; rintro e w1 ⟨rfl, hb1, hm1⟩)
    refine bodyPost_ret (results_none rfl _ _ _) rfl ?_
    exact ⟨rfl, hb1, .lay1 H0.out ⟨_, _, _, hm1⟩⟩
theorem neg_le2 (a : Int) : (negN a).2 ≤ 2 := by unfold negN exact64; split <;> simp
theorem one_le2 (c : Nat) (a : Int) : (oneN c a).2 ≤ 2 := by
  unfold oneN; split
  · exact neg_le2 a
  · simp
theorem join_le2 (c : Nat) (a b : Int) : (joinN c a b).2 ≤ 2 := by
  have e : ∀ v, (exact64 v).2 ≤ 2 := fun v => by unfold exact64; split <;> simp
  unfold joinN
  (repeat' split) <;> first | exact e _ | simp
set_option maxHeartbeats 1000000 in
theorem one_any' {w : World} {mb : Nat} {x : Itm} {y : Bn} {sv : Value} {a : Int} {r : List Int} {p : Nat} {n : Int} (c : Nat) (hc : c = 2 ∨ c = 3) (ha : In64 a) (hl : r.length ≤ 4000) (h : MSt w mb x y sv (a :: r) p false 0 0 n) :
    Calls Tryz.prog 122 #[.pointer (some ⟨mb, 0, none⟩), .int .i64 c] w fun e w' => e = .returned (.tuple #[]) ∧ Below mb w w' ∧ MRes w' mb x y (layM (oneN c a) p r) n := by
  have HM : Hid (MSt w mb x y sv (a :: r) p false 0 0 n) := h
  have HA : Hid (In64 a) := ha
  have HC : Hid (c = 2 ∨ c = 3) := hc
  obtain ⟨z, hz⟩ : ∃ z, z = (oneN c a).1 := ⟨_, rfl⟩
  obtain ⟨f, hf⟩ : ∃ f, f = (oneN c a).2 := ⟨_, rfl⟩
  have HZ : Hid ((oneN c a).1 = z) := hz.symm
  have HF : Hid ((oneN c a).2 = f) := hf.symm
  have hf2 : f ≤ 2 := by rw [hf]; exact one_le2 c a
  have e : layM (oneN c a) p r = layM (z, f) p r := by rw [hz, hf]
  rw [e]
  clear h ha hc hz hf e
  go_enter Tryz.func122, Tryz.ntmps122
  go_wp2_with (first | (go_at_call 124; refine (take_any hl HM.out).mono ?_; rintro e w1 ⟨rfl, hb1, _, sv1, hm1⟩; have HM1 := Hid.mk2 hm1; clear hm1) | (go_at_call 149; refine (One_any c HC.out a HA.out _).mono ?_; rintro e w2 ⟨rfl, rfl⟩; rw [HZ.out, HF.out]) | (go_at_call 150; refine (layOrFault_any z f hf2 hl HM1.out).mono ?_; rintro e w3 ⟨rfl, hb3, hm3⟩))
  go_end0
  exact ⟨rfl, hb1.trans hb3, hm3⟩
set_option maxHeartbeats 1000000 in
theorem two_any' {w : World} {mb : Nat} {x : Itm} {y : Bn} {sv : Value} {a b : Int} {r : List Int} {p : Nat} {n : Int} (c : Nat) (hc : 4 ≤ c ∧ c ≤ 12) (ha : In64 a) (hb : In64 b) (hl : r.length ≤ 3000) (h : MSt w mb x y sv (b :: a :: r) p false 0 0 n) :
    Calls Tryz.prog 126 #[.pointer (some ⟨mb, 0, none⟩), .int .i64 c] w fun e w' => e = .returned (.tuple #[]) ∧ Below mb w w' ∧ MRes w' mb x y (layM (joinN c a b) p r) n := by
  have HM : Hid (MSt w mb x y sv (b :: a :: r) p false 0 0 n) := h
  have HA : Hid (In64 a) := ha
  have HB : Hid (In64 b) := hb
  obtain ⟨z, hz⟩ : ∃ z, z = (joinN c a b).1 := ⟨_, rfl⟩
  obtain ⟨f, hf⟩ : ∃ f, f = (joinN c a b).2 := ⟨_, rfl⟩
  have HZ : Hid ((joinN c a b).1 = z) := hz.symm
  have HF : Hid ((joinN c a b).2 = f) := hf.symm
  have hf2 : f ≤ 2 := by rw [hf]; exact join_le2 c a b
  have e : layM (joinN c a b) p r = layM (z, f) p r := by rw [hz, hf]
  rw [e]
  clear h ha hb hz hf e
  go_enter Tryz.func126, Tryz.ntmps126
  go_wp2_with fail
  refine (take_any (by simp; omega) HM.out).mono ?_
  rintro e w1 ⟨rfl, hb1, _, sv1, hm1⟩
  have HM1 := Hid.mk2 hm1
  clear hm1
  go_wp2_with fail
  refine (take_any (by omega) HM1.out).mono ?_
  rintro e w2 ⟨rfl, hb2, _, sv2, hm2⟩
  have HM2 := Hid.mk2 hm2
  clear hm2
  go_wp2_with (first | (go_at_call 151; refine (Two_any c hc a b HA.out HB.out _).mono ?_; rintro e w2 ⟨rfl, rfl⟩; rw [HZ.out, HF.out]) | (go_at_call 150; refine (layOrFault_any z f hf2 (by omega) HM2.out).mono ?_; rintro e w3 ⟨rfl, hb3, hm3⟩))
  go_end0
  exact ⟨rfl, (hb1.trans hb2).trans hb3, hm3⟩
end Go.Proofs.YtkbbdfeobcklhaaGreatDoor
