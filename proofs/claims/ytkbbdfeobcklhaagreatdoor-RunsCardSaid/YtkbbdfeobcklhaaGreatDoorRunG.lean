/-
  Jumps and attributes; then one step of the program's machine, whole.
-/
import Derived.Test.YtkbbdfeobcklhaaGreatDoorRunF
import Derived.Test.YtkbbdfeobcklhaaGreatDoorVerT
set_option linter.unusedVariables false
set_option linter.unusedSimpArgs false
namespace Go.Proofs.YtkbbdfeobcklhaaGreatDoor
open Go.RowKit

theorem MSt.blk {w w1 : World} {mb xb : Nat} {cs : Array Value} {t : TypeId} (h : Blk w xb cs t) (ho : ∀ b, b ≠ mb → w1.heap[b]? = w.heap[b]?) (hne : xb ≠ mb) : Blk w1 xb cs t := by
  unfold Blk at h ⊢; rw [ho xb hne]; exact h
set_option maxHeartbeats 1000000 in
theorem jump13 {w : World} {mb : Nat} {x : Itm} {y : Bn} {sv : Value} {st : List Int} {p : Nat} {n : Int} (c : Nat) (hc : c = 13) (a : Int) (nx q : Nat) (ha0 : 0 ≤ a) (ha6 : a ≤ 65535) (hnx : nx ≤ 100000) (hq : (nx : Int) + a = q) (h : MSt w mb x y sv st p false 0 0 n) :
    Calls Tryz.prog 123 #[.pointer (some ⟨mb, 0, none⟩), .agg #[.int .i64 c, .int .i64 a, .int .i64 nx]] w fun e w' => e = .returned (.tuple #[]) ∧ Below mb w w' ∧ MRes w' mb x y (.inr (q, st)) n := by
  have HM : Hid (MSt w mb x y sv st p false 0 0 n) := h
  have HQ : Hid ((nx : Int) + a = (q : Nat)) := hq
  have hlt := h.lt
  have e13 : ((c : Int) == 13) = true := by simp; omega
  have e13' : ((c : Int) != 13) = false := by simp; omega
  clear h hq hc
  have HMa := Hid.mk2 (HM.out.below (box3 w (.cells #[.int .i64 c, .int .i64 a, .int .i64 nx] 142)))
  go_enter Tryz.func123, Tryz.ntmps123
  go_wp2_with (go_at_call 118; refine (Target_c c a nx ha0 ha6 hnx _).mono ?_; rintro e w2 ⟨rfl, hb2⟩; rw [HQ.out]; have HM2 := Hid.mk2 (HMa.out.below hb2); have c9 := HM2.out.c9; have f9 := HM2.out.m.free 9)
  go_end0
  exact ⟨rfl, (((Below.refl mb w).alloc (Nat.le_of_lt hlt) _).trans (hb2.mono (by simp; omega))).setCell (p := ⟨mb, 9, none⟩) (Nat.le_refl _) _, _, HM2.out.place q⟩
set_option maxHeartbeats 1000000 in
theorem jumpIf {w : World} {mb : Nat} {x : Itm} {y : Bn} {sv : Value} {z : Int} {r : List Int} {n : Int} (c : Nat) (hc : c = 14 ∨ c = 15) (a : Int) (nx q : Nat) (hl : r.length ≤ 4000) (ha0 : 0 ≤ a) (ha6 : a ≤ 65535) (hnx : nx ≤ 100000) (hq : (nx : Int) + a = q) (h : MSt w mb x y sv (z :: r) nx false 0 0 n) :
    Calls Tryz.prog 123 #[.pointer (some ⟨mb, 0, none⟩), .agg #[.int .i64 c, .int .i64 a, .int .i64 nx]] w fun e w' => e = .returned (.tuple #[]) ∧ Below mb w w' ∧ MRes w' mb x y (.inr (if (decide (z = 0)) = (decide (c = 14)) then q else nx, r)) n := by
  have HM : Hid (MSt w mb x y sv (z :: r) nx false 0 0 n) := h
  have HQ : Hid ((nx : Int) + a = (q : Nat)) := hq
  have hlt := h.lt
  have hlt' : mb ≠ w.heap.size := by omega
  clear h hq
  have HMa := Hid.mk2 (HM.out.below (box3 w (.cells #[.int .i64 c, .int .i64 a, .int .i64 nx] 142)))
  have HX := Hid.mk2 (Blk.new w #[.int .i64 c, .int .i64 a, .int .i64 nx] 142)
  have e13 : ((c : Int) == 13) = false := by rcases hc with h | h <;> simp [h]
  have e13' : ((c : Int) != 13) = true := by rcases hc with h | h <;> simp [h]
  have hB := Hid.mk2 (((Below.refl mb w).alloc (Nat.le_of_lt hlt) (.cells #[.int .i64 c, .int .i64 a, .int .i64 nx] 142)))
  obtain ⟨b15, hb15⟩ : ∃ b, ((c : Int) == 15) = b := ⟨_, rfl⟩
  obtain ⟨bz, hbz⟩ : ∃ b, (z != 0) = b := ⟨_, rfl⟩
  have hcond : (decide (z = 0) = decide (c = 14)) ↔ (bz = b15) := by
    rw [← hb15, ← hbz]
    by_cases hz : z = 0 <;> rcases hc with h | h <;> simp [hz, h]
  have HCo := Hid.mk2 hcond
  clear hcond hc
  cases b15 <;> cases bz
  case false.false | true.true =>
    rw [if_pos (HCo.out.2 rfl)]
    clear HCo
    go_enter Tryz.func123, Tryz.ntmps123
    go_wp2_with (first | (go_at_call 124; refine (take_any hl HMa.out).mono ?_; rintro e w1 ⟨rfl, hb1, ho1, sv1, hm1⟩; have HM1 := Hid.mk2 hm1; have HX1 := Hid.mk2 (MSt.blk HX.out ho1 (Ne.symm hlt')); have d0 := HX1.out.cell 0; have d1 := HX1.out.cell 1; have d2 := HX1.out.cell 2; clear hm1) | (go_at_call 118; refine (Target_c c a nx ha0 ha6 hnx _).mono ?_; rintro e w2 ⟨rfl, hb2⟩; rw [HQ.out]; have HM2 := Hid.mk2 (HM1.out.below hb2); have c9 := HM2.out.c9; have f9 := HM2.out.m.free 9))
    go_end0
    exact ⟨rfl, ((hB.out.trans hb1).trans (hb2.mono (Nat.le_of_lt HM1.out.lt))).setCell (p := ⟨mb, 9, none⟩) (Nat.le_refl _) _, _, HM2.out.place q⟩
  case false.true | true.false =>
    rw [if_neg (fun h => by have := HCo.out.1 h; cases this)]
    clear HCo
    go_enter Tryz.func123, Tryz.ntmps123
    go_wp2_with (go_at_call 124; refine (take_any hl HMa.out).mono ?_; rintro e w1 ⟨rfl, hb1, ho1, sv1, hm1⟩; have HM1 := Hid.mk2 hm1; have HX1 := Hid.mk2 (MSt.blk HX.out ho1 (Ne.symm hlt')); have d0 := HX1.out.cell 0; have d1 := HX1.out.cell 1; have d2 := HX1.out.cell 2; clear hm1)
    go_end0
    exact ⟨rfl, hB.out.trans hb1, _, HM1.out⟩
def itmA (x : Itm) : Value := .agg #[.int .i64 x.size, .int .i64 x.speed, .int .i64 x.need]
def bnA (y : Bn) : Value := .agg #[.int .i64 y.id, .int .i64 y.zone, .int .i64 y.cap, .int .i64 y.used, .int .i64 y.has]
set_option maxHeartbeats 1000000 in
theorem Attribute_any (k : Int) (x : Itm) (y : Bn) (w : World) :
    Calls Tryz.prog 121 #[.int .i64 k, itmA x, bnA y] w fun e w' => e = .returned (.int .i64 (attrN k x y)) ∧ Below w.heap.size w w' := by
  unfold itmA bnA
  go_enter Tryz.func121, Tryz.ntmps121
  go_wp2
  all_goals go_ret
  all_goals exact ⟨ret_int (by go_light; simp_all [attrN]), (box3 _ _).trans ((box3 _ _).mono (by simp))⟩
end Go.Proofs.YtkbbdfeobcklhaaGreatDoor
