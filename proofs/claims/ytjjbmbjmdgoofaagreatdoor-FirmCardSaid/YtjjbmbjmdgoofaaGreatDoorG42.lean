/-
  Jumps and attributes; then one step of the program's machine, whole.
-/
import Derived.Test.YtjjbmbjmdgoofaaGreatDoorG40
import Derived.Test.YtjjbmbjmdgoofaaGreatDoorG41
import Derived.Test.YtjjbmbjmdgoofaaGreatDoorG23
import Derived.Deep.RegionHeld3
import Derived.Deep.Cut
set_option linter.unusedVariables false
set_option linter.unusedSimpArgs false
namespace Go.Proofs.YtjjbmbjmdgoofaaGreatDoor
open Go.RowKit
theorem MSt.blk {w w1 : World} {mb xb : Nat} {cs : Array Value} {t : TypeId} (h : Blk w xb cs t) (ho : ∀ b, b ≠ mb → w1.heap[b]? = w.heap[b]?) (hne : xb ≠ mb) : Blk w1 xb cs t := by
  unfold Blk at h ⊢; rw [ho xb hne]; exact h
set_option maxHeartbeats 1000000 in
theorem jump13 {w : World} {mb : Nat} {x : Itm} {y : Bn} {sv : Value} {st : List Int} {p : Nat} {n : Int} (c : Nat) (hc : c = 13) (a : Int) (nx q : Nat) (ha0 : 0 ≤ a) (ha6 : a ≤ 65535) (hnx : nx ≤ 100000) (hq : (nx : Int) + a = q) (h : MSt w mb x y sv st p false 0 0 n) :
    Calls Tryz.prog 135 #[.pointer (some ⟨mb, 0, none⟩), .agg #[.int .i64 c, .int .i64 a, .int .i64 nx]] w fun e w' => e = .returned (.tuple #[]) ∧ Below mb w w' ∧ MRes w' mb x y (.inr (q, st)) n := by
  have HM : Hid (MSt w mb x y sv st p false 0 0 n) := h
  have HQ : Hid ((nx : Int) + a = (q : Nat)) := hq
  have hlt := h.lt
  have e13 : ((c : Int) == 13) = true := by simp; omega
  have e13' : ((c : Int) != 13) = false := by simp; omega
  clear h hq hc
  have HMa := Hid.mk2 (HM.out.below (box3 w (.cells #[.int .i64 c, .int .i64 a, .int .i64 nx] 171)))
  go_enter Tryz.func135, Tryz.ntmps135
  go_wp2_with (go_at_call 106; refine (Target_c c a nx ha0 ha6 hnx _).mono ?_; rintro e w2 ⟨rfl, hb2⟩; rw [HQ.out]; have HM2 := Hid.mk2 (HMa.out.below hb2); have c9 := HM2.out.c9; have f9 := HM2.out.m.free 9)
  go_end0
  exact ⟨rfl, (((Below.refl mb w).alloc (Nat.le_of_lt hlt) _).trans (hb2.mono (by simp; omega))).setCell (p := ⟨mb, 9, none⟩) (Nat.le_refl _) _, _, HM2.out.place q⟩
set_option maxHeartbeats 1000000 in
theorem jumpIf {w : World} {mb : Nat} {x : Itm} {y : Bn} {sv : Value} {z : Int} {r : List Int} {n : Int} (c : Nat) (hc : c = 14 ∨ c = 15) (a : Int) (nx q : Nat) (hl : r.length ≤ 4000) (ha0 : 0 ≤ a) (ha6 : a ≤ 65535) (hnx : nx ≤ 100000) (hq : (nx : Int) + a = q) (h : MSt w mb x y sv (z :: r) nx false 0 0 n) :
    Calls Tryz.prog 135 #[.pointer (some ⟨mb, 0, none⟩), .agg #[.int .i64 c, .int .i64 a, .int .i64 nx]] w fun e w' => e = .returned (.tuple #[]) ∧ Below mb w w' ∧ MRes w' mb x y (.inr (if (decide (z = 0)) = (decide (c = 14)) then q else nx, r)) n := by
  have HM : Hid (MSt w mb x y sv (z :: r) nx false 0 0 n) := h
  have HQ : Hid ((nx : Int) + a = (q : Nat)) := hq
  have hlt := h.lt
  have hlt' : mb ≠ w.heap.size := by omega
  clear h hq
  have HMa := Hid.mk2 (HM.out.below (box3 w (.cells #[.int .i64 c, .int .i64 a, .int .i64 nx] 171)))
  have HX := Hid.mk2 (Blk.new w #[.int .i64 c, .int .i64 a, .int .i64 nx] 171)
  have e13 : ((c : Int) == 13) = false := by rcases hc with h | h <;> simp [h]
  have e13' : ((c : Int) != 13) = true := by rcases hc with h | h <;> simp [h]
  have hB := Hid.mk2 (((Below.refl mb w).alloc (Nat.le_of_lt hlt) (.cells #[.int .i64 c, .int .i64 a, .int .i64 nx] 171)))
  obtain ⟨b15, hb15⟩ : ∃ b, ((c : Int) == 15) = b := ⟨_, rfl⟩
  obtain ⟨bz, hbz⟩ : ∃ b, (z != 0) = b := ⟨_, rfl⟩
  have hcond : (decide (z = 0) = decide (c = 14)) ↔ (bz = b15) := by
    rw [← hb15, ← hbz]
    by_cases hz : z = 0 <;> rcases hc with h | h <;> simp [hz, h]
  have HCo := Hid.mk2 hcond
  clear hcond hc
  cases b15 <;> cases bz
  case false.false | true.true =>
    rw [if_pos (HCo.out.2 rfl)]
    clear HCo
    go_enter Tryz.func135, Tryz.ntmps135
    go_wp2_with (first | (go_at_call 136; refine (take_any hl HMa.out).mono ?_; rintro e w1 ⟨rfl, hb1, ho1, sv1, hm1⟩; have HM1 := Hid.mk2 hm1; have HX1 := Hid.mk2 (MSt.blk HX.out ho1 (Ne.symm hlt')); have d0 := HX1.out.cell 0; have d1 := HX1.out.cell 1; have d2 := HX1.out.cell 2; clear hm1) | (go_at_call 106; refine (Target_c c a nx ha0 ha6 hnx _).mono ?_; rintro e w2 ⟨rfl, hb2⟩; rw [HQ.out]; have HM2 := Hid.mk2 (HM1.out.below hb2); have c9 := HM2.out.c9; have f9 := HM2.out.m.free 9))
    go_end0
    exact ⟨rfl, ((hB.out.trans hb1).trans (hb2.mono (Nat.le_of_lt HM1.out.lt))).setCell (p := ⟨mb, 9, none⟩) (Nat.le_refl _) _, _, HM2.out.place q⟩
  case false.true | true.false =>
    rw [if_neg (fun h => by have := HCo.out.1 h; cases this)]
    clear HCo
    go_enter Tryz.func135, Tryz.ntmps135
    go_wp2_with (go_at_call 136; refine (take_any hl HMa.out).mono ?_; rintro e w1 ⟨rfl, hb1, ho1, sv1, hm1⟩; have HM1 := Hid.mk2 hm1; have HX1 := Hid.mk2 (MSt.blk HX.out ho1 (Ne.symm hlt')); have d0 := HX1.out.cell 0; have d1 := HX1.out.cell 1; have d2 := HX1.out.cell 2; clear hm1)
    go_end0
    exact ⟨rfl, hB.out.trans hb1, _, HM1.out⟩
set_option maxHeartbeats 1000000 in
theorem Attribute_any (k : Int) (x : Itm) (y : Bn) (w : World) :
    Calls Tryz.prog 133 #[.int .i64 k, itmA x, bnA y] w fun e w' => e = .returned (.int .i64 (attrN k x y)) ∧ Below w.heap.size w w' := by
  unfold itmA bnA
  go_enter Tryz.func133, Tryz.ntmps133
  go_wp2
  all_goals go_ret
  all_goals exact ⟨ret_int (by go_light; simp_all [attrN]), (box3 _ _).trans ((box3 _ _).mono (by simp))⟩
end Go.Proofs.YtjjbmbjmdgoofaaGreatDoor
namespace Go.Proofs.YtjjbmbjmdgoofaaGreatDoor
open Go.RowKit
set_option maxHeartbeats 2000000 in
set_option maxRecDepth 100000 in
theorem do_any {w : World} {mb : Nat} {x : Itm} {y : Bn} {sv : Value} {st : List Int} {p0 : Nat} {n : Int} (ps c : Nat) (a : Int) (nx : Nat) (h17 : c ≤ 17) (hn : 0 ≤ n ∧ n ≤ 100000) (hnx : nx ≤ 100000) (hj : c = 13 ∨ c = 14 ∨ c = 15 → 0 ≤ a ∧ a ≤ 65535)
    (ht : takesN c ≤ st.length) (hst : st.length ≤ 3000) (hi : ∀ v ∈ st, In64 v) (hai : In64 a) (hxy : x.Ok ∧ y.Ok) (h : MSt w mb x y sv st p0 false 0 0 n) :
    Calls Tryz.prog 98 #[.pointer (some ⟨mb, 0, none⟩), .agg #[.int .i64 c, .int .i64 a, .int .i64 nx]] w fun e w' => e = .returned (.tuple #[]) ∧ Below mb w w' ∧ MRes w' mb x y (stepM x y ⟨ps, c, a, nx⟩ st) (n + 1) := by
  have hlt := h.lt
  have hne : mb ≠ w.heap.size := by omega
  have hne' : w.heap.size ≠ mb := by omega
  obtain ⟨hn0, hn1⟩ := hn
  have HM2 := Hid.mk2 (((h.steps (n + 1)).place nx).below (box3 _ (.cells #[.int .i64 c, .int .i64 a, .int .i64 nx] 171)))
  have hB2 := Hid.mk2 ((((Below.refl mb w).setCell (p := ⟨mb, 13, none⟩) (Nat.le_refl _) (.int .i64 (n + 1))).setCell (p := ⟨mb, 9, none⟩) (Nat.le_refl _) (.int .i64 nx)).alloc (by simp; omega) (.cells #[.int .i64 c, .int .i64 a, .int .i64 nx] 171))
  have c13 := h.c13
  have c9 := h.c9
  have f13 := h.m.free 13
  have f9 := h.m.free 9
  have HI := Hid.mk2 hi
  have HAI := Hid.mk2 hai
  have HXY := Hid.mk2 hxy
  clear h hi hai hxy
  have hk : c = 0 ∨ c = 1 ∨ (c = 2 ∨ c = 3) ∨ c = 13 ∨ (c = 14 ∨ c = 15) ∨ c = 16 ∨ c = 17 ∨ (4 ≤ c ∧ c ≤ 12) := by omega
  rcases hk with hk | hk | hk | hk | hk | hk | hk | hk
  · have hs : stepM x y ⟨ps, c, a, nx⟩ st = .inr (nx, a :: st) := by rw [hk]; rfl
    rw [hs]
    have q0 : ((c : Int) == 0) = true := by simp; omega
    clear hs hj ht hk
    go_enter Tryz.func98, Tryz.ntmps98
    go_wp2_with (go_at_call 132; refine (rlay_any a (by omega) HM2.out).mono ?_; rintro e w3 ⟨rfl, hb3, hm3⟩)
    go_end0
    exact ⟨rfl, hB2.out.trans hb3, hm3⟩
  · have hs : stepM x y ⟨ps, c, a, nx⟩ st = .inr (nx, attrN a x y :: st) := by rw [hk]; rfl
    rw [hs]
    have q0 : ((c : Int) == 0) = false := by simp; omega
    have q1 : ((c : Int) == 1) = true := by simp; omega
    clear hs hj ht hk
    have hd := HM2.out.m
    obtain ⟨W2, hW2⟩ : ∃ W2, W2 = ((w.setCell ⟨mb, 13, none⟩ (.int .i64 (n + 1))).setCell ⟨mb, 9, none⟩ (.int .i64 nx)).alloc (.cells #[.int .i64 c, .int .i64 a, .int .i64 nx] 171) := ⟨_, rfl⟩
    have HX : Hid (Blk W2 w.heap.size #[.int .i64 c, .int .i64 a, .int .i64 nx] 171) := (by
      have := Blk.new ((w.setCell ⟨mb, 13, none⟩ (.int .i64 (n + 1))).setCell ⟨mb, 9, none⟩ (.int .i64 nx)) #[.int .i64 c, .int .i64 a, .int .i64 nx] 171
      rw [← hW2] at this
      simpa using this : Blk W2 w.heap.size #[.int .i64 c, .int .i64 a, .int .i64 nx] 171)
    rw [← hW2] at HM2 hB2
    have HW2 := Hid.mk2 hW2
    clear hd hW2
    go_enter Tryz.func98, Tryz.ntmps98
    go_upto_region 8 with fail
    rw [← HW2.out]
    have m0 : W2.cell? ⟨mb, 0, none⟩ = some (.int .i64 x.size) := (HM2.out.m.cell 0)
    have m1 : W2.cell? ⟨mb, 1, none⟩ = some (.int .i64 x.speed) := (HM2.out.m.cell 1)
    have m2 : W2.cell? ⟨mb, 2, none⟩ = some (.int .i64 x.need) := (HM2.out.m.cell 2)
    have m3 : W2.cell? ⟨mb, 3, none⟩ = some (.int .i64 y.id) := (HM2.out.m.cell 3)
    have m4 : W2.cell? ⟨mb, 4, none⟩ = some (.int .i64 y.zone) := (HM2.out.m.cell 4)
    have m5 : W2.cell? ⟨mb, 5, none⟩ = some (.int .i64 y.cap) := (HM2.out.m.cell 5)
    have m6 : W2.cell? ⟨mb, 6, none⟩ = some (.int .i64 y.used) := (HM2.out.m.cell 6)
    have m7 : W2.cell? ⟨mb, 7, none⟩ = some (.int .i64 y.has) := (HM2.out.m.cell 7)
    have x1 : W2.cell? ⟨w.heap.size, 1, none⟩ = some (.int .i64 a) := HX.out.cell 1
    have hmW : mb < W2.heap.size := HM2.out.lt
    have hxW : w.heap.size < W2.heap.size := HX.out.lt
    go_region_held3 (fun w' => w'.cell? ⟨mb, 0, none⟩ = some (.int .i64 x.size) ∧ w'.cell? ⟨mb, 1, none⟩ = some (.int .i64 x.speed) ∧ w'.cell? ⟨mb, 2, none⟩ = some (.int .i64 x.need) ∧ w'.cell? ⟨mb, 3, none⟩ = some (.int .i64 y.id) ∧ w'.cell? ⟨mb, 4, none⟩ = some (.int .i64 y.zone) ∧ w'.cell? ⟨mb, 5, none⟩ = some (.int .i64 y.cap) ∧ w'.cell? ⟨mb, 6, none⟩ = some (.int .i64 y.used) ∧ w'.cell? ⟨mb, 7, none⟩ = some (.int .i64 y.has) ∧ w'.cell? ⟨w.heap.size, 1, none⟩ = some (.int .i64 a)) (go_keep) ((go_at_call 133; refine (Attribute_any a x y _).mono ?_; rintro e w3 ⟨rfl, hb3⟩; have HM3 := Hid.mk2 (HM2.out.drew.below hb3); have hB3 := Hid.mk2 (hB2.out.drew.trans (hb3.mono (Nat.le_of_lt hmW))); have m0 := (hb3.cell (p := ⟨mb, 0, none⟩) hmW).trans m0; have m1 := (hb3.cell (p := ⟨mb, 1, none⟩) hmW).trans m1; have m2 := (hb3.cell (p := ⟨mb, 2, none⟩) hmW).trans m2; have m3 := (hb3.cell (p := ⟨mb, 3, none⟩) hmW).trans m3; have m4 := (hb3.cell (p := ⟨mb, 4, none⟩) hmW).trans m4; have m5 := (hb3.cell (p := ⟨mb, 5, none⟩) hmW).trans m5; have m6 := (hb3.cell (p := ⟨mb, 6, none⟩) hmW).trans m6; have m7 := (hb3.cell (p := ⟨mb, 7, none⟩) hmW).trans m7; have x1 := (hb3.cell (p := ⟨w.heap.size, 1, none⟩) hxW).trans x1))
    all_goals
      go_wp2_with (go_at_call 132; refine (rlay_any (attrN a x y) (by omega) HM3.out).mono ?_; rintro e w4 ⟨rfl, hb4, hm4⟩)
      go_end0
      exact ⟨rfl, hB3.out.trans hb4, hm4⟩
  · obtain ⟨z, r, rfl⟩ : ∃ z r, st = z :: r := by
      cases st with
      | nil => exfalso; rcases hk with rfl | rfl <;> simp [takesN] at ht
      | cons z r => exact ⟨z, r, rfl⟩
    have hs : stepM x y ⟨ps, c, a, nx⟩ (z :: r) = layM (oneN c z) nx r := by
      rcases hk with rfl | rfl
      · rfl
      · rfl
    rw [hs]
    have HZ : Hid (In64 z) := HI.out z (by simp)
    have HK := Hid.mk2 hk
    have hrl : r.length ≤ 4000 := by simp at hst; omega
    have q0 : ((c : Int) == 0) = false := by simp; omega
    have q1 : ((c : Int) == 1) = false := by simp; omega
    have q2 : ((c : Int) == 2) = true ∨ (((c : Int) == 2) = false ∧ ((c : Int) == 3) = true) := by rcases hk with rfl | rfl <;> simp
    clear hs hj ht hk
    rcases q2 with q2 | ⟨q2, q3⟩
    all_goals
      go_enter Tryz.func98, Tryz.ntmps98
      go_wp2_with (go_at_call 134; refine (one_any' c HK.out HZ.out hrl HM2.out).mono ?_; rintro e w3 ⟨rfl, hb3, hm3⟩)
      go_end0
      exact ⟨rfl, hB2.out.trans hb3, hm3⟩
  · obtain ⟨ha0, ha6⟩ := hj (.inl hk)
    obtain ⟨q, hq⟩ : ∃ q : Nat, (nx : Int) + a = q := ⟨((nx : Int) + a).toNat, by omega⟩
    have hs : stepM x y ⟨ps, c, a, nx⟩ st = .inr (q, st) := by
      rw [hk]
      show Sum.inr ((Ins.to ⟨ps, 13, a, nx⟩), st) = _
      have : Ins.to ⟨ps, 13, a, nx⟩ = q := by unfold Ins.to; simp only; omega
      rw [this]
    rw [hs]
    have HQ := Hid.mk2 hq
    have HK13 := Hid.mk2 hk
    have q0 : ((c : Int) == 0) = false := by simp; omega
    have q1 : ((c : Int) == 1) = false := by simp; omega
    have q2 : ((c : Int) == 2) = false := by simp; omega
    have q3 : ((c : Int) == 3) = false := by simp; omega
    have q13 : ((c : Int) == 13) = true := by simp; omega
    clear hs hj ht hq hk
    go_enter Tryz.func98, Tryz.ntmps98
    go_wp2_with (go_at_call 135; refine (jump13 c HK13.out a nx q ha0 ha6 hnx HQ.out HM2.out).mono ?_; rintro e w3 ⟨rfl, hb3, hm3⟩)
    go_end0
    exact ⟨rfl, hB2.out.trans hb3, hm3⟩
  · obtain ⟨ha0, ha6⟩ := hj (.inr hk)
    obtain ⟨z, r, rfl⟩ : ∃ z r, st = z :: r := by
      cases st with
      | nil => exfalso; rcases hk with rfl | rfl <;> simp [takesN] at ht
      | cons z r => exact ⟨z, r, rfl⟩
    obtain ⟨q, hq⟩ : ∃ q : Nat, (nx : Int) + a = q := ⟨((nx : Int) + a).toNat, by omega⟩
    have hs : stepM x y ⟨ps, c, a, nx⟩ (z :: r) = .inr (if (decide (z = 0)) = (decide (c = 14)) then q else nx, r) := by
      have hto : Ins.to ⟨ps, c, a, nx⟩ = q := by unfold Ins.to; simp only; omega
      rcases hk with rfl | rfl
      · show Sum.inr ((if fst (z :: r) = 0 then Ins.to ⟨ps, 14, a, nx⟩ else nx), r) = _
        rw [hto]
        by_cases hz : z = 0 <;> simp [fst, hz]
      · show Sum.inr ((if fst (z :: r) = 0 then nx else Ins.to ⟨ps, 15, a, nx⟩), r) = _
        rw [hto]
        by_cases hz : z = 0 <;> simp [fst, hz]
    rw [hs]
    obtain ⟨q', hq'⟩ : ∃ q', q' = if (decide (z = 0)) = (decide (c = 14)) then q else nx := ⟨_, rfl⟩
    have HQ' : Hid ((if (decide (z = 0)) = (decide (c = 14)) then q else nx) = q') := hq'.symm
    rw [← hq']
    clear hq'
    have HQ := Hid.mk2 hq
    have HK := Hid.mk2 hk
    have hrl : r.length ≤ 4000 := by simp at hst; omega
    have q0 : ((c : Int) == 0) = false := by simp; omega
    have q1 : ((c : Int) == 1) = false := by simp; omega
    have q2 : ((c : Int) == 2) = false := by simp; omega
    have q3 : ((c : Int) == 3) = false := by simp; omega
    have q13 : ((c : Int) == 13) = false := by simp; omega
    have q14 : ((c : Int) == 14) = true ∨ (((c : Int) == 14) = false ∧ ((c : Int) == 15) = true) := by rcases hk with rfl | rfl <;> simp
    clear hs hj ht hk hq
    rcases q14 with q14 | ⟨q14, q15⟩
    all_goals
      go_enter Tryz.func98, Tryz.ntmps98
      go_wp2_with (go_at_call 135; refine (jumpIf c HK.out a nx q hrl ha0 ha6 hnx HQ.out HM2.out).mono ?_; rintro e w3 ⟨rfl, hb3, hm3⟩; rw [HQ'.out] at hm3)
      go_end0
      exact ⟨rfl, hB2.out.trans hb3, hm3⟩
  · obtain ⟨z, r, rfl⟩ : ∃ z r, st = z :: r := by
      cases st with
      | nil => exfalso; rw [hk] at ht; simp [takesN] at ht
      | cons z r => exact ⟨z, r, rfl⟩
    have hs : stepM x y ⟨ps, c, a, nx⟩ (z :: r) = .inl (1, z) := by rw [hk]; rfl
    rw [hs]
    have hrl : r.length ≤ 4000 := by simp at hst; omega
    have q0 : ((c : Int) == 0) = false := by simp; omega
    have q1 : ((c : Int) == 1) = false := by simp; omega
    have q2 : ((c : Int) == 2) = false := by simp; omega
    have q3 : ((c : Int) == 3) = false := by simp; omega
    have q13 : ((c : Int) == 13) = false := by simp; omega
    have q14 : ((c : Int) == 14) = false := by simp; omega
    have q15 : ((c : Int) == 15) = false := by simp; omega
    have q16 : ((c : Int) == 16) = true := by simp; omega
    clear hs hj ht hk
    go_enter Tryz.func98, Tryz.ntmps98
    go_wp2_with (first | (go_at_call 136; refine (take_any hrl HM2.out).mono ?_; rintro e w3 ⟨rfl, hb3, _, sv3, hm3⟩; have HM3 := Hid.mk2 hm3; clear hm3) | (go_at_call 137; refine (end_any 1 z HM3.out).mono ?_; rintro e w4 ⟨rfl, hb4, hm4⟩))
    go_end0
    exact ⟨rfl, (hB2.out.trans hb3).trans hb4, _, _, _, hm4⟩
  · have hs : stepM x y ⟨ps, c, a, nx⟩ st = .inl (0, 0) := by rw [hk]; rfl
    rw [hs]
    have q0 : ((c : Int) == 0) = false := by simp; omega
    have q1 : ((c : Int) == 1) = false := by simp; omega
    have q2 : ((c : Int) == 2) = false := by simp; omega
    have q3 : ((c : Int) == 3) = false := by simp; omega
    have q13 : ((c : Int) == 13) = false := by simp; omega
    have q14 : ((c : Int) == 14) = false := by simp; omega
    have q15 : ((c : Int) == 15) = false := by simp; omega
    have q16 : ((c : Int) == 16) = false := by simp; omega
    have q17 : ((c : Int) == 17) = true := by simp; omega
    clear hs hj ht hk
    go_enter Tryz.func98, Tryz.ntmps98
    go_wp2_with (go_at_call 137; refine (end_any 0 0 HM2.out).mono ?_; rintro e w4 ⟨rfl, hb4, hm4⟩)
    go_end0
    exact ⟨rfl, hB2.out.trans hb4, _, _, _, hm4⟩
  · obtain ⟨b, z, r, rfl⟩ : ∃ b z r, st = b :: z :: r := by
      have h2 : takesN c = 2 := by unfold takesN; rw [if_neg (by omega), if_neg (by omega)]
      rw [h2] at ht
      match st, ht with
      | b :: z :: r, _ => exact ⟨b, z, r, rfl⟩
    have hs : stepM x y ⟨ps, c, a, nx⟩ (b :: z :: r) = layM (joinN c z b) nx r := by
      unfold stepM
      simp only
      rw [if_neg (by omega), if_neg (by omega), if_neg (by omega), if_neg (by omega), if_neg (by omega), if_neg (by omega), if_neg (by omega), if_neg (by omega), if_neg (by omega)]
      rfl
    rw [hs]
    have HZ : Hid (In64 z) := HI.out z (by simp)
    have HBB : Hid (In64 b) := HI.out b (by simp)
    have hrl : r.length ≤ 3000 := by simp at hst; omega
    have q0 : ((c : Int) == 0) = false := by simp; omega
    have q1 : ((c : Int) == 1) = false := by simp; omega
    have q2 : ((c : Int) == 2) = false := by simp; omega
    have q3 : ((c : Int) == 3) = false := by simp; omega
    have q13 : ((c : Int) == 13) = false := by simp; omega
    have q14 : ((c : Int) == 14) = false := by simp; omega
    have q15 : ((c : Int) == 15) = false := by simp; omega
    have q16 : ((c : Int) == 16) = false := by simp; omega
    have q17 : ((c : Int) == 17) = false := by simp; omega
    clear hs hj ht
    go_enter Tryz.func98, Tryz.ntmps98
    go_wp2_with (go_at_call 138; refine (two_any' c hk HZ.out HBB.out hrl HM2.out).mono ?_; rintro e w3 ⟨rfl, hb3, hm3⟩)
    go_end0
    exact ⟨rfl, hB2.out.trans hb3, hm3⟩
end Go.Proofs.YtjjbmbjmdgoofaaGreatDoor
