/-
  Images of known making: a leaf.
-/
import Derived.Test.YtbdjcffmpbjjlaaDoorKeepI
set_option linter.unusedVariables false
set_option linter.unusedSimpArgs false
namespace Go.Proofs.YtbdjcffmpbjjlaaDoor
open Go.RowKit

theorem bytesN_small : ∀ (n u : Nat), ∀ c ∈ bytesN u n, c < 256
  | 0, u, c, h => by simp [bytesN] at h
  | n + 1, u, c, h => by
    simp only [bytesN, List.mem_cons] at h
    rcases h with h | h
    · omega
    · exact bytesN_small n _ c h
theorem leafI_small (v : Int) : ∀ c ∈ (leafI v).code, c < 256 := by
  intro c h
  simp only [leafI, eightC, List.mem_cons] at h
  rcases h with h | h
  · omega
  · exact bytesN_small _ _ c h
set_option maxHeartbeats 4000000 in
set_option maxRecDepth 100000 in
theorem leaf_any (x : Itm) (y : Bn) (hx : x.Ok) (hy : y.Ok) (fb : Nat) (w : World) (h : FeedAt w fb) :
    Calls Tryd.prog 12 #[.pointer (some ⟨fb, 0, none⟩), itmA x, bnA y] w fun e w' => (∃ q : PB, q.Fit x y 9 1 ∧ e = .returned (blkV q)) ∧ FeedAt w' fb ∧ But fb w w' := by
  have HQ := Hid.mk2 (quad_start w fb x y h)
  have HX := Hid.mk2 hx
  have HY := Hid.mk2 hy
  clear h hx hy
  unfold itmA bnA
  have z0 : (bsN [0]).size = 1 := by rw [bsN_size]; rfl
  go_enter Tryd.func12, Tryd.ntmps12
  go_wp2_with (first | (go_at_call 13; refine (next_any _ (by omega) fb _ HQ.out.fed).mono ?_; rintro e w1 ⟨⟨k, hk0, hk1, rfl⟩, hF, hB⟩; replace HQ := Hid.mk2 (HQ.out.but hB hF); clear hF hB; have i0 := HQ.out.it.cell 0; have i1 := HQ.out.it.cell 1; have i2 := HQ.out.it.cell 2; have b1 := HQ.out.bn.cell 1; have b2 := HQ.out.bn.cell 2; have b3 := HQ.out.bn.cell 3; have b4 := HQ.out.bn.cell 4) | (go_at_call 21; refine (numberOf_any fb _ (HQ.out.below (box3 _ _)).fed).mono ?_; rintro e w2 ⟨⟨v, hv, rfl⟩, hF, hB⟩; replace HQ := Hid.mk2 ((HQ.out.below (box3 _ _)).but hB hF); clear hF hB; have HV := Hid.mk2 hv) | (go_at_call 6; refine (op_any 0 (by omega) _).mono ?_; rintro e w3 ⟨rfl, hb3⟩; replace HQ := Hid.mk2 (HQ.out.below hb3); clear hb3) | (go_at_call 22; refine (eight_any _ HV.out _).mono ?_; rintro e w4 ⟨rfl, hb4⟩; replace HQ := Hid.mk2 (HQ.out.below hb4); clear hb4; have r0 := HQ.out.rs.cell 0; have r1 := HQ.out.rs.cell 1; have r2 := HQ.out.rs.cell 2; have r3 := HQ.out.rs.cell 3; have r4 := HQ.out.rs.cell 4; have f0 := HQ.out.rs.free 0; have f1 := HQ.out.rs.free 1; have f2 := HQ.out.rs.free 2; have f3 := HQ.out.rs.free 3; have f4 := HQ.out.rs.free 4))
  · obtain ⟨kn, rfl⟩ : ∃ kn : Nat, k = kn := ⟨k.toNat, by omega⟩
    have hk7 : kn < 7 := by omega
    have hne : w.heap.size + 1 + 1 < w1.heap.size := HQ.out.rs.lt
    have z1 : (bsN [1]).size = 1 := by rw [bsN_size]; rfl
    have z2 : (bsN [kn]).size = 1 := by rw [bsN_size]; rfl
    have zz : (9223372036854775807 < (bsN [1]).size + (bsN [kn]).size) = False := by rw [z1, z2]; simp
    clear z0 z1 z2
    have hL := Blk.new w1 #[.int .i64 x.size, .int .i64 x.speed, .int .i64 x.need, .int .i64 y.zone, .int .i64 y.cap, .int .i64 y.used, .int .i64 y.has] 3
    replace HQ := Hid.mk2 (HQ.out.below (box3 _ (.cells #[.int .i64 x.size, .int .i64 x.speed, .int .i64 x.need, .int .i64 y.zone, .int .i64 y.cap, .int .i64 y.used, .int .i64 y.has] 3)))
    have HL := Hid.mk2 hL
    have c0 := (hL.cell kn).trans (seven_cell x y kn hk7)
    clear hL i0 i1 i2 b1 b2 b3 b4
    go_region_held3 (fun w' => w'.cell? ⟨w1.heap.size, kn, none⟩ = some (.int .i64 (attrN kn x y))) (first | go_keep | exact ((((((HL.out.other _ _ (by simp only; omega)).other _ _ (by simp only; omega)).other _ _ (by simp only; omega)).other _ _ (by simp only; omega)).other _ _ (by simp only; omega)).cell kn).trans (seven_cell x y kn hk7)) (first | (go_at_call 6; refine (op_any 1 (by omega) _).mono ?_; rintro e w3 ⟨rfl, hb3⟩; replace HQ := Hid.mk2 (HQ.out.drew.below hb3); replace HL := Hid.mk2 (HL.out.drew.below hb3 HL.out.lt); clear hb3; have c1 := (HL.out.cell kn).trans (seven_cell x y kn hk7); have r0 := HQ.out.rs.cell 0; have r1 := HQ.out.rs.cell 1; have r2 := HQ.out.rs.cell 2; have r3 := HQ.out.rs.cell 3; have r4 := HQ.out.rs.cell 4; have f0 := HQ.out.rs.free 0; have f1 := HQ.out.rs.free 1; have f2 := HQ.out.rs.free 2; have f3 := HQ.out.rs.free 3; have f4 := HQ.out.rs.free 4) | (go_at_call 6; refine (op_any kn (by omega) _).mono ?_; rintro e w3 ⟨rfl, hb3⟩; replace HQ := Hid.mk2 (HQ.out.below hb3); replace HL := Hid.mk2 (HL.out.below hb3 HL.out.lt); clear hb3; have c1 := (HL.out.cell kn).trans (seven_cell x y kn hk7); have r0 := HQ.out.rs.cell 0; have r1 := HQ.out.rs.cell 1; have r2 := HQ.out.rs.cell 2; have r3 := HQ.out.rs.cell 3; have r4 := HQ.out.rs.cell 4; have f0 := HQ.out.rs.free 0; have f1 := HQ.out.rs.free 1; have f2 := HQ.out.rs.free 2; have f3 := HQ.out.rs.free 3; have f4 := HQ.out.rs.free 4))
    obtain ⟨hfb, hfd, hbl⟩ := HQ.out.fin (.string (bsN [1] ++ bsN [kn])) (.int .i64 (attrN kn x y)) (.int .i64 0) (.int .i64 1) (.int .i64 1)
    have g0 := hfb.cell 0
    have g1 := hfb.cell 1
    have g2 := hfb.cell 2
    have g3 := hfb.cell 3
    have g4 := hfb.cell 4
    unfold finQ at g0 g1 g2 g3 g4 hbl hfd
    clear r0 r1 r2 r3 r4 f0 f1 f2 f3 f4
    go_wp2
    refine bodyPost_ret (v := .agg #[.string (bsN [1] ++ bsN [kn]), .int .i64 (attrN kn x y), .int .i64 0, .int .i64 1, .int .i64 1]) (by simp [results, Tryd.results12, go_sem, g0, g1, g2, g3, g4]) rfl ⟨⟨leafA kn x y, ⟨leafA_ok HX.out HY.out hk7, by simp [leafA], by simp [leafA], by simp [leafA], by simp [leafA], by simp [leafA]; omega⟩, by rw [bsN_append]; rfl⟩, hfd, hbl⟩
  · obtain ⟨hfb, hfd, hbl⟩ := HQ.out.fin (.string (bsN [0] ++ bsN (eightC v))) (.int .i64 v) (.int .i64 0) (.int .i64 1) (.int .i64 1)
    have g0 := hfb.cell 0
    have g1 := hfb.cell 1
    have g2 := hfb.cell 2
    have g3 := hfb.cell 3
    have g4 := hfb.cell 4
    unfold finQ at g0 g1 g2 g3 g4 hbl hfd
    refine bodyPost_ret (v := .agg #[.string (bsN [0] ++ bsN (eightC v)), .int .i64 v, .int .i64 0, .int .i64 1, .int .i64 1]) (by simp [results, Tryd.results12, go_sem, g0, g1, g2, g3, g4]) rfl ⟨⟨leafI v, ⟨leafI_ok HV.out, by simp [leafI, eightC, bytesN_length], by simp [leafI], by simp [leafI], by simp [leafI], leafI_small v⟩, by rw [bsN_append]; rfl⟩, hfd, hbl⟩
end Go.Proofs.YtbdjcffmpbjjlaaDoor
