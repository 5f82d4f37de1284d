/-
  The document's Run; and that both sides tell the same.
-/
import Derived.Test.YtkbbdfeobcklhaaGreatDoorRunN
import Derived.Test.YtkbbdfeobcklhaaGreatDoorRunO
import Derived.Test.YtkbbdfeobcklhaaGreatDoorVerE
set_option linter.unusedVariables false
set_option linter.unusedSimpArgs false
namespace Go.Proofs.YtkbbdfeobcklhaaGreatDoor
open Go.RowKit

set_option maxHeartbeats 2000000 in
set_option maxRecDepth 100000 in
theorem rRun_any (s : ByteArray) (x : Itm) (y : Bn) (w : World) :
    Calls Tryz.prog 20 #[.string s, itmA x, bnA y] w fun e w' => Below w.heap.size w w' ∧ ∃ r k, OutIs s x y r k ∧ e = .returned (.tuple #[resA r, .int .i64 k]) := by
  have HX := Hid.mk2 (boxed_start w x y)
  unfold itmA bnA
  by_cases hi : IsImg s
  case neg =>
    have HI := Hid.mk2 hi
    clear hi
    obtain ⟨bx, hx⟩ : ∃ b, itmB x = b := ⟨_, rfl⟩
    obtain ⟨bb, hy⟩ : ∃ b, bnB y = b := ⟨_, rfl⟩
    go_enter Tryz.func20, Tryz.ntmps20
    go_wp2_with (first | (go_at_call 18; refine (Sound_any s _).mono ?_; rintro e w1 ⟨hb1, hor⟩; obtain ⟨_, v, rfl⟩ := hor.resolve_left (fun h => HI.out h.1); replace HX := Hid.mk2 (HX.out.below hb1); have i0 := HX.out.it.cell 0; have i1 := HX.out.it.cell 1; have i2 := HX.out.it.cell 2; have b0 := HX.out.bn.cell 0; have b1 := HX.out.bn.cell 1; have b2 := HX.out.bn.cell 2; have b3 := HX.out.bn.cell 3; have b4 := HX.out.bn.cell 4; have r0 := HX.out.rs.cell 0; have r1 := HX.out.rs.cell 1; have r2 := HX.out.rs.cell 2; have f0 := HX.out.rs.free 0; have f1 := HX.out.rs.free 1; have f2 := HX.out.rs.free 2; have hlr := HX.out.rs.lt) | (go_at_call 23; refine (rIsItem_any x _).mono ?_; rintro e w2 ⟨rfl, hb2⟩; rw [hx]; replace HX := Hid.mk2 (HX.out.below hb2); have i0 := HX.out.it.cell 0; have i1 := HX.out.it.cell 1; have i2 := HX.out.it.cell 2; have b0 := HX.out.bn.cell 0; have b1 := HX.out.bn.cell 1; have b2 := HX.out.bn.cell 2; have b3 := HX.out.bn.cell 3; have b4 := HX.out.bn.cell 4; have r0 := HX.out.rs.cell 0; have r1 := HX.out.rs.cell 1; have r2 := HX.out.rs.cell 2; have f0 := HX.out.rs.free 0; have f1 := HX.out.rs.free 1; have f2 := HX.out.rs.free 2; have hlr := HX.out.rs.lt) | (go_at_call 24; refine (rIsBin_any y _).mono ?_; rintro e w3 ⟨rfl, hb3⟩; rw [hy]; replace HX := Hid.mk2 (HX.out.below hb3); have i0 := HX.out.it.cell 0; have i1 := HX.out.it.cell 1; have i2 := HX.out.it.cell 2; have b0 := HX.out.bn.cell 0; have b1 := HX.out.bn.cell 1; have b2 := HX.out.bn.cell 2; have b3 := HX.out.bn.cell 3; have b4 := HX.out.bn.cell 4; have r0 := HX.out.rs.cell 0; have r1 := HX.out.rs.cell 1; have r2 := HX.out.rs.cell 2; have f0 := HX.out.rs.free 0; have f1 := HX.out.rs.free 1; have f2 := HX.out.rs.free 2; have hlr := HX.out.rs.lt))
    have hfb := fin_blk HX.out.rs (.int .i64 0) (.int .i64 0) (.int .i64 0)
    have g0 := hfb.cell 0
    have g1 := hfb.cell 1
    have g2 := hfb.cell 2
    refine bodyPost_ret (v := .tuple #[.agg #[.int .i64 0, .int .i64 0, .int .i64 0], .int .i64 7]) (by simp [results, Tryz.results20, go_sem, g0, g1, g2]) rfl ⟨?_, _, _, .inl ⟨HI.out, rfl, rfl⟩, rfl⟩
    exact fin_below HX.out.bl (by omega) _ _ _
  have HI := Hid.mk2 hi
  obtain ⟨l, G, hc, hl, h3, hs4⟩ := img_run hi
  have HC := Hid.mk2 hc
  have HL := Hid.mk2 hl
  have H3 := Hid.mk2 h3
  have HS := Hid.mk2 hs4
  clear hi hc hl h3 hs4
  cases hx : itmB x
  case false =>
    obtain ⟨bb, hy⟩ : ∃ b, bnB y = b := ⟨_, rfl⟩
    go_enter Tryz.func20, Tryz.ntmps20
    go_wp2_with (first | (go_at_call 18; refine (Sound_any s _).mono ?_; rintro e w1 ⟨hb1, hor⟩; obtain ⟨_, l', v, hch, hl4, rfl, hrd⟩ := hor.resolve_right (fun h => h.1 HI.out); obtain rfl := chain_same HC.out hch; have HRd := Hid.mk2 hrd; have HL4 := Hid.mk2 hl4; clear hrd hch hl4; replace HX := Hid.mk2 (HX.out.below hb1); have i0 := HX.out.it.cell 0; have i1 := HX.out.it.cell 1; have i2 := HX.out.it.cell 2; have b0 := HX.out.bn.cell 0; have b1 := HX.out.bn.cell 1; have b2 := HX.out.bn.cell 2; have b3 := HX.out.bn.cell 3; have b4 := HX.out.bn.cell 4; have r0 := HX.out.rs.cell 0; have r1 := HX.out.rs.cell 1; have r2 := HX.out.rs.cell 2; have f0 := HX.out.rs.free 0; have f1 := HX.out.rs.free 1; have f2 := HX.out.rs.free 2; have hlr := HX.out.rs.lt) | (go_at_call 23; refine (rIsItem_any x _).mono ?_; rintro e w2 ⟨rfl, hb2⟩; rw [hx]; replace HX := Hid.mk2 (HX.out.below hb2); have i0 := HX.out.it.cell 0; have i1 := HX.out.it.cell 1; have i2 := HX.out.it.cell 2; have b0 := HX.out.bn.cell 0; have b1 := HX.out.bn.cell 1; have b2 := HX.out.bn.cell 2; have b3 := HX.out.bn.cell 3; have b4 := HX.out.bn.cell 4; have r0 := HX.out.rs.cell 0; have r1 := HX.out.rs.cell 1; have r2 := HX.out.rs.cell 2; have f0 := HX.out.rs.free 0; have f1 := HX.out.rs.free 1; have f2 := HX.out.rs.free 2; have hlr := HX.out.rs.lt) | (go_at_call 24; refine (rIsBin_any y _).mono ?_; rintro e w3 ⟨rfl, hb3⟩; rw [hy]; replace HX := Hid.mk2 (HX.out.below hb3); have i0 := HX.out.it.cell 0; have i1 := HX.out.it.cell 1; have i2 := HX.out.it.cell 2; have b0 := HX.out.bn.cell 0; have b1 := HX.out.bn.cell 1; have b2 := HX.out.bn.cell 2; have b3 := HX.out.bn.cell 3; have b4 := HX.out.bn.cell 4; have r0 := HX.out.rs.cell 0; have r1 := HX.out.rs.cell 1; have r2 := HX.out.rs.cell 2; have f0 := HX.out.rs.free 0; have f1 := HX.out.rs.free 1; have f2 := HX.out.rs.free 2; have hlr := HX.out.rs.lt))
    have hfb := fin_blk HX.out.rs (.int .i64 0) (.int .i64 0) (.int .i64 0)
    have g0 := hfb.cell 0
    have g1 := hfb.cell 1
    have g2 := hfb.cell 2
    refine bodyPost_ret (v := .tuple #[.agg #[.int .i64 0, .int .i64 0, .int .i64 0], .int .i64 8]) (by simp [results, Tryz.results20, go_sem, g0, g1, g2]) rfl ⟨?_, _, _, .inr (.inl ⟨HI.out, hx, rfl, rfl⟩), rfl⟩
    exact fin_below HX.out.bl (by omega) _ _ _
  cases hy : bnB y
  case false =>
    go_enter Tryz.func20, Tryz.ntmps20
    go_wp2_with (first | (go_at_call 18; refine (Sound_any s _).mono ?_; rintro e w1 ⟨hb1, hor⟩; obtain ⟨_, l', v, hch, hl4, rfl, hrd⟩ := hor.resolve_right (fun h => h.1 HI.out); obtain rfl := chain_same HC.out hch; have HRd := Hid.mk2 hrd; have HL4 := Hid.mk2 hl4; clear hrd hch hl4; replace HX := Hid.mk2 (HX.out.below hb1); have i0 := HX.out.it.cell 0; have i1 := HX.out.it.cell 1; have i2 := HX.out.it.cell 2; have b0 := HX.out.bn.cell 0; have b1 := HX.out.bn.cell 1; have b2 := HX.out.bn.cell 2; have b3 := HX.out.bn.cell 3; have b4 := HX.out.bn.cell 4; have r0 := HX.out.rs.cell 0; have r1 := HX.out.rs.cell 1; have r2 := HX.out.rs.cell 2; have f0 := HX.out.rs.free 0; have f1 := HX.out.rs.free 1; have f2 := HX.out.rs.free 2; have hlr := HX.out.rs.lt) | (go_at_call 23; refine (rIsItem_any x _).mono ?_; rintro e w2 ⟨rfl, hb2⟩; rw [hx]; replace HX := Hid.mk2 (HX.out.below hb2); have i0 := HX.out.it.cell 0; have i1 := HX.out.it.cell 1; have i2 := HX.out.it.cell 2; have b0 := HX.out.bn.cell 0; have b1 := HX.out.bn.cell 1; have b2 := HX.out.bn.cell 2; have b3 := HX.out.bn.cell 3; have b4 := HX.out.bn.cell 4; have r0 := HX.out.rs.cell 0; have r1 := HX.out.rs.cell 1; have r2 := HX.out.rs.cell 2; have f0 := HX.out.rs.free 0; have f1 := HX.out.rs.free 1; have f2 := HX.out.rs.free 2; have hlr := HX.out.rs.lt) | (go_at_call 24; refine (rIsBin_any y _).mono ?_; rintro e w3 ⟨rfl, hb3⟩; rw [hy]; replace HX := Hid.mk2 (HX.out.below hb3); have i0 := HX.out.it.cell 0; have i1 := HX.out.it.cell 1; have i2 := HX.out.it.cell 2; have b0 := HX.out.bn.cell 0; have b1 := HX.out.bn.cell 1; have b2 := HX.out.bn.cell 2; have b3 := HX.out.bn.cell 3; have b4 := HX.out.bn.cell 4; have r0 := HX.out.rs.cell 0; have r1 := HX.out.rs.cell 1; have r2 := HX.out.rs.cell 2; have f0 := HX.out.rs.free 0; have f1 := HX.out.rs.free 1; have f2 := HX.out.rs.free 2; have hlr := HX.out.rs.lt))
    have hfb := fin_blk HX.out.rs (.int .i64 0) (.int .i64 0) (.int .i64 0)
    have g0 := hfb.cell 0
    have g1 := hfb.cell 1
    have g2 := hfb.cell 2
    refine bodyPost_ret (v := .tuple #[.agg #[.int .i64 0, .int .i64 0, .int .i64 0], .int .i64 9]) (by simp [results, Tryz.results20, go_sem, g0, g1, g2]) rfl ⟨?_, _, _, .inr (.inr (.inl ⟨HI.out, hx, hy, rfl, rfl⟩)), rfl⟩
    exact fin_below HX.out.bl (by omega) _ _ _
  case true =>
    obtain ⟨R, hR⟩ : ∃ R, R = runM s x y (s.size + 1) 3 [] 0 := ⟨_, rfl⟩
    have HR : Hid (runM s x y (s.size + 1) 3 [] 0 = R) := hR.symm
    clear hR
    go_enter Tryz.func20, Tryz.ntmps20
    go_wp2_with (first | (go_at_call 18; refine (Sound_any s _).mono ?_; rintro e w1 ⟨hb1, hor⟩; obtain ⟨_, l', v, hch, hl4, rfl, hrd⟩ := hor.resolve_right (fun h => h.1 HI.out); obtain rfl := chain_same HC.out hch; have HRd := Hid.mk2 hrd; have HL4 := Hid.mk2 hl4; clear hrd hch hl4; replace HX := Hid.mk2 (HX.out.below hb1); have i0 := HX.out.it.cell 0; have i1 := HX.out.it.cell 1; have i2 := HX.out.it.cell 2; have b0 := HX.out.bn.cell 0; have b1 := HX.out.bn.cell 1; have b2 := HX.out.bn.cell 2; have b3 := HX.out.bn.cell 3; have b4 := HX.out.bn.cell 4; have r0 := HX.out.rs.cell 0; have r1 := HX.out.rs.cell 1; have r2 := HX.out.rs.cell 2; have f0 := HX.out.rs.free 0; have f1 := HX.out.rs.free 1; have f2 := HX.out.rs.free 2; have hlr := HX.out.rs.lt) | (go_at_call 23; refine (rIsItem_any x _).mono ?_; rintro e w2 ⟨rfl, hb2⟩; rw [hx]; replace HX := Hid.mk2 (HX.out.below hb2); have i0 := HX.out.it.cell 0; have i1 := HX.out.it.cell 1; have i2 := HX.out.it.cell 2; have b0 := HX.out.bn.cell 0; have b1 := HX.out.bn.cell 1; have b2 := HX.out.bn.cell 2; have b3 := HX.out.bn.cell 3; have b4 := HX.out.bn.cell 4; have r0 := HX.out.rs.cell 0; have r1 := HX.out.rs.cell 1; have r2 := HX.out.rs.cell 2; have f0 := HX.out.rs.free 0; have f1 := HX.out.rs.free 1; have f2 := HX.out.rs.free 2; have hlr := HX.out.rs.lt) | (go_at_call 24; refine (rIsBin_any y _).mono ?_; rintro e w3 ⟨rfl, hb3⟩; rw [hy]; replace HX := Hid.mk2 (HX.out.below hb3); have i0 := HX.out.it.cell 0; have i1 := HX.out.it.cell 1; have i2 := HX.out.it.cell 2; have b0 := HX.out.bn.cell 0; have b1 := HX.out.bn.cell 1; have b2 := HX.out.bn.cell 2; have b3 := HX.out.bn.cell 3; have b4 := HX.out.bn.cell 4; have r0 := HX.out.rs.cell 0; have r1 := HX.out.rs.cell 1; have r2 := HX.out.rs.cell 2; have f0 := HX.out.rs.free 0; have f1 := HX.out.rs.free 1; have f2 := HX.out.rs.free 2; have hlr := HX.out.rs.lt) | (go_at_call 25; refine (Machine_any s HS.out l HL4.out (bt s 2) (bt_lt s 2) G HC.out HL.out H3.out x y ⟨(itmB_iff x).1 hx, (bnB_iff y).1 hy⟩ v _ ((HRd.out.below hb2).below hb3)).mono ?_; rintro e w4 ⟨hb4, rfl⟩; rw [HR.out]; unfold resA; replace HX := Hid.mk2 (HX.out.below hb4); have i0 := HX.out.it.cell 0; have i1 := HX.out.it.cell 1; have i2 := HX.out.it.cell 2; have b0 := HX.out.bn.cell 0; have b1 := HX.out.bn.cell 1; have b2 := HX.out.bn.cell 2; have b3 := HX.out.bn.cell 3; have b4 := HX.out.bn.cell 4; have r0 := HX.out.rs.cell 0; have r1 := HX.out.rs.cell 1; have r2 := HX.out.rs.cell 2; have f0 := HX.out.rs.free 0; have f1 := HX.out.rs.free 1; have f2 := HX.out.rs.free 2; have hlr := HX.out.rs.lt))
    have hfb := (fin_blk HX.out.rs (.int .i64 R.1) (.int .i64 R.2.1) (.int .i64 R.2.2)).alloc (.cells #[.int .i64 R.1, .int .i64 R.2.1, .int .i64 R.2.2] 52)
    have g0 := hfb.cell 0
    have g1 := hfb.cell 1
    have g2 := hfb.cell 2
    refine bodyPost_ret (v := .tuple #[.agg #[.int .i64 R.1, .int .i64 R.2.1, .int .i64 R.2.2], .int .i64 0]) (by simp [results, Tryz.results20, go_sem, g0, g1, g2]) rfl ⟨?_, _, _, .inr (.inr (.inr ⟨HI.out, hx, hy, HR.out.symm, rfl⟩)), rfl⟩
    exact (fin_below HX.out.bl (by omega) _ _ _).alloc (by have := HX.out.bl.size; simp; omega) _
set_option maxHeartbeats 1000000 in
theorem sameResult_any (r : Nat × Int × Nat) (w : World) :
    Calls Tryz.prog 21 #[resA r, resA r] w fun e w' => e = .returned (.bool true) ∧ Below w.heap.size w w' := by
  unfold resA
  go_enter Tryz.func21, Tryz.ntmps21
  go_wp2
  go_ret
  exact ⟨rfl, (box3 _ _).trans ((box3 _ _).mono (by simp))⟩
set_option maxHeartbeats 2000000 in
set_option maxRecDepth 100000 in
theorem ran_any (s : ByteArray) (x : Itm) (y : Bn) (w : World) (hg : GlobP w) :
    Calls Tryz.prog 11 #[.string s, itmA x, bnA y] w fun e w' => Below w.heap.size w w' ∧ e = .returned (.bool true) := by
  have HG := Hid.mk2 hg
  have HT : Hid (Blk ((w.alloc (.cells #[.int .i64 x.size, .int .i64 x.speed, .int .i64 x.need] 26)).alloc (.cells #[.int .i64 y.id, .int .i64 y.zone, .int .i64 y.cap, .int .i64 y.used, .int .i64 y.has] 28)) w.heap.size #[.int .i64 x.size, .int .i64 x.speed, .int .i64 x.need] 26) := (Blk.new w _ _).alloc _
  have HN : Hid (Blk ((w.alloc (.cells #[.int .i64 x.size, .int .i64 x.speed, .int .i64 x.need] 26)).alloc (.cells #[.int .i64 y.id, .int .i64 y.zone, .int .i64 y.cap, .int .i64 y.used, .int .i64 y.has] 28)) (w.heap.size + 1) #[.int .i64 y.id, .int .i64 y.zone, .int .i64 y.cap, .int .i64 y.used, .int .i64 y.has] 28) := (by
    have := Blk.new (w.alloc (.cells #[.int .i64 x.size, .int .i64 x.speed, .int .i64 x.need] 26)) #[.int .i64 y.id, .int .i64 y.zone, .int .i64 y.cap, .int .i64 y.used, .int .i64 y.has] 28
    simpa using this : Blk _ _ _ _)
  clear hg
  unfold itmA bnA
  go_enter Tryz.func11, Tryz.ntmps11
  go_wp2_with (first | (go_at_call 19; refine (pRun_any s x y _ (HG.out.below ((box3 _ _).trans ((box3 _ _).mono (by simp))))).mono ?_; rintro e w1 ⟨hb1, r, k, ho, rfl⟩; unfold resA; have HT1 := Hid.mk2 (HT.out.below hb1 HT.out.lt); have HN1 := Hid.mk2 (HN.out.below hb1 HN.out.lt); have hlt1 := HT1.out.lt; have hlt2 := HN1.out.lt; have HQ1 := Hid.mk2 (Blk.new w1 #[.int .i64 r.1, .int .i64 r.2.1, .int .i64 r.2.2] 52); have i0 := ((box3 w1 (.cells #[.int .i64 r.1, .int .i64 r.2.1, .int .i64 r.2.2] 52)).cell (p := ⟨w.heap.size, 0, none⟩) hlt1).trans (HT1.out.cell 0); have i1 := ((box3 w1 (.cells #[.int .i64 r.1, .int .i64 r.2.1, .int .i64 r.2.2] 52)).cell (p := ⟨w.heap.size, 1, none⟩) hlt1).trans (HT1.out.cell 1); have i2 := ((box3 w1 (.cells #[.int .i64 r.1, .int .i64 r.2.1, .int .i64 r.2.2] 52)).cell (p := ⟨w.heap.size, 2, none⟩) hlt1).trans (HT1.out.cell 2); have b0 := ((box3 w1 (.cells #[.int .i64 r.1, .int .i64 r.2.1, .int .i64 r.2.2] 52)).cell (p := ⟨w.heap.size + 1, 0, none⟩) hlt2).trans (HN1.out.cell 0); have b1 := ((box3 w1 (.cells #[.int .i64 r.1, .int .i64 r.2.1, .int .i64 r.2.2] 52)).cell (p := ⟨w.heap.size + 1, 1, none⟩) hlt2).trans (HN1.out.cell 1); have b2 := ((box3 w1 (.cells #[.int .i64 r.1, .int .i64 r.2.1, .int .i64 r.2.2] 52)).cell (p := ⟨w.heap.size + 1, 2, none⟩) hlt2).trans (HN1.out.cell 2); have b3 := ((box3 w1 (.cells #[.int .i64 r.1, .int .i64 r.2.1, .int .i64 r.2.2] 52)).cell (p := ⟨w.heap.size + 1, 3, none⟩) hlt2).trans (HN1.out.cell 3); have b4 := ((box3 w1 (.cells #[.int .i64 r.1, .int .i64 r.2.1, .int .i64 r.2.2] 52)).cell (p := ⟨w.heap.size + 1, 4, none⟩) hlt2).trans (HN1.out.cell 4)) | (go_at_call 20; refine (rRun_any s x y _).mono ?_; rintro e w2 ⟨hb2, r', k', ho', rfl⟩; obtain ⟨rfl, rfl⟩ := ho.same ho'; unfold resA; have HQ := Hid.mk2 (HQ1.out.below hb2 HQ1.out.lt); have q0 := (HQ.out.alloc (.cells #[.int .i64 r.1, .int .i64 r.2.1, .int .i64 r.2.2] 52)).cell 0; have q1 := (HQ.out.alloc (.cells #[.int .i64 r.1, .int .i64 r.2.1, .int .i64 r.2.2] 52)).cell 1; have q2 := (HQ.out.alloc (.cells #[.int .i64 r.1, .int .i64 r.2.1, .int .i64 r.2.2] 52)).cell 2) | (go_at_call 21; refine (sameResult_any r _).mono ?_; rintro e w3 ⟨rfl, hb3⟩))
  go_ret
  exact ⟨((((box3 w _).trans ((box3 _ _).mono (by simp))).trans (hb1.mono (by simp; omega))).trans (((box3 w1 _).trans (hb2.mono (by simp))).mono (by have := hb1.size; simp at this; omega))).trans (((box3 w2 _).trans (hb3.mono (by simp))).mono (by have := hb1.size; have h2 := hb2.size; simp at this h2; omega)), ret_bool (by simp)⟩
end Go.Proofs.YtkbbdfeobcklhaaGreatDoor
