/-
  Run, by the program and by the document: the same result and error.
-/
import Derived.Test.YtkbbdfeobcklhaaGreatDoorRunM
import Derived.Test.YtkbbdfeobcklhaaGreatDoorVerU
set_option linter.unusedVariables false
set_option linter.unusedSimpArgs false
namespace Go.Proofs.YtkbbdfeobcklhaaGreatDoor
open Go.RowKit

/-- What Run tells. -/
def OutIs (s : ByteArray) (x : Itm) (y : Bn) (r : Nat × Int × Nat) (k : Int) : Prop :=
  (¬ IsImg s ∧ r = (0, 0, 0) ∧ k = 7) ∨ (IsImg s ∧ itmB x = false ∧ r = (0, 0, 0) ∧ k = 8) ∨ (IsImg s ∧ itmB x = true ∧ bnB y = false ∧ r = (0, 0, 0) ∧ k = 9) ∨ (IsImg s ∧ itmB x = true ∧ bnB y = true ∧ r = runM s x y (s.size + 1) 3 [] 0 ∧ k = 0)
theorem OutIs.same {s : ByteArray} {x : Itm} {y : Bn} {r r' : Nat × Int × Nat} {k k' : Int} (h : OutIs s x y r k) (h' : OutIs s x y r' k') : r = r' ∧ k = k' := by
  rcases h with ⟨a, b, c⟩ | ⟨a, b, c, d⟩ | ⟨a, b, c, d, e⟩ | ⟨a, b, c, d, e⟩ <;> rcases h' with ⟨a', b', c'⟩ | ⟨a', b', c', d'⟩ | ⟨a', b', c', d', e'⟩ | ⟨a', b', c', d', e'⟩ <;> first | exact absurd a' a | exact absurd a a' | (simp_all; done)
/-- An item, a bin and a result that a call has boxed. -/
structure Boxed (w wx : World) (x : Itm) (y : Bn) : Prop where
  it : Blk wx w.heap.size #[.int .i64 x.size, .int .i64 x.speed, .int .i64 x.need] 26
  bn : Blk wx (w.heap.size + 1) #[.int .i64 y.id, .int .i64 y.zone, .int .i64 y.cap, .int .i64 y.used, .int .i64 y.has] 28
  rs : Blk wx (w.heap.size + 1 + 1) #[.int .i64 0, .int .i64 0, .int .i64 0] 52
  bl : Below w.heap.size w wx
theorem Boxed.below {w wx w' : World} {x : Itm} {y : Bn} (h : Boxed w wx x y) (hb : Below wx.heap.size wx w') : Boxed w w' x y :=
  ⟨h.it.below hb h.it.lt, h.bn.below hb h.bn.lt, h.rs.below hb h.rs.lt, h.bl.trans (hb.mono h.bl.size)⟩
theorem boxed_start (w : World) (x : Itm) (y : Bn) : Boxed w (((w.alloc (.cells #[.int .i64 x.size, .int .i64 x.speed, .int .i64 x.need] 26)).alloc (.cells #[.int .i64 y.id, .int .i64 y.zone, .int .i64 y.cap, .int .i64 y.used, .int .i64 y.has] 28)).alloc (.cells #[.int .i64 0, .int .i64 0, .int .i64 0] 52)) x y := by
  refine ⟨((Blk.new w _ _).alloc _).alloc _, ?_, ?_, (((Below.refl _ _).alloc (Nat.le_refl _) _).alloc (by simp) _).alloc (by simp; omega) _⟩
  · have := (Blk.new (w.alloc (.cells #[.int .i64 x.size, .int .i64 x.speed, .int .i64 x.need] 26)) #[.int .i64 y.id, .int .i64 y.zone, .int .i64 y.cap, .int .i64 y.used, .int .i64 y.has] 28).alloc (.cells #[.int .i64 0, .int .i64 0, .int .i64 0] 52)
    simpa using this
  · have := Blk.new ((w.alloc (.cells #[.int .i64 x.size, .int .i64 x.speed, .int .i64 x.need] 26)).alloc (.cells #[.int .i64 y.id, .int .i64 y.zone, .int .i64 y.cap, .int .i64 y.used, .int .i64 y.has] 28)) #[.int .i64 0, .int .i64 0, .int .i64 0] 52
    simpa using this
theorem img_run {s : ByteArray} (h : IsImg s) : ∃ l G, Chain s 3 l s.size ∧ Lawful l (bt s 2) G ∧ 3 < s.size ∧ s.size ≤ 4000 := by
  obtain ⟨hh, l, hc, G, hl⟩ := h
  exact ⟨l, G, hc, hl, hh.1, hh.2.1⟩
set_option maxHeartbeats 2000000 in
set_option maxRecDepth 100000 in
theorem pRun_any (s : ByteArray) (x : Itm) (y : Bn) (w : World) (hg : GlobP w) :
    Calls Tryz.prog 19 #[.string s, itmA x, bnA y] w fun e w' => Below w.heap.size w w' ∧ ∃ r k, OutIs s x y r k ∧ e = .returned (.tuple #[resA r, .int .i64 k]) := by
  have HG := Hid.mk2 hg
  have HX := Hid.mk2 (boxed_start w x y)
  clear hg
  unfold itmA bnA
  by_cases hi : IsImg s
  case neg =>
    have HI := Hid.mk2 hi
    clear hi
    go_enter Tryz.func19, Tryz.ntmps19
    go_wp2_with (go_at_call 38; refine (IsImage_any s _ (HG.out.below HX.out.bl)).mono ?_; rintro e w1 ⟨hb1, hor⟩; obtain ⟨_, rfl⟩ := hor.resolve_left (fun h => HI.out h.1); replace HX := Hid.mk2 (HX.out.below hb1); have r0 := HX.out.rs.cell 0; have r1 := HX.out.rs.cell 1; have r2 := HX.out.rs.cell 2; have f0 := HX.out.rs.free 0; have f1 := HX.out.rs.free 1; have f2 := HX.out.rs.free 2)
    have hfb := fin_blk HX.out.rs (.int .i64 0) (.int .i64 0) (.int .i64 0)
    have g0 := hfb.cell 0
    have g1 := hfb.cell 1
    have g2 := hfb.cell 2
    refine bodyPost_ret (v := .tuple #[.agg #[.int .i64 0, .int .i64 0, .int .i64 0], .int .i64 7]) (by simp [results, Tryz.results19, go_sem, g0, g1, g2]) rfl ⟨?_, _, _, .inl ⟨HI.out, rfl, rfl⟩, rfl⟩
    exact fin_below HX.out.bl (by omega) _ _ _
  have HI := Hid.mk2 hi
  obtain ⟨l, G, hc, hl, h3, hs4⟩ := img_run hi
  have HC := Hid.mk2 hc
  have HL := Hid.mk2 hl
  have H3 := Hid.mk2 h3
  have HS := Hid.mk2 hs4
  clear hi hc hl h3 hs4
  cases hx : itmB x
  case false =>
    go_enter Tryz.func19, Tryz.ntmps19
    go_wp2_with (first | (go_at_call 38; refine (IsImage_any s _ (HG.out.below HX.out.bl)).mono ?_; rintro e w1 ⟨hb1, hor⟩; obtain ⟨_, rfl⟩ := hor.resolve_right (fun h => h.1 HI.out); replace HX := Hid.mk2 (HX.out.below hb1); have i0 := HX.out.it.cell 0; have i1 := HX.out.it.cell 1; have i2 := HX.out.it.cell 2; have b0 := HX.out.bn.cell 0; have b1 := HX.out.bn.cell 1; have b2 := HX.out.bn.cell 2; have b3 := HX.out.bn.cell 3; have b4 := HX.out.bn.cell 4; have r0 := HX.out.rs.cell 0; have r1 := HX.out.rs.cell 1; have r2 := HX.out.rs.cell 2; have f0 := HX.out.rs.free 0; have f1 := HX.out.rs.free 1; have f2 := HX.out.rs.free 2) | (go_at_call 41; refine (pIsItem_any x _).mono ?_; rintro e w2 ⟨rfl, hb2⟩; rw [hx]; replace HX := Hid.mk2 (HX.out.below hb2); have i0 := HX.out.it.cell 0; have i1 := HX.out.it.cell 1; have i2 := HX.out.it.cell 2; have b0 := HX.out.bn.cell 0; have b1 := HX.out.bn.cell 1; have b2 := HX.out.bn.cell 2; have b3 := HX.out.bn.cell 3; have b4 := HX.out.bn.cell 4; have r0 := HX.out.rs.cell 0; have r1 := HX.out.rs.cell 1; have r2 := HX.out.rs.cell 2; have f0 := HX.out.rs.free 0; have f1 := HX.out.rs.free 1; have f2 := HX.out.rs.free 2))
    have hfb := fin_blk HX.out.rs (.int .i64 0) (.int .i64 0) (.int .i64 0)
    have g0 := hfb.cell 0
    have g1 := hfb.cell 1
    have g2 := hfb.cell 2
    refine bodyPost_ret (v := .tuple #[.agg #[.int .i64 0, .int .i64 0, .int .i64 0], .int .i64 8]) (by simp [results, Tryz.results19, go_sem, g0, g1, g2]) rfl ⟨?_, _, _, .inr (.inl ⟨HI.out, hx, rfl, rfl⟩), rfl⟩
    exact fin_below HX.out.bl (by omega) _ _ _
  cases hy : bnB y
  case false =>
    go_enter Tryz.func19, Tryz.ntmps19
    go_wp2_with (first | (go_at_call 38; refine (IsImage_any s _ (HG.out.below HX.out.bl)).mono ?_; rintro e w1 ⟨hb1, hor⟩; obtain ⟨_, rfl⟩ := hor.resolve_right (fun h => h.1 HI.out); replace HX := Hid.mk2 (HX.out.below hb1); have i0 := HX.out.it.cell 0; have i1 := HX.out.it.cell 1; have i2 := HX.out.it.cell 2; have b0 := HX.out.bn.cell 0; have b1 := HX.out.bn.cell 1; have b2 := HX.out.bn.cell 2; have b3 := HX.out.bn.cell 3; have b4 := HX.out.bn.cell 4; have r0 := HX.out.rs.cell 0; have r1 := HX.out.rs.cell 1; have r2 := HX.out.rs.cell 2; have f0 := HX.out.rs.free 0; have f1 := HX.out.rs.free 1; have f2 := HX.out.rs.free 2) | (go_at_call 41; refine (pIsItem_any x _).mono ?_; rintro e w2 ⟨rfl, hb2⟩; rw [hx]; replace HX := Hid.mk2 (HX.out.below hb2); have i0 := HX.out.it.cell 0; have i1 := HX.out.it.cell 1; have i2 := HX.out.it.cell 2; have b0 := HX.out.bn.cell 0; have b1 := HX.out.bn.cell 1; have b2 := HX.out.bn.cell 2; have b3 := HX.out.bn.cell 3; have b4 := HX.out.bn.cell 4; have r0 := HX.out.rs.cell 0; have r1 := HX.out.rs.cell 1; have r2 := HX.out.rs.cell 2; have f0 := HX.out.rs.free 0; have f1 := HX.out.rs.free 1; have f2 := HX.out.rs.free 2) | (go_at_call 42; refine (pIsBin_any y _).mono ?_; rintro e w3 ⟨rfl, hb3⟩; rw [hy]; replace HX := Hid.mk2 (HX.out.below hb3); have i0 := HX.out.it.cell 0; have i1 := HX.out.it.cell 1; have i2 := HX.out.it.cell 2; have b0 := HX.out.bn.cell 0; have b1 := HX.out.bn.cell 1; have b2 := HX.out.bn.cell 2; have b3 := HX.out.bn.cell 3; have b4 := HX.out.bn.cell 4; have r0 := HX.out.rs.cell 0; have r1 := HX.out.rs.cell 1; have r2 := HX.out.rs.cell 2; have f0 := HX.out.rs.free 0; have f1 := HX.out.rs.free 1; have f2 := HX.out.rs.free 2))
    have hfb := fin_blk HX.out.rs (.int .i64 0) (.int .i64 0) (.int .i64 0)
    have g0 := hfb.cell 0
    have g1 := hfb.cell 1
    have g2 := hfb.cell 2
    refine bodyPost_ret (v := .tuple #[.agg #[.int .i64 0, .int .i64 0, .int .i64 0], .int .i64 9]) (by simp [results, Tryz.results19, go_sem, g0, g1, g2]) rfl ⟨?_, _, _, .inr (.inr (.inl ⟨HI.out, hx, hy, rfl, rfl⟩)), rfl⟩
    exact fin_below HX.out.bl (by omega) _ _ _
  case true =>
    obtain ⟨R, hR⟩ : ∃ R, R = runM s x y (s.size + 1) 3 [] 0 := ⟨_, rfl⟩
    have HR : Hid (runM s x y (s.size + 1) 3 [] 0 = R) := hR.symm
    clear hR
    go_enter Tryz.func19, Tryz.ntmps19
    go_wp2_with (first | (go_at_call 38; refine (IsImage_any s _ (HG.out.below HX.out.bl)).mono ?_; rintro e w1 ⟨hb1, hor⟩; obtain ⟨_, rfl⟩ := hor.resolve_right (fun h => h.1 HI.out); replace HX := Hid.mk2 (HX.out.below hb1); have i0 := HX.out.it.cell 0; have i1 := HX.out.it.cell 1; have i2 := HX.out.it.cell 2; have b0 := HX.out.bn.cell 0; have b1 := HX.out.bn.cell 1; have b2 := HX.out.bn.cell 2; have b3 := HX.out.bn.cell 3; have b4 := HX.out.bn.cell 4; have r0 := HX.out.rs.cell 0; have r1 := HX.out.rs.cell 1; have r2 := HX.out.rs.cell 2; have f0 := HX.out.rs.free 0; have f1 := HX.out.rs.free 1; have f2 := HX.out.rs.free 2) | (go_at_call 41; refine (pIsItem_any x _).mono ?_; rintro e w2 ⟨rfl, hb2⟩; rw [hx]; replace HX := Hid.mk2 (HX.out.below hb2); have i0 := HX.out.it.cell 0; have i1 := HX.out.it.cell 1; have i2 := HX.out.it.cell 2; have b0 := HX.out.bn.cell 0; have b1 := HX.out.bn.cell 1; have b2 := HX.out.bn.cell 2; have b3 := HX.out.bn.cell 3; have b4 := HX.out.bn.cell 4; have r0 := HX.out.rs.cell 0; have r1 := HX.out.rs.cell 1; have r2 := HX.out.rs.cell 2; have f0 := HX.out.rs.free 0; have f1 := HX.out.rs.free 1; have f2 := HX.out.rs.free 2) | (go_at_call 42; refine (pIsBin_any y _).mono ?_; rintro e w3 ⟨rfl, hb3⟩; rw [hy]; replace HX := Hid.mk2 (HX.out.below hb3); have i0 := HX.out.it.cell 0; have i1 := HX.out.it.cell 1; have i2 := HX.out.it.cell 2; have b0 := HX.out.bn.cell 0; have b1 := HX.out.bn.cell 1; have b2 := HX.out.bn.cell 2; have b3 := HX.out.bn.cell 3; have b4 := HX.out.bn.cell 4; have r0 := HX.out.rs.cell 0; have r1 := HX.out.rs.cell 1; have r2 := HX.out.rs.cell 2; have f0 := HX.out.rs.free 0; have f1 := HX.out.rs.free 1; have f2 := HX.out.rs.free 2) | (go_at_call 43; refine (machineRun_any s HS.out l (bt s 2) (bt_lt s 2) G HC.out HL.out H3.out x y ⟨(itmB_iff x).1 hx, (bnB_iff y).1 hy⟩ _ (HG.out.below HX.out.bl)).mono ?_; rintro e w4 ⟨hb4, rfl⟩; rw [HR.out]; unfold resA; replace HX := Hid.mk2 (HX.out.below hb4); have i0 := HX.out.it.cell 0; have i1 := HX.out.it.cell 1; have i2 := HX.out.it.cell 2; have b0 := HX.out.bn.cell 0; have b1 := HX.out.bn.cell 1; have b2 := HX.out.bn.cell 2; have b3 := HX.out.bn.cell 3; have b4 := HX.out.bn.cell 4; have r0 := HX.out.rs.cell 0; have r1 := HX.out.rs.cell 1; have r2 := HX.out.rs.cell 2; have f0 := HX.out.rs.free 0; have f1 := HX.out.rs.free 1; have f2 := HX.out.rs.free 2))
    have hfb := fin_blk HX.out.rs (.int .i64 R.1) (.int .i64 R.2.1) (.int .i64 R.2.2)
    have g0 := hfb.cell 0
    have g1 := hfb.cell 1
    have g2 := hfb.cell 2
    refine bodyPost_ret (v := .tuple #[.agg #[.int .i64 R.1, .int .i64 R.2.1, .int .i64 R.2.2], .int .i64 0]) (by simp [results, Tryz.results19, go_sem, g0, g1, g2]) rfl ⟨?_, _, _, .inr (.inr (.inr ⟨HI.out, hx, hy, HR.out.symm, rfl⟩)), rfl⟩
    exact fin_below HX.out.bl (by omega) _ _ _
end Go.Proofs.YtkbbdfeobcklhaaGreatDoor
