/-
  Images of known making: an operation of one number.
-/
import Derived.Test.YtbdjcffmpbjjlaaDoorKeepD
import Derived.Deep.RegionHeld3
set_option linter.unusedVariables false
set_option linter.unusedSimpArgs false
namespace Go.Proofs.YtbdjcffmpbjjlaaDoor
open Go.RowKit

/-- A block as the program holds it. -/
def blkV (b : PB) : Value := .agg #[.string (bsN b.code), .int .i64 b.v, .int .i64 b.flt, .int .i64 b.steps, .int .i64 b.high]
/-- A block of known making, not longer than L, not higher than H. -/
structure PB.Fit (x : Itm) (y : Bn) (b : PB) (L H : Nat) : Prop where
  ok : b.Ok x y
  len : b.code.length ≤ L
  len1 : 1 ≤ b.code.length
  steps : b.steps ≤ L
  high : b.high ≤ H
  small : ∀ c ∈ b.code, c < 256
theorem PB.Ok.other {x : Itm} {y : Bn} {b : PB} (h : b.Ok x y) (hf : b.flt ≠ 0) (v : Int) (hv : In64 v) : ({ b with v := v } : PB).Ok x y :=
  ⟨fun s p hs => (h.does s p hs).fault hf, fun s p e hs hh => h.seg s p e hs hh, hv, h.le2, h.pos⟩
/-- Three blocks of the call's own: what came, what goes out, what is written. -/
structure Trio (w wx : World) (c1 c2 c3 : Array Value) : Prop where
  box : Blk wx w.heap.size c1 29
  res : Blk wx (w.heap.size + 1) c2 29
  rr : Blk wx (w.heap.size + 1 + 1) c3 29
  bl : Below w.heap.size w wx
theorem Trio.below {w wx w' : World} {c1 c2 c3 : Array Value} (h : Trio w wx c1 c2 c3) (hb : Below wx.heap.size wx w') : Trio w w' c1 c2 c3 :=
  ⟨h.box.below hb h.box.lt, h.res.below hb h.res.lt, h.rr.below hb h.rr.lt, h.bl.trans (hb.mono h.bl.size)⟩
theorem Trio.drew {w wx : World} {c1 c2 c3 : Array Value} (h : Trio w wx c1 c2 c3) : Trio w wx.drew c1 c2 c3 := ⟨h.box, h.res, h.rr, below_drewN h.bl 1⟩
theorem Trio.setR {w wx : World} {c1 c2 c3 : Array Value} (h : Trio w wx c1 c2 c3) (i : Nat) (v : Value) : Trio w (wx.setCell ⟨w.heap.size + 1 + 1, i, none⟩ v) c1 c2 (c3.setIfInBounds i v) :=
  ⟨h.box.other _ _ (by simp only; omega), h.res.other _ _ (by simp only; omega), h.rr.set i v, h.bl.setCell (p := ⟨w.heap.size + 1 + 1, i, none⟩) (by simp only; omega) v⟩
theorem Trio.setO {w wx : World} {c1 c2 c3 : Array Value} (h : Trio w wx c1 c2 c3) (i : Nat) (v : Value) : Trio w (wx.setCell ⟨w.heap.size + 1, i, none⟩ v) c1 (c2.setIfInBounds i v) c3 :=
  ⟨h.box.other _ _ (by simp only; omega), h.res.set i v, h.rr.other _ _ (by simp only; omega), h.bl.setCell (p := ⟨w.heap.size + 1, i, none⟩) (by simp only; omega) v⟩
theorem trio_start (w : World) (c1 c2 c3 : Array Value) : Trio w (((w.alloc (.cells c1 29)).alloc (.cells c2 29)).alloc (.cells c3 29)) c1 c2 c3 := by
  refine ⟨((Blk.new w _ _).alloc _).alloc _, ?_, ?_, (((Below.refl _ _).alloc (Nat.le_refl _) _).alloc (by simp) _).alloc (by simp; omega) _⟩
  · have := (Blk.new (w.alloc (.cells c1 29)) c2 29).alloc (.cells c3 29)
    simpa using this
  · have := Blk.new ((w.alloc (.cells c1 29)).alloc (.cells c2 29)) c3 29
    simpa using this
/-- The end: the five cells of what goes out. -/
def finW (w wx : World) (a b c d e : Value) : World :=
  ((((wx.setCell ⟨w.heap.size + 1, 0, none⟩ a).setCell ⟨w.heap.size + 1, 1, none⟩ b).setCell ⟨w.heap.size + 1, 2, none⟩ c).setCell ⟨w.heap.size + 1, 3, none⟩ d).setCell ⟨w.heap.size + 1, 4, none⟩ e
theorem Trio.fin {w wx : World} {c1 c3 : Array Value} {z0 z1 z2 z3 z4 : Value} (h : Trio w wx c1 #[z0, z1, z2, z3, z4] c3) (a b c d e : Value) : Blk (finW w wx a b c d e) (w.heap.size + 1) #[a, b, c, d, e] 29 ∧ Below w.heap.size w (finW w wx a b c d e) := by
  have g := ((((h.setO 0 a).setO 1 b).setO 2 c).setO 3 d).setO 4 e
  exact ⟨g.res, g.bl⟩
theorem one_fit {x : Itm} {y : Bn} {b q : PB} {L H n : Nat} (hb : b.Fit x y L H) (hq : q.Ok x y) (hc : q.code = b.code ++ [n]) (hs : q.steps ≤ b.steps + 1) (hh : q.high = b.high) (hn : n < 256 := by omega) : q.Fit x y (L + 1) H := by
  have h1 := hb.len
  have h2 := hb.steps
  have h3 := hb.high
  refine ⟨hq, by rw [hc]; simp; omega, by rw [hc]; simp, by omega, by omega, fun c hm => ?_⟩
  rw [hc] at hm
  rcases List.mem_append.1 hm with h | h
  · exact hb.small c h
  · simp at h; omega
set_option maxHeartbeats 2000000 in
set_option maxRecDepth 100000 in
theorem one_any (x : Itm) (y : Bn) (b : PB) (L H n : Nat) (hb : b.Fit x y L H) (hL : L ≤ 4000) (hn : n = 2 ∨ n = 3) (w : World) :
    Calls Tryd.prog 14 #[.int .i64 n, blkV b] w fun e w' => Below w.heap.size w w' ∧ ∃ q : PB, q.Fit x y (L + 1) H ∧ e = .returned (blkV q) := by
  have HB := Hid.mk2 hb
  have h1 := hb.len
  have h2 := hb.steps
  have h3 := hb.high
  have hv := hb.ok.num
  have h4 := hb.ok.le2
  clear hb
  obtain ⟨code, v, flt, steps, high⟩ := b
  unfold blkV
  simp only at h1 h2 h3 h4 hv ⊢
  obtain ⟨cs, hcs⟩ : ∃ cs, cs = bsN code := ⟨_, rfl⟩
  have zc : cs.size = code.length := by rw [hcs, bsN_size]
  have HC := Hid.mk2 hcs
  rw [← hcs]
  clear hcs
  have zo : (bsN [n]).size = 1 := by rw [bsN_size]; rfl
  have zz : (9223372036854775807 < cs.size + (bsN [n]).size) = False := by rw [zc, zo]; simp; omega
  have HZ := Hid.mk2 zc
  clear zc zo
  go_enter Tryd.func14, Tryd.ntmps14
  go_wp2
  have HT := Hid.mk2 (trio_start w #[.string cs, .int .i64 v, .int .i64 flt, .int .i64 steps, .int .i64 high] #[.string { data := #[] }, .int .i64 0, .int .i64 0, .int .i64 0, .int .i64 0] #[.string cs, .int .i64 v, .int .i64 flt, .int .i64 steps, .int .i64 high])
  go_region_held3 (fun w' => w'.cell? ⟨w.heap.size, 0, none⟩ = some (.string cs)) (first | go_keep | exact (HT.out.box.other _ _ (by simp only; omega)).cell 0) ((go_at_call 6; refine (op_any n (by omega) _).mono ?_; rintro e w1 ⟨rfl, hb1⟩; replace HT := Hid.mk2 (HT.out.drew.below hb1); have k0 := HT.out.box.cell 0; have k1 := HT.out.rr.cell 0; have k2 := HT.out.rr.free 0))
  have HT2 := HT.out.setR 0 (.string (cs ++ bsN [n]))
  clear HT k0 k1 k2 hb1
  obtain ⟨w2, hw2⟩ : ∃ w2, w2 = w1.setCell ⟨w.heap.size + 1 + 1, 0, none⟩ (.string (cs ++ bsN [n])) := ⟨_, rfl⟩
  rw [← hw2] at HT2 ⊢
  clear hw2
  have HT := Hid.mk2 HT2
  have p1 := HT2.box.cell 1
  have p2 := HT2.box.cell 2
  have r0 := HT2.rr.cell 0
  have r1 := HT2.rr.cell 1
  have r2 := HT2.rr.cell 2
  have r3 := HT2.rr.cell 3
  have r4 := HT2.rr.cell 4
  have f1 := HT2.rr.free 1
  have f2 := HT2.rr.free 2
  have f3 := HT2.rr.free 3
  have o0 := HT2.res.cell 0
  have o1 := HT2.res.cell 1
  have o2 := HT2.res.cell 2
  have o3 := HT2.res.cell 3
  have o4 := HT2.res.cell 4
  have q0 := HT2.res.free 0
  have q1 := HT2.res.free 1
  have q2 := HT2.res.free 2
  have q3 := HT2.res.free 3
  have q4 := HT2.res.free 4
  clear HT2
  have hcode : Hid (bsN (code ++ [n]) = cs ++ bsN [n]) := by rw [Hid, ← bsN_append, HC.out]
  have HK := Hid.mk2 (oneP_ok HB.out.ok hn)
  unfold oneP at HK
  by_cases hf : flt = 0
  case neg =>
    have hf' : ((flt : Int) != 0) = true := by simp; omega
    rw [if_pos hf] at HK
    go_wp2
    obtain ⟨hfb, hbl⟩ := HT.out.fin (.string (cs ++ bsN [n])) (.int .i64 v) (.int .i64 flt) (.int .i64 steps) (.int .i64 high)
    have g0 := hfb.cell 0
    have g1 := hfb.cell 1
    have g2 := hfb.cell 2
    have g3 := hfb.cell 3
    have g4 := hfb.cell 4
    unfold finW at g0 g1 g2 g3 g4 hbl
    refine bodyPost_ret (v := .agg #[.string (cs ++ bsN [n]), .int .i64 v, .int .i64 flt, .int .i64 steps, .int .i64 high]) (by simp [results, Tryd.results14, go_sem, g0, g1, g2, g3, g4]) rfl ⟨hbl, _, one_fit HB.out HK.out rfl (by simp) rfl, by rw [hcode.out]⟩
  subst hf
  rcases hn with rfl | rfl
  · rw [if_neg (by simp), if_neg (by decide)] at HK
    by_cases hm : v = -9223372036854775808
    · subst hm
      have hneg : negN (-9223372036854775808) = (0, 1) := by
        rw [show negN (-9223372036854775808) = exact64 (0 - (-9223372036854775808)) from rfl, exact_out (by decide)]
      rw [hneg] at HK
      have hk := HK.out.other (show (1 : Nat) ≠ 0 by omega) (-9223372036854775808) hv
      go_wp2
      obtain ⟨hfb, hbl⟩ := ((HT.out.setR 3 (.int .i64 ((steps : Int) + 1))).setR 2 (.int .i64 1)).fin (.string (cs ++ bsN [2])) (.int .i64 (-9223372036854775808)) (.int .i64 1) (.int .i64 ((steps : Int) + 1)) (.int .i64 (high : Int))
      have g0 := hfb.cell 0
      have g1 := hfb.cell 1
      have g2 := hfb.cell 2
      have g3 := hfb.cell 3
      have g4 := hfb.cell 4
      unfold finW at g0 g1 g2 g3 g4 hbl
      refine bodyPost_ret (v := .agg #[.string (cs ++ bsN [2]), .int .i64 (-9223372036854775808), .int .i64 1, .int .i64 ((steps : Int) + 1), .int .i64 (high : Int)]) (by simp [results, Tryd.results14, go_sem, g0, g1, g2, g3, g4]) rfl ⟨hbl, { code := code ++ [2], v := -9223372036854775808, flt := 1, steps := steps + 1, high := high }, one_fit HB.out hk rfl (Nat.le_refl _) rfl, by rw [hcode.out]; rfl⟩
    · have hm' : (v == -9223372036854775808) = false := by simp; omega
      have hneg : negN v = (-v, 0) := by
        obtain ⟨h5, h6⟩ := hv
        rw [show negN v = exact64 (0 - v) from rfl, exact_in ⟨by omega, by omega⟩]
        simp
      rw [hneg] at HK
      go_wp2
      obtain ⟨hfb, hbl⟩ := ((HT.out.setR 3 (.int .i64 ((steps : Int) + 1))).setR 1 (.int .i64 (-v))).fin (.string (cs ++ bsN [2])) (.int .i64 (-v)) (.int .i64 0) (.int .i64 ((steps : Int) + 1)) (.int .i64 (high : Int))
      have g0 := hfb.cell 0
      have g1 := hfb.cell 1
      have g2 := hfb.cell 2
      have g3 := hfb.cell 3
      have g4 := hfb.cell 4
      unfold finW at g0 g1 g2 g3 g4 hbl
      refine bodyPost_ret (v := .agg #[.string (cs ++ bsN [2]), .int .i64 (-v), .int .i64 0, .int .i64 ((steps : Int) + 1), .int .i64 (high : Int)]) (by simp [results, Tryd.results14, go_sem, g0, g1, g2, g3, g4]) rfl ⟨hbl, { code := code ++ [2], v := -v, flt := 0, steps := steps + 1, high := high }, one_fit HB.out HK.out rfl (Nat.le_refl _) rfl, by rw [hcode.out]; rfl⟩
  · rw [if_neg (by simp), if_pos rfl] at HK
    by_cases h0 : v = 0
    · subst h0
      go_wp2
      obtain ⟨hfb, hbl⟩ := ((HT.out.setR 3 (.int .i64 ((steps : Int) + 1))).setR 1 (.int .i64 1)).fin (.string (cs ++ bsN [3])) (.int .i64 1) (.int .i64 0) (.int .i64 ((steps : Int) + 1)) (.int .i64 (high : Int))
      have g0 := hfb.cell 0
      have g1 := hfb.cell 1
      have g2 := hfb.cell 2
      have g3 := hfb.cell 3
      have g4 := hfb.cell 4
      unfold finW at g0 g1 g2 g3 g4 hbl
      refine bodyPost_ret (v := .agg #[.string (cs ++ bsN [3]), .int .i64 1, .int .i64 0, .int .i64 ((steps : Int) + 1), .int .i64 (high : Int)]) (by simp [results, Tryd.results14, go_sem, g0, g1, g2, g3, g4]) rfl ⟨hbl, { code := code ++ [3], v := 1, flt := 0, steps := steps + 1, high := high }, one_fit HB.out HK.out rfl (Nat.le_refl _) rfl, by rw [hcode.out]; rfl⟩
    · have h0' : (v == 0) = false := by simp; omega
      have hk : Hid (bitN (decide (v = 0)) = 0) := by simp [Hid, bitN, h0]
      rw [hk.out] at HK
      go_wp2
      obtain ⟨hfb, hbl⟩ := ((HT.out.setR 3 (.int .i64 ((steps : Int) + 1))).setR 1 (.int .i64 0)).fin (.string (cs ++ bsN [3])) (.int .i64 0) (.int .i64 0) (.int .i64 ((steps : Int) + 1)) (.int .i64 (high : Int))
      have g0 := hfb.cell 0
      have g1 := hfb.cell 1
      have g2 := hfb.cell 2
      have g3 := hfb.cell 3
      have g4 := hfb.cell 4
      unfold finW at g0 g1 g2 g3 g4 hbl
      refine bodyPost_ret (v := .agg #[.string (cs ++ bsN [3]), .int .i64 0, .int .i64 0, .int .i64 ((steps : Int) + 1), .int .i64 (high : Int)]) (by simp [results, Tryd.results14, go_sem, g0, g1, g2, g3, g4]) rfl ⟨hbl, { code := code ++ [3], v := 0, flt := 0, steps := steps + 1, high := high }, one_fit HB.out HK.out rfl (Nat.le_refl _) rfl, by rw [hcode.out]; rfl⟩
end Go.Proofs.YtbdjcffmpbjjlaaDoor
