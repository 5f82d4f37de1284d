/-
  Images of known making: a block, so deep.
  Images of known making: what they are, plain; the last of their walks.
  Images: whatever the bytes and numbers are, it answers true.
-/
import Derived.Test.YtbdjcffmpbjjlaaDoorKeepK
import Derived.Test.YtbdjcffmpbjjlaaDoorMD
import Derived.Test.YtbdjcffmpbjjlaaDoorHalD
import Derived.Deep.DeepCutAuto
import Derived.Deep.RegionWith
import Derived.Deep.RegionHeld3
set_option linter.unusedVariables false
set_option linter.unusedSimpArgs false
namespace Go.Proofs.YtbdjcffmpbjjlaaDoor
open Go.RowKit

theorem PB.Fit.more {x : Itm} {y : Bn} {b : PB} {L H L' H' : Nat} (h : b.Fit x y L H) (h1 : L ≤ L') (h2 : H ≤ H') : b.Fit x y L' H' := ⟨h.ok, Nat.le_trans h.len h1, h.len1, Nat.le_trans h.steps h1, Nat.le_trans h.high h2, h.small⟩
def lenB : Nat → Nat
  | 0 => 9
  | n + 1 => 3 * lenB n + 6
theorem lenB_le : ∀ n, n ≤ 2 → lenB n ≤ 105 := by decide
theorem Quad.al {w wx : World} {fb : Nat} {x : Itm} {y : Bn} (h : Quad w wx fb x y) (o : Obj) : Quad w (wx.alloc o) fb x y := h.below (box3 wx o)
set_option maxHeartbeats 8000000 in
set_option maxRecDepth 100000 in
theorem block_any (x : Itm) (y : Bn) (hx : x.Ok) (hy : y.Ok) : ∀ (n : Nat), n ≤ 3 → ∀ (fb : Nat) (w : World), FeedAt w fb →
    Calls Tryd.prog 5 #[.pointer (some ⟨fb, 0, none⟩), itmA x, bnA y, .int .i64 n] w fun e w' => (∃ q : PB, q.Fit x y (lenB n) (n + 1) ∧ e = .returned (blkV q)) ∧ FeedAt w' fb ∧ But fb w w' := by
  intro n
  induction n with
  | zero =>
    intro hn fb w h
    have HQ := Hid.mk2 (quad_start w fb x y h)
    clear h
    unfold itmA bnA
    go_enter Tryd.func5, Tryd.ntmps5
    go_wp2_with (go_at_call 12; refine (leaf_any x y hx hy fb _ HQ.out.fed).mono ?_; rintro e w1 ⟨⟨q, hq, rfl⟩, hF, hB⟩; unfold blkV; replace HQ := Hid.mk2 (HQ.out.but hB hF); clear hF hB; have r0 := HQ.out.rs.cell 0; have r1 := HQ.out.rs.cell 1; have r2 := HQ.out.rs.cell 2; have r3 := HQ.out.rs.cell 3; have r4 := HQ.out.rs.cell 4; have f0 := HQ.out.rs.free 0; have f1 := HQ.out.rs.free 1; have f2 := HQ.out.rs.free 2; have f3 := HQ.out.rs.free 3; have f4 := HQ.out.rs.free 4)
    obtain ⟨hfb, hfd, hbl⟩ := HQ.out.fin (.string (bsN q.code)) (.int .i64 q.v) (.int .i64 q.flt) (.int .i64 q.steps) (.int .i64 q.high)
    have g0 := hfb.cell 0
    have g1 := hfb.cell 1
    have g2 := hfb.cell 2
    have g3 := hfb.cell 3
    have g4 := hfb.cell 4
    unfold finQ at g0 g1 g2 g3 g4 hbl hfd
    refine bodyPost_ret (v := .agg #[.string (bsN q.code), .int .i64 q.v, .int .i64 q.flt, .int .i64 q.steps, .int .i64 q.high]) (by simp [results, Tryd.results5, go_sem, g0, g1, g2, g3, g4]) rfl ⟨⟨q, hq, rfl⟩, hfd, hbl⟩
  | succ n ih =>
    intro hn fb w h
    have hL := lenB_le n (by omega)
    have HL : Hid (lenB (n + 1) = 3 * lenB n + 6) := rfl
    generalize hln : lenB n = L at *
    have HLN := Hid.mk2 hln
    clear hln
    have HIH := Hid.mk2 (ih (by omega))
    have HQ := Hid.mk2 (quad_start w fb x y h)
    have hnn : ((n + 1 : Nat) : Int) = (n : Int) + 1 := by simp
    have hne0 : (((n : Int) + 1) == 0) = false := by simp; omega
    have hsub : (n : Int) + 1 - 1 = (n : Int) := by omega
    have t1 : Hid True := trivial
    have t2 : Hid True := trivial
    have t3 : Hid True := trivial
    clear h ih
    unfold itmA bnA
    rw [hnn]
    go_enter Tryd.func5, Tryd.ntmps5
    go_wp2_with (first
      | (go_at_call 13; refine (next_any 14 (by omega) fb _ HQ.out.fed).mono ?_; rintro e w1 ⟨⟨k, hk0, hk1, rfl⟩, hF, hB⟩; replace HQ := Hid.mk2 (HQ.out.but hB hF); clear hF hB; have i0 := HQ.out.it.cell 0; have i1 := HQ.out.it.cell 1; have i2 := HQ.out.it.cell 2; have b0 := HQ.out.bn.cell 0; have b1 := HQ.out.bn.cell 1; have b2 := HQ.out.bn.cell 2; have b3 := HQ.out.bn.cell 3; have b4 := HQ.out.bn.cell 4; rcases (show k = 0 ∨ k = 1 ∨ k = 11 ∨ (2 ≤ k ∧ k < 11) ∨ k = 12 ∨ k = 13 by omega) with rfl | rfl | rfl | ⟨hk2, hk3⟩ | rfl | rfl)
      | (go_at_call 5; have u1 := t1; clear t1; refine (HIH.out fb _ HQ.out.fed).mono ?_; rintro e w2 ⟨⟨p, hp, rfl⟩, hF, hB⟩; unfold blkV; replace HQ := Hid.mk2 ((HQ.out.but hB hF).al (.cells #[.string (bsN p.code), .int .i64 p.v, .int .i64 p.flt, .int .i64 p.steps, .int .i64 p.high] 29)); have HP := Hid.mk2 (Blk.new w2 #[.string (bsN p.code), .int .i64 p.v, .int .i64 p.flt, .int .i64 p.steps, .int .i64 p.high] 29); have HPF := Hid.mk2 hp; have hlt2 : fb < w2.heap.size := hF.lt; clear hF hB hp; have i0 := HQ.out.it.cell 0; have i1 := HQ.out.it.cell 1; have i2 := HQ.out.it.cell 2; have b0 := HQ.out.bn.cell 0; have b1 := HQ.out.bn.cell 1; have b2 := HQ.out.bn.cell 2; have b3 := HQ.out.bn.cell 3; have b4 := HQ.out.bn.cell 4; have r0 := HQ.out.rs.cell 0; have r1 := HQ.out.rs.cell 1; have r2 := HQ.out.rs.cell 2; have r3 := HQ.out.rs.cell 3; have r4 := HQ.out.rs.cell 4; have f0 := HQ.out.rs.free 0; have f1 := HQ.out.rs.free 1; have f2 := HQ.out.rs.free 2; have f3 := HQ.out.rs.free 3; have f4 := HQ.out.rs.free 4; have p0 := HP.out.cell 0; have p1 := HP.out.cell 1; have p2 := HP.out.cell 2; have p3 := HP.out.cell 3; have p4 := HP.out.cell 4)
      | (go_at_call_of 14 (Value.int IntKind.i64 2); refine (one_any x y p L (n + 1) 2 HPF.out (by omega) (by omega) _).mono ?_; rintro e w3 ⟨hb3, q, hq, rfl⟩; unfold blkV; replace HQ := Hid.mk2 (HQ.out.below hb3); have HRF := Hid.mk2 (hq.more (L' := 3 * L + 6) (H' := n + 1 + 1) (by omega) (by omega)); clear hb3 hq; have r0 := HQ.out.rs.cell 0; have r1 := HQ.out.rs.cell 1; have r2 := HQ.out.rs.cell 2; have r3 := HQ.out.rs.cell 3; have r4 := HQ.out.rs.cell 4; have f0 := HQ.out.rs.free 0; have f1 := HQ.out.rs.free 1; have f2 := HQ.out.rs.free 2; have f3 := HQ.out.rs.free 3; have f4 := HQ.out.rs.free 4)
      | (go_at_call_of 14 (Value.int IntKind.i64 3); refine (one_any x y p L (n + 1) 3 HPF.out (by omega) (by omega) _).mono ?_; rintro e w3 ⟨hb3, q, hq, rfl⟩; unfold blkV; replace HQ := Hid.mk2 (HQ.out.below hb3); have HRF := Hid.mk2 (hq.more (L' := 3 * L + 6) (H' := n + 1 + 1) (by omega) (by omega)); clear hb3 hq; have r0 := HQ.out.rs.cell 0; have r1 := HQ.out.rs.cell 1; have r2 := HQ.out.rs.cell 2; have r3 := HQ.out.rs.cell 3; have r4 := HQ.out.rs.cell 4; have f0 := HQ.out.rs.free 0; have f1 := HQ.out.rs.free 1; have f2 := HQ.out.rs.free 2; have f3 := HQ.out.rs.free 3; have f4 := HQ.out.rs.free 4)
      | (go_at_call 5; have u2 := t2; clear t2; refine (HIH.out fb _ HQ.out.fed).mono ?_; rintro e w4 ⟨⟨q, hq, rfl⟩, hF, hB⟩; unfold blkV; replace HQ := Hid.mk2 ((HQ.out.but hB hF).al (.cells #[.string (bsN q.code), .int .i64 q.v, .int .i64 q.flt, .int .i64 q.steps, .int .i64 q.high] 29)); replace HP := Hid.mk2 ((HP.out.but hB (by omega)).alloc (.cells #[.string (bsN q.code), .int .i64 q.v, .int .i64 q.flt, .int .i64 q.steps, .int .i64 q.high] 29)); have HQB := Hid.mk2 (Blk.new w4 #[.string (bsN q.code), .int .i64 q.v, .int .i64 q.flt, .int .i64 q.steps, .int .i64 q.high] 29); have HQF := Hid.mk2 hq; have hlt4 : fb < w4.heap.size := hF.lt; clear hF hB hq; have i0 := HQ.out.it.cell 0; have i1 := HQ.out.it.cell 1; have i2 := HQ.out.it.cell 2; have b0 := HQ.out.bn.cell 0; have b1 := HQ.out.bn.cell 1; have b2 := HQ.out.bn.cell 2; have b3 := HQ.out.bn.cell 3; have b4 := HQ.out.bn.cell 4; have r0 := HQ.out.rs.cell 0; have r1 := HQ.out.rs.cell 1; have r2 := HQ.out.rs.cell 2; have r3 := HQ.out.rs.cell 3; have r4 := HQ.out.rs.cell 4; have f0 := HQ.out.rs.free 0; have f1 := HQ.out.rs.free 1; have f2 := HQ.out.rs.free 2; have f3 := HQ.out.rs.free 3; have f4 := HQ.out.rs.free 4; have p0 := HP.out.cell 0; have p1 := HP.out.cell 1; have p2 := HP.out.cell 2; have p3 := HP.out.cell 3; have p4 := HP.out.cell 4; have q0 := HQB.out.cell 0; have q1 := HQB.out.cell 1; have q2 := HQB.out.cell 2; have q3 := HQB.out.cell 3; have q4 := HQB.out.cell 4)
      | (go_at_call 15; rw [show (4 : Int) + k - 2 = (((k + 2).toNat : Nat) : Int) by omega]; refine (two_any x y p q L (n + 1) (k + 2).toNat HPF.out HQF.out (by omega) (by omega) (by omega) _).mono ?_; rintro e w5 ⟨hb5, r, hr, rfl⟩; unfold blkV; replace HQ := Hid.mk2 (HQ.out.below hb5); have HRF := Hid.mk2 (hr.more (L' := 3 * L + 6) (H' := n + 1 + 1) (by omega) (by omega)); clear hb5 hr; have r0 := HQ.out.rs.cell 0; have r1 := HQ.out.rs.cell 1; have r2 := HQ.out.rs.cell 2; have r3 := HQ.out.rs.cell 3; have r4 := HQ.out.rs.cell 4; have f0 := HQ.out.rs.free 0; have f1 := HQ.out.rs.free 1; have f2 := HQ.out.rs.free 2; have f3 := HQ.out.rs.free 3; have f4 := HQ.out.rs.free 4)
      | (go_at_call 5; have u3 := t3; clear t3; refine (HIH.out fb _ HQ.out.fed).mono ?_; rintro e w6 ⟨⟨r, hr, rfl⟩, hF, hB⟩; unfold blkV; replace HQ := Hid.mk2 ((HQ.out.but hB hF).al (.cells #[.string (bsN r.code), .int .i64 r.v, .int .i64 r.flt, .int .i64 r.steps, .int .i64 r.high] 29)); replace HP := Hid.mk2 ((HP.out.but hB (by omega)).alloc (.cells #[.string (bsN r.code), .int .i64 r.v, .int .i64 r.flt, .int .i64 r.steps, .int .i64 r.high] 29)); replace HQB := Hid.mk2 ((HQB.out.but hB (by omega)).alloc (.cells #[.string (bsN r.code), .int .i64 r.v, .int .i64 r.flt, .int .i64 r.steps, .int .i64 r.high] 29)); have HRB := Hid.mk2 (Blk.new w6 #[.string (bsN r.code), .int .i64 r.v, .int .i64 r.flt, .int .i64 r.steps, .int .i64 r.high] 29); have HRF := Hid.mk2 hr; clear hF hB hr; have i0 := HQ.out.it.cell 0; have i1 := HQ.out.it.cell 1; have i2 := HQ.out.it.cell 2; have b0 := HQ.out.bn.cell 0; have b1 := HQ.out.bn.cell 1; have b2 := HQ.out.bn.cell 2; have b3 := HQ.out.bn.cell 3; have b4 := HQ.out.bn.cell 4; have r0 := HQ.out.rs.cell 0; have r1 := HQ.out.rs.cell 1; have r2 := HQ.out.rs.cell 2; have r3 := HQ.out.rs.cell 3; have r4 := HQ.out.rs.cell 4; have f0 := HQ.out.rs.free 0; have f1 := HQ.out.rs.free 1; have f2 := HQ.out.rs.free 2; have f3 := HQ.out.rs.free 3; have f4 := HQ.out.rs.free 4; have p0 := HP.out.cell 0; have p1 := HP.out.cell 1; have p2 := HP.out.cell 2; have p3 := HP.out.cell 3; have p4 := HP.out.cell 4; have q0 := HQB.out.cell 0; have q1 := HQB.out.cell 1; have q2 := HQB.out.cell 2; have q3 := HQB.out.cell 3; have q4 := HQB.out.cell 4)
      | (go_at_call_of 16 (Value.int IntKind.i64 14); refine (choice_any x y p q r L (n + 1) 14 HPF.out HQF.out HRF.out (by omega) (by omega) (by omega) _).mono ?_; rintro e w7 ⟨hb7, s, hs, rfl⟩; unfold blkV; replace HQ := Hid.mk2 (HQ.out.below hb7); have HSF := Hid.mk2 (hs.more (L' := 3 * L + 6) (H' := n + 1 + 1) (by omega) (by omega)); clear hb7 hs; have r0 := HQ.out.rs.cell 0; have r1 := HQ.out.rs.cell 1; have r2 := HQ.out.rs.cell 2; have r3 := HQ.out.rs.cell 3; have r4 := HQ.out.rs.cell 4; have f0 := HQ.out.rs.free 0; have f1 := HQ.out.rs.free 1; have f2 := HQ.out.rs.free 2; have f3 := HQ.out.rs.free 3; have f4 := HQ.out.rs.free 4)
      | (go_at_call_of 16 (Value.int IntKind.i64 15); refine (choice_any x y p q r L (n + 1) 15 HPF.out HQF.out HRF.out (by omega) (by omega) (by omega) _).mono ?_; rintro e w7 ⟨hb7, s, hs, rfl⟩; unfold blkV; replace HQ := Hid.mk2 (HQ.out.below hb7); have HSF := Hid.mk2 (hs.more (L' := 3 * L + 6) (H' := n + 1 + 1) (by omega) (by omega)); clear hb7 hs; have r0 := HQ.out.rs.cell 0; have r1 := HQ.out.rs.cell 1; have r2 := HQ.out.rs.cell 2; have r3 := HQ.out.rs.cell 3; have r4 := HQ.out.rs.cell 4; have f0 := HQ.out.rs.free 0; have f1 := HQ.out.rs.free 1; have f2 := HQ.out.rs.free 2; have f3 := HQ.out.rs.free 3; have f4 := HQ.out.rs.free 4))
    · obtain ⟨hfb, hfd, hbl⟩ := HQ.out.fin (.string (bsN q.code)) (.int .i64 q.v) (.int .i64 q.flt) (.int .i64 q.steps) (.int .i64 q.high)
      have g0 := hfb.cell 0
      have g1 := hfb.cell 1
      have g2 := hfb.cell 2
      have g3 := hfb.cell 3
      have g4 := hfb.cell 4
      unfold finQ at g0 g1 g2 g3 g4 hbl hfd
      refine bodyPost_ret (v := .agg #[.string (bsN q.code), .int .i64 q.v, .int .i64 q.flt, .int .i64 q.steps, .int .i64 q.high]) (by simp [results, Tryd.results5, go_sem, g0, g1, g2, g3, g4]) rfl ⟨⟨q, by rw [HL.out]; exact HRF.out, rfl⟩, hfd, hbl⟩
    · obtain ⟨hfb, hfd, hbl⟩ := HQ.out.fin (.string (bsN q.code)) (.int .i64 q.v) (.int .i64 q.flt) (.int .i64 q.steps) (.int .i64 q.high)
      have g0 := hfb.cell 0
      have g1 := hfb.cell 1
      have g2 := hfb.cell 2
      have g3 := hfb.cell 3
      have g4 := hfb.cell 4
      unfold finQ at g0 g1 g2 g3 g4 hbl hfd
      refine bodyPost_ret (v := .agg #[.string (bsN q.code), .int .i64 q.v, .int .i64 q.flt, .int .i64 q.steps, .int .i64 q.high]) (by simp [results, Tryd.results5, go_sem, g0, g1, g2, g3, g4]) rfl ⟨⟨q, by rw [HL.out]; exact HRF.out, rfl⟩, hfd, hbl⟩
    · obtain ⟨hfb, hfd, hbl⟩ := HQ.out.fin (.string (bsN p.code)) (.int .i64 p.v) (.int .i64 p.flt) (.int .i64 p.steps) (.int .i64 p.high)
      have g0 := hfb.cell 0
      have g1 := hfb.cell 1
      have g2 := hfb.cell 2
      have g3 := hfb.cell 3
      have g4 := hfb.cell 4
      unfold finQ at g0 g1 g2 g3 g4 hbl hfd
      refine bodyPost_ret (v := .agg #[.string (bsN p.code), .int .i64 p.v, .int .i64 p.flt, .int .i64 p.steps, .int .i64 p.high]) (by simp [results, Tryd.results5, go_sem, g0, g1, g2, g3, g4]) rfl ⟨⟨p, by rw [HL.out]; exact HPF.out.more (by omega) (by omega), rfl⟩, hfd, hbl⟩
    · obtain ⟨hfb, hfd, hbl⟩ := HQ.out.fin (.string (bsN r.code)) (.int .i64 r.v) (.int .i64 r.flt) (.int .i64 r.steps) (.int .i64 r.high)
      have g0 := hfb.cell 0
      have g1 := hfb.cell 1
      have g2 := hfb.cell 2
      have g3 := hfb.cell 3
      have g4 := hfb.cell 4
      unfold finQ at g0 g1 g2 g3 g4 hbl hfd
      refine bodyPost_ret (v := .agg #[.string (bsN r.code), .int .i64 r.v, .int .i64 r.flt, .int .i64 r.steps, .int .i64 r.high]) (by simp [results, Tryd.results5, go_sem, g0, g1, g2, g3, g4]) rfl ⟨⟨r, by rw [HL.out]; exact HRF.out, rfl⟩, hfd, hbl⟩
    · obtain ⟨hfb, hfd, hbl⟩ := HQ.out.fin (.string (bsN s.code)) (.int .i64 s.v) (.int .i64 s.flt) (.int .i64 s.steps) (.int .i64 s.high)
      have g0 := hfb.cell 0
      have g1 := hfb.cell 1
      have g2 := hfb.cell 2
      have g3 := hfb.cell 3
      have g4 := hfb.cell 4
      unfold finQ at g0 g1 g2 g3 g4 hbl hfd
      refine bodyPost_ret (v := .agg #[.string (bsN s.code), .int .i64 s.v, .int .i64 s.flt, .int .i64 s.steps, .int .i64 s.high]) (by simp [results, Tryd.results5, go_sem, g0, g1, g2, g3, g4]) rfl ⟨⟨s, by rw [HL.out]; exact HSF.out, rfl⟩, hfd, hbl⟩
    · obtain ⟨hfb, hfd, hbl⟩ := HQ.out.fin (.string (bsN s.code)) (.int .i64 s.v) (.int .i64 s.flt) (.int .i64 s.steps) (.int .i64 s.high)
      have g0 := hfb.cell 0
      have g1 := hfb.cell 1
      have g2 := hfb.cell 2
      have g3 := hfb.cell 3
      have g4 := hfb.cell 4
      unfold finQ at g0 g1 g2 g3 g4 hbl hfd
      refine bodyPost_ret (v := .agg #[.string (bsN s.code), .int .i64 s.v, .int .i64 s.flt, .int .i64 s.steps, .int .i64 s.high]) (by simp [results, Tryd.results5, go_sem, g0, g1, g2, g3, g4]) rfl ⟨⟨s, by rw [HL.out]; exact HSF.out, rfl⟩, hfd, hbl⟩
end Go.Proofs.YtbdjcffmpbjjlaaDoor

set_option linter.unusedVariables false
set_option linter.unusedSimpArgs false
namespace Go.Proofs.YtbdjcffmpbjjlaaDoor
open Go.RowKit

theorem run_fuel {s : ByteArray} {l : List Ins} {most : Nat} {G : Nat → Int} {x : Itm} {y : Bn} (hx : x.Ok) (hy : y.Ok) : ∀ (f f' p : Nat) (st : List Int) (n : Nat), AtStep s l most G p st → s.size < f + p → s.size < f' + p → runM s x y f p st n = runM s x y f' p st n
  | 0, _, p, st, n, h, hf, _ => by have := h.ok.1; omega
  | f + 1, 0, p, st, n, h, _, hf => by have := h.ok.1; omega
  | f + 1, f' + 1, p, st, n, h, hf, hf' => by
    cases hs : stepM x y (mkIns s p) st with
    | inl r =>
      obtain ⟨k, v⟩ := r
      rw [runM_end hs, runM_end hs]
    | inr r =>
      obtain ⟨q, st'⟩ := r
      obtain ⟨h1, h2⟩ := h.go hx hy hs
      rw [runM_go hs, runM_go hs]
      exact run_fuel hx hy f f' q st' (n + 1) h1 (by omega) (by omega)
theorem made_out {x : Itm} {y : Bn} {b : PB} (hx : x.Ok) (hy : y.Ok) (hb : b.Ok x y) {s : ByteArray} (hs : Sits s 0 (imgC b.high (b.code ++ [16]))) (hz : s.size = b.code.length + 4) (h4 : s.size ≤ 4000) (h1 : 1 ≤ b.code.length) {r : Nat × Int × Nat} {k : Int} (h : OutIs s x y r k) :
    k = 0 ∧ r = if b.flt = 0 then (1, b.v, b.steps + 1) else (2, (b.flt : Int), b.steps) := by
  have hi := made_img hb hs hz h4 h1
  have hx' := (itmB_iff x).2 hx
  have hy' := (bnB_iff y).2 hy
  rcases h with ⟨a, _⟩ | ⟨_, a, _⟩ | ⟨_, _, a, _⟩ | ⟨_, _, _, a, c⟩
  · exact absurd hi a
  · rw [hx'] at a; cases a
  · rw [hy'] at a; cases a
  · refine ⟨c, ?_⟩
    obtain ⟨l, G, hc, hl, h3, _⟩ := img_run hi
    rw [a, run_fuel hx hy (s.size + 1) (s.size + 1 + b.steps) 3 [] 0 (AtStep.start hc hl h3) (by omega) (by omega), made_run hb hs (s.size + 1 + b.steps) (by omega)]
theorem head_none {s : ByteArray} (h : bt s 0 ≠ 83 ∨ bt s 1 ≠ 76 ∨ s.size < 4) : ¬ IsImg s := by
  rintro ⟨⟨h1, _, h3, h4⟩, _⟩
  rcases h with h | h | h
  · exact h h3
  · exact h h4
  · omega
theorem bsN_drop (a : Nat) (l : List Nat) : (bsN (a :: l)).extract 1 (bsN (a :: l)).size = bsN l := by
  apply ByteArray.ext
  simp [bsN, ByteArray.size]
  exact List.take_of_length_le (by simp)
/-- The six that are none. -/
def badL (b : PB) : List (List Nat) := [imgC (b.high - 1) (b.code ++ [16]), imgC b.high b.code, imgC b.high (b.code ++ [16] ++ [17]), 83 :: 77 :: b.high :: (b.code ++ [16]), [83, 76, b.high], 76 :: b.high :: (b.code ++ [16])]
theorem bad_none {x : Itm} {y : Bn} {b : PB} {L H : Nat} (hf : b.Fit x y L H) (hH : H ≤ 255) : ∀ l ∈ badL b, ¬ IsImg (bsN l) := by
  have hp := hf.ok.pos
  have hh := hf.high
  have hsm : ∀ c ∈ b.code ++ [16], c < 256 := fun c hc => (List.mem_append.1 hc).elim (hf.small c) (fun h => by simp at h; omega)
  have hsits : ∀ h c, h < 256 → (∀ z ∈ c, z < 256) → Sits (bsN (imgC h c)) 0 (imgC h c) := fun h c h1 h2 => sits_bsN _ (fun z hz => by
    simp only [imgC, List.mem_cons] at hz
    rcases hz with rfl | rfl | rfl | hz
    · omega
    · omega
    · exact h1
    · exact h2 z hz)
  intro l hl
  simp only [badL, List.mem_cons, List.not_mem_nil, or_false] at hl
  rcases hl with rfl | rfl | rfl | rfl | rfl | rfl
  · exact low_none hf.ok (hsits _ _ (by omega) hsm) (by omega)
  · exact cut_none hf.ok (hsits _ _ (by omega) hf.small) (by rw [bsN_len]; simp [imgC])
  · exact more_none hf.ok (hsits _ _ (by omega) (fun c hc => (List.mem_append.1 hc).elim (hsm c) (fun h => by simp at h; omega)))
  · refine head_none (.inr (.inl ?_))
    have := sits_bsN (83 :: 77 :: b.high :: (b.code ++ [16])) (fun z hz => by
      simp only [List.mem_cons] at hz
      rcases hz with rfl | rfl | rfl | hz
      · omega
      · omega
      · omega
      · exact hsm z hz)
    have h1 := (this 1 77 rfl).2
    rw [Nat.zero_add] at h1
    rw [h1]; decide
  · exact head_none (.inr (.inr (by rw [bsN_len]; simp)))
  · refine head_none (.inl ?_)
    have := sits_bsN (76 :: b.high :: (b.code ++ [16])) (fun z hz => by
      simp only [List.mem_cons] at hz
      rcases hz with rfl | rfl | hz
      · omega
      · omega
      · exact hsm z hz)
    have h1 := (this 0 76 rfl).2
    rw [Nat.zero_add] at h1
    rw [h1]; decide
theorem img_sits {x : Itm} {y : Bn} {b : PB} {L H : Nat} (hf : b.Fit x y L H) (hH : H ≤ 255) : Sits (bsN (imgC b.high (b.code ++ [16]))) 0 (imgC b.high (b.code ++ [16])) := sits_bsN _ (fun z hz => by
  have hh := hf.high
  simp only [imgC, List.mem_cons] at hz
  rcases hz with rfl | rfl | rfl | hz
  · omega
  · omega
  · omega
  · exact (List.mem_append.1 hz).elim (hf.small z) (fun h => by simp at h; omega))
/-- What lies in memory while Images runs. -/
structure ISt (w wx : World) (bx pb : Nat) (x : Itm) (y : Bn) (q : PB) : Prop where
  it : Blk wx bx #[.int .i64 x.size, .int .i64 x.speed, .int .i64 x.need] 23
  bn : Blk wx (bx + 1) #[.int .i64 y.id, .int .i64 y.zone, .int .i64 y.cap, .int .i64 y.used, .int .i64 y.has] 25
  pb : Blk wx pb #[.string (bsN q.code), .int .i64 q.v, .int .i64 q.flt, .int .i64 q.steps, .int .i64 q.high] 29
  bl : Below w.heap.size w wx
  gp : GlobP wx
theorem ISt.below {w wx w' : World} {bx pb : Nat} {x : Itm} {y : Bn} {q : PB} (h : ISt w wx bx pb x y q) (hb : Below wx.heap.size wx w') : ISt w w' bx pb x y q :=
  ⟨h.it.below hb h.it.lt, h.bn.below hb h.bn.lt, h.pb.below hb h.pb.lt, h.bl.trans (hb.mono h.bl.size), h.gp.below hb⟩
theorem ISt.al {w wx : World} {bx pb : Nat} {x : Itm} {y : Bn} {q : PB} (h : ISt w wx bx pb x y q) (o : Obj) : ISt w (wx.alloc o) bx pb x y q := h.below (box3 wx o)
theorem ISt.dr {w wx : World} {bx pb : Nat} {x : Itm} {y : Bn} {q : PB} (h : ISt w wx bx pb x y q) : ISt w wx.drew bx pb x y q := h.below (below_drewN (Below.refl _ wx) 1)
theorem ISt.c0 {w wx : World} {bx pb : Nat} {x : Itm} {y : Bn} {q : PB} (h : ISt w wx bx pb x y q) : wx.cell? ⟨pb, 0, none⟩ = some (.string (bsN q.code)) := h.pb.cell 0
theorem ISt.c04 {w wx : World} {bx pb : Nat} {x : Itm} {y : Bn} {q : PB} (h : ISt w wx bx pb x y q) : wx.cell? ⟨pb, 4, none⟩ = some (.int .i64 q.high) ∧ wx.cell? ⟨pb, 0, none⟩ = some (.string (bsN q.code)) := ⟨h.pb.cell 4, h.pb.cell 0⟩
theorem ist_start {w w1 w2 : World} (hb : Below w.heap.size w w1) (hg : GlobP w) (x : Itm) (y : Bn) (q : PB) (s : ByteArray) (hB : But (w1.heap.size + 1 + 1) (((w1.alloc (.cells #[.int .i64 x.size, .int .i64 x.speed, .int .i64 x.need] 23)).alloc (.cells #[.int .i64 y.id, .int .i64 y.zone, .int .i64 y.cap, .int .i64 y.used, .int .i64 y.has] 25)).alloc (.cells #[.string s, .int .i64 0] 33)) w2) : ISt w (w2.alloc (.cells #[.string (bsN q.code), .int .i64 q.v, .int .i64 q.flt, .int .i64 q.steps, .int .i64 q.high] 29)) w1.heap.size w2.heap.size x y q := by
  have hb3 : Below w1.heap.size w1 (((w1.alloc (.cells #[.int .i64 x.size, .int .i64 x.speed, .int .i64 x.need] 23)).alloc (.cells #[.int .i64 y.id, .int .i64 y.zone, .int .i64 y.cap, .int .i64 y.used, .int .i64 y.has] 25)).alloc (.cells #[.string s, .int .i64 0] 33)) := ((box3 w1 _).alloc (by simp) _).alloc (by simp; omega) _
  have hsz := hb.size
  have hB1 : Below w1.heap.size (((w1.alloc (.cells #[.int .i64 x.size, .int .i64 x.speed, .int .i64 x.need] 23)).alloc (.cells #[.int .i64 y.id, .int .i64 y.zone, .int .i64 y.cap, .int .i64 y.used, .int .i64 y.has] 25)).alloc (.cells #[.string s, .int .i64 0] 33)) w2 := hB.below (by omega) (by simp; omega)
  have hw2 := hb3.trans hB1
  refine ⟨((((Blk.new w1 _ _).alloc _).alloc _).but hB (by omega)).alloc _, ?_, Blk.new w2 _ _, ?_, ?_⟩
  · have h1 : Blk (((w1.alloc (.cells #[.int .i64 x.size, .int .i64 x.speed, .int .i64 x.need] 23)).alloc (.cells #[.int .i64 y.id, .int .i64 y.zone, .int .i64 y.cap, .int .i64 y.used, .int .i64 y.has] 25)).alloc (.cells #[.string s, .int .i64 0] 33)) (w1.heap.size + 1) #[.int .i64 y.id, .int .i64 y.zone, .int .i64 y.cap, .int .i64 y.used, .int .i64 y.has] 25 := by
      have := (Blk.new (w1.alloc (.cells #[.int .i64 x.size, .int .i64 x.speed, .int .i64 x.need] 23)) #[.int .i64 y.id, .int .i64 y.zone, .int .i64 y.cap, .int .i64 y.used, .int .i64 y.has] 25).alloc (.cells #[.string s, .int .i64 0] 33)
      simpa using this
    exact (h1.but hB (by omega)).alloc _
  · exact (hb.trans (hw2.mono hsz)).trans ((box3 w2 _).mono (Nat.le_trans hsz hw2.size))
  · exact ((hg.below hb).below hw2).below (box3 w2 _)
end Go.Proofs.YtbdjcffmpbjjlaaDoor

set_option linter.unusedVariables false
set_option linter.unusedSimpArgs false
namespace Go.Proofs.YtbdjcffmpbjjlaaDoor
open Go.RowKit

/-- The same, and the list of those that are none. -/
structure ILo (w wx : World) (bx pb gb : Nat) (x : Itm) (y : Bn) (q : PB) (bs : Array Value) : Prop where
  st : ISt w wx bx pb x y q
  bad : Blk wx gb bs 9
theorem ILo.below {w wx w' : World} {bx pb gb : Nat} {x : Itm} {y : Bn} {q : PB} {bs : Array Value} (h : ILo w wx bx pb gb x y q bs) (hb : Below wx.heap.size wx w') : ILo w w' bx pb gb x y q bs := ⟨h.st.below hb, h.bad.below hb h.bad.lt⟩
theorem ILo.al {w wx : World} {bx pb gb : Nat} {x : Itm} {y : Bn} {q : PB} {bs : Array Value} (h : ILo w wx bx pb gb x y q bs) (o : Obj) : ILo w (wx.alloc o) bx pb gb x y q bs := h.below (box3 wx o)
theorem ILo.dr {w wx : World} {bx pb gb : Nat} {x : Itm} {y : Bn} {q : PB} {bs : Array Value} (h : ILo w wx bx pb gb x y q bs) : ILo w wx.drew bx pb gb x y q bs := h.below (below_drewN (Below.refl _ wx) 1)
theorem ISt.oth {w wx : World} {bx pb : Nat} {x : Itm} {y : Bn} {q : PB} (h : ISt w wx bx pb x y q) (hg : GlobP w) (b i : Nat) (v : Value) (h1 : b ≠ bx) (h2 : b ≠ bx + 1) (h3 : b ≠ pb) (hw : w.heap.size ≤ b) : ISt w (wx.setCell ⟨b, i, none⟩ v) bx pb x y q :=
  ⟨h.it.other _ _ (by simp only; omega), h.bn.other _ _ (by simp only; omega), h.pb.other _ _ (by simp only; omega), h.bl.setCell (p := ⟨b, i, none⟩) (by simp only; omega) v, h.gp.belowB ((Below.refl b wx).setCell (p := ⟨b, i, none⟩) (Nat.le_refl _) v) (by have := hg.size; omega) (by have := hg.size; omega) (by have := hg.size; omega)⟩
theorem ILo.oth {w wx : World} {bx pb gb : Nat} {x : Itm} {y : Bn} {q : PB} {bs : Array Value} (h : ILo w wx bx pb gb x y q bs) (hg : GlobP w) (b i : Nat) (v : Value) (h1 : b ≠ bx) (h2 : b ≠ bx + 1) (h3 : b ≠ pb) (h4 : b ≠ gb) (hw : w.heap.size ≤ b) : ILo w (wx.setCell ⟨b, i, none⟩ v) bx pb gb x y q bs :=
  ⟨h.st.oth hg b i v h1 h2 h3 hw, h.bad.other _ _ (by simp only; omega)⟩
theorem six_at {B0 B1 B2 B3 B4 B5 : ByteArray} (h : ¬ IsImg B0 ∧ ¬ IsImg B1 ∧ ¬ IsImg B2 ∧ ¬ IsImg B3 ∧ ¬ IsImg B4 ∧ ¬ IsImg B5) (i : Nat) (hi : i < 6) : ∃ B, (#[Value.string B0, .string B1, .string B2, .string B3, .string B4, .string B5] : Array Value)[i]? = some (.string B) ∧ ¬ IsImg B := by
  obtain rfl | rfl | rfl | rfl | rfl | rfl : i = 0 ∨ i = 1 ∨ i = 2 ∨ i = 3 ∨ i = 4 ∨ i = 5 := by omega
  · exact ⟨B0, rfl, h.1⟩
  · exact ⟨B1, rfl, h.2.1⟩
  · exact ⟨B2, rfl, h.2.2.1⟩
  · exact ⟨B3, rfl, h.2.2.2.1⟩
  · exact ⟨B4, rfl, h.2.2.2.2.1⟩
  · exact ⟨B5, rfl, h.2.2.2.2.2⟩
theorem feed_at2 (w : World) (o1 o2 : Obj) (s : ByteArray) (hs : s.size ≤ maxLen) : FeedAt (((w.alloc o1).alloc o2).alloc (.cells #[.string s, .int .i64 0] 33)) (w.heap.size + 1 + 1) := by
  have := Blk.new ((w.alloc o1).alloc o2) #[.string s, .int .i64 0] 33
  exact ⟨s, 0, by simpa using this, Nat.zero_le _, hs⟩
set_option maxHeartbeats 60000000 in
set_option maxRecDepth 100000 in
theorem Images_any (s : ByteArray) (a b c : Int) (t : ByteArray) (ha : In64 a) (hb : In64 b) (hc : In64 c) (hs : s.size ≤ maxLen) (ht : t.size ≤ maxLen) (w : World) (hg : GlobP w) :
    Calls Tryd.prog 3 #[.string s, .int .i64 a, .int .i64 b, .int .i64 c, .string t] w fun e w' => Below w.heap.size w w' ∧ e = .returned (.bool true) := by
  have HA := Hid.mk2 ha
  have HB := Hid.mk2 hb
  have HC := Hid.mk2 hc
  have HS := Hid.mk2 hs
  have HT := Hid.mk2 ht
  have HG := Hid.mk2 hg
  clear ha hb hc ht hg hs
  go_enter Tryd.func3, Tryd.ntmps3
  go_upto_region 3 with (first
    | (go_at_call 4; refine (around_any a b c HA.out HB.out HC.out t HT.out _).mono ?_; rintro e w1 ⟨⟨x, y, hx, hy, rfl⟩, hb1⟩; unfold itmA bnA; have HX := Hid.mk2 hx; have HY := Hid.mk2 hy; have HB1 := Hid.mk2 hb1; clear hx hy hb1)
    | (go_at_call 5; refine (block_any x y HX.out HY.out 3 (by omega) _ _ (feed_at2 w1 _ _ s HS.out)).mono ?_; rintro e w2 ⟨⟨q, hq, rfl⟩, hF, hB2⟩; unfold blkV; have HQF := Hid.mk2 hq; have HF := Hid.mk2 hF; have HB2 := Hid.mk2 hB2; clear hq hF hB2))
  have HM := Hid.mk2 (ist_start HB1.out HG.out x y q s HB2.out)
  have hlen := HQF.out.len
  have hsts := HQF.out.steps
  have hhig := HQF.out.high
  have hpos := HQF.out.ok.pos
  rw [show lenB 3 = 321 from rfl] at hlen hsts
  clear HF HB2
  generalize hwP : w2.alloc (.cells #[.string (bsN q.code), .int .i64 q.v, .int .i64 q.flt, .int .i64 q.steps, .int .i64 q.high] 29) = wP at *
  generalize hpb : w2.heap.size = pb at *
  clear hwP hpb
  obtain ⟨hm1, hhm⟩ : ∃ hm1 : Nat, (q.high : Int) - 1 = (hm1 : Int) := ⟨q.high - 1, by omega⟩
  have hm1e : hm1 = q.high - 1 := by omega
  have HWR : Hid (IntKind.i64.wrap (hm1 : Int) = (hm1 : Int)) := wrap_in (by unfold In64; omega)
  have HBAD := Hid.mk2 (bad_none HQF.out (by omega))
  have HSIT := Hid.mk2 (img_sits HQF.out (by omega))
  obtain ⟨I, hI⟩ : ∃ I, I = bsN (imgC q.high (q.code ++ [16])) := ⟨_, rfl⟩
  have zI : I.size = q.code.length + 4 := by rw [hI, bsN_len]; simp [imgC]
  have HSL : Hid (({ data := #[83, 76] } : ByteArray) = bsN [83, 76]) := rfl
  have HSM : Hid (({ data := #[83, 77] } : ByteArray) = bsN [83, 77]) := rfl
  have HI : Hid (({ data := #[83, 76] } : ByteArray) ++ bsN [q.high] ++ bsN (q.code ++ [16]) = I) := by rw [Hid, HSL.out, bsN_append, bsN_append, hI]; rfl
  have N0 : Hid (¬ IsImg (({ data := #[83, 76] } : ByteArray) ++ bsN [hm1] ++ bsN (q.code ++ [16]))) := by rw [Hid, HSL.out, bsN_append, bsN_append, hm1e]; exact HBAD.out (imgC (q.high - 1) (q.code ++ [16])) (by simp [badL])
  have N1 : Hid (¬ IsImg (({ data := #[83, 76] } : ByteArray) ++ bsN [q.high] ++ bsN q.code)) := by rw [Hid, HSL.out, bsN_append, bsN_append]; exact HBAD.out (imgC q.high q.code) (by simp [badL])
  have N2 : Hid (¬ IsImg (I ++ bsN [17])) := by rw [Hid, hI, bsN_append]; exact HBAD.out (imgC q.high (q.code ++ [16] ++ [17])) (by simp [badL])
  have N3 : Hid (¬ IsImg (({ data := #[83, 77] } : ByteArray) ++ bsN [q.high] ++ bsN (q.code ++ [16]))) := by rw [Hid, HSM.out, bsN_append, bsN_append]; exact HBAD.out (83 :: 77 :: q.high :: (q.code ++ [16])) (by simp [badL])
  have N4 : Hid (¬ IsImg (({ data := #[83, 76] } : ByteArray) ++ bsN [q.high])) := by rw [Hid, HSL.out, bsN_append]; exact HBAD.out [83, 76, q.high] (by simp [badL])
  have N5 : Hid (¬ IsImg (I.extract 1 I.size)) := by rw [Hid, hI]; unfold imgC; rw [bsN_drop]; exact HBAD.out (76 :: q.high :: (q.code ++ [16])) (by simp [badL])
  have HIS : Hid (Sits I 0 (imgC q.high (q.code ++ [16]))) := by rw [Hid, hI]; exact HSIT.out
  have HZI := Hid.mk2 zI
  have y1 : (bsN [q.high]).size = 1 := bsN_len _
  have y2 : (bsN [hm1]).size = 1 := bsN_len _
  have y3 : (bsN [16]).size = 1 := bsN_len _
  have y4 : (bsN [17]).size = 1 := bsN_len _
  have y5 : (bsN q.code).size = q.code.length := bsN_len _
  have y6 : (bsN (q.code ++ [16])).size = q.code.length + 1 := by rw [bsN_len]; simp
  have f0 : (9223372036854775807 < 2 + (bsN [hm1]).size) = False := by rw [y2]; simp
  have f1 : (9223372036854775807 < 2 + (bsN [hm1]).size + (bsN (q.code ++ [16])).size) = False := by rw [y2, y6]; simp; omega
  have f2 : (9223372036854775807 < 2 + (bsN [q.high]).size) = False := by rw [y1]; simp
  have f3 : (9223372036854775807 < 2 + (bsN [q.high]).size + (bsN q.code).size) = False := by rw [y1, y5]; simp; omega
  have f4 : (9223372036854775807 < I.size + (bsN [17]).size) = False := by rw [y4, zI]; simp; omega
  have f5 : (9223372036854775807 < 2 + (bsN [q.high]).size + (bsN (q.code ++ [16])).size) = False := by rw [y1, y6]; simp; omega
  have f6 : (9223372036854775807 < (bsN q.code).size + (bsN [16]).size) = False := by rw [y3, y5]; simp; omega
  clear y1 y2 y3 y4 y5 y6 zI
  clear hI hm1e HBAD HSIT
  have i0 := HM.out.it.cell 0; have i1 := HM.out.it.cell 1; have i2 := HM.out.it.cell 2; have b0 := HM.out.bn.cell 0; have b1 := HM.out.bn.cell 1; have b2 := HM.out.bn.cell 2; have b3 := HM.out.bn.cell 3; have b4 := HM.out.bn.cell 4; have p0 := HM.out.pb.cell 0; have p1 := HM.out.pb.cell 1; have p2 := HM.out.pb.cell 2; have p3 := HM.out.pb.cell 3; have p4 := HM.out.pb.cell 4
  go_cut [14] (fun s14 wx => s14 = .string (bsN (q.code ++ [16])) ∧ ISt w wx w1.heap.size pb x y q)
  case first =>
    go_region_held3 (fun w' => w'.cell? ⟨pb, 0, none⟩ = some (.string (bsN q.code))) (first | with_reducible exact HM.out.c0 | with_reducible exact HM.out.dr.c0) (first | (go_at_call 6; refine (op_any 16 (by omega) _).mono ?_; rintro e w3 ⟨rfl, hb3⟩; replace HM := Hid.mk2 (HM.out.dr.below hb3); clear hb3))
    all_goals
      go_wp2_with fail
      go_meet
      case rel => exact ⟨by rw [bsN_append], HM.out⟩
  case rest =>
    obtain ⟨rfl, hm⟩ := hcut
    clear HM i0 i1 i2 b0 b1 b2 b3 b4 p0 p1 p2 p3 p4
    have HM := Hid.mk2 hm
    clear hm
    have i0 := HM.out.it.cell 0; have i1 := HM.out.it.cell 1; have i2 := HM.out.it.cell 2; have b0 := HM.out.bn.cell 0; have b1 := HM.out.bn.cell 1; have b2 := HM.out.bn.cell 2; have b3 := HM.out.bn.cell 3; have b4 := HM.out.bn.cell 4; have p0 := HM.out.pb.cell 0; have p1 := HM.out.pb.cell 1; have p2 := HM.out.pb.cell 2; have p3 := HM.out.pb.cell 3; have p4 := HM.out.pb.cell 4
    go_upto_region 9 with (first
      | (go_at_call 6; refine (op_any q.high (by omega) _).mono ?_; rintro e w4 ⟨rfl, hb4⟩; replace HM := Hid.mk2 (HM.out.below hb4); clear hb4; have i0 := HM.out.it.cell 0; have i1 := HM.out.it.cell 1; have i2 := HM.out.it.cell 2; have b0 := HM.out.bn.cell 0; have b1 := HM.out.bn.cell 1; have b2 := HM.out.bn.cell 2; have b3 := HM.out.bn.cell 3; have b4 := HM.out.bn.cell 4; have p0 := HM.out.pb.cell 0; have p1 := HM.out.pb.cell 1; have p2 := HM.out.pb.cell 2; have p3 := HM.out.pb.cell 3; have p4 := HM.out.pb.cell 4)
      | (go_at_call 7; rw [HI.out]; refine (pRun_any I x y _ HM.out.gp).mono ?_; rintro e w5 ⟨hb5, r, k, ho, rfl⟩; obtain ⟨rfl, hr⟩ := made_out HX.out HY.out HQF.out.ok HIS.out HZI.out (by rw [HZI.out]; omega) HQF.out.len1 ho; obtain ⟨rk, rv, rt⟩ := r; have HRS := Hid.mk2 hr; clear hr; rw [show resA (rk, rv, rt) = .agg #[.int .i64 rk, .int .i64 rv, .int .i64 rt] from rfl]; replace HM := Hid.mk2 ((HM.out.below hb5).al (.cells #[.int .i64 rk, .int .i64 rv, .int .i64 rt] 36)); have HR := Hid.mk2 (Blk.new w5 #[.int .i64 rk, .int .i64 rv, .int .i64 rt] 36); clear hb5 ho; have i0 := HM.out.it.cell 0; have i1 := HM.out.it.cell 1; have i2 := HM.out.it.cell 2; have b0 := HM.out.bn.cell 0; have b1 := HM.out.bn.cell 1; have b2 := HM.out.bn.cell 2; have b3 := HM.out.bn.cell 3; have b4 := HM.out.bn.cell 4; have p0 := HM.out.pb.cell 0; have p1 := HM.out.pb.cell 1; have p2 := HM.out.pb.cell 2; have p3 := HM.out.pb.cell 3; have p4 := HM.out.pb.cell 4)
      | (go_at_call 8; refine (Verify_any I _ HM.out.gp).mono ?_; rintro e w6 ⟨hb6, hor⟩; obtain ⟨_, rfl⟩ := hor.resolve_right (fun h => h.1 (made_img HQF.out.ok HIS.out HZI.out (by rw [HZI.out]; omega) HQF.out.len1)); replace HM := Hid.mk2 (HM.out.below hb6); replace HR := Hid.mk2 (HR.out.below hb6 HR.out.lt); clear hb6 hor; have i0 := HM.out.it.cell 0; have i1 := HM.out.it.cell 1; have i2 := HM.out.it.cell 2; have b0 := HM.out.bn.cell 0; have b1 := HM.out.bn.cell 1; have b2 := HM.out.bn.cell 2; have b3 := HM.out.bn.cell 3; have b4 := HM.out.bn.cell 4; have p0 := HM.out.pb.cell 0; have p1 := HM.out.pb.cell 1; have p2 := HM.out.pb.cell 2; have p3 := HM.out.pb.cell 3; have p4 := HM.out.pb.cell 4; have r0 := HR.out.cell 0; have r1 := HR.out.cell 1; have r2 := HR.out.cell 2))
    go_cut [84] (fun s84 wx => s84 = .bool false ∧ ISt w wx w1.heap.size pb x y q ∧ Blk wx w5.heap.size #[.int .i64 rk, .int .i64 rv, .int .i64 rt] 36)
    case first =>
      by_cases hf : q.flt = 0
      · have hf1 : ((q.flt : Int) != 0) = false := by simp [hf]
        clear hf
        go_wp2_with fail
        go_meet
        case rel => exact ⟨rfl, HM.out, HR.out⟩
      · have hf1 : ((q.flt : Int) != 0) = true := by simp; omega
        obtain ⟨rfl, rfl, rfl⟩ : rk = 2 ∧ rv = (q.flt : Int) ∧ rt = q.steps := by
          have := HRS.out
          rw [if_neg hf] at this
          simpa using this
        clear hf HRS
        go_wp2_with fail
        go_meet
        case rel => exact ⟨rfl, HM.out, HR.out⟩
    case rest =>
      obtain ⟨rfl, hm, hr⟩ := hcut
      clear HM HR i0 i1 i2 b0 b1 b2 b3 b4 p0 p1 p2 p3 p4 r0 r1 r2
      have HM := Hid.mk2 hm
      have HR := Hid.mk2 hr
      clear hm hr
      have i0 := HM.out.it.cell 0; have i1 := HM.out.it.cell 1; have i2 := HM.out.it.cell 2; have b0 := HM.out.bn.cell 0; have b1 := HM.out.bn.cell 1; have b2 := HM.out.bn.cell 2; have b3 := HM.out.bn.cell 3; have b4 := HM.out.bn.cell 4; have p0 := HM.out.pb.cell 0; have p1 := HM.out.pb.cell 1; have p2 := HM.out.pb.cell 2; have p3 := HM.out.pb.cell 3; have p4 := HM.out.pb.cell 4
      have r0 := HR.out.cell 0; have r1 := HR.out.cell 1; have r2 := HR.out.cell 2
      go_upto_region 11 with fail
      go_cut [107] (fun s107 wx => s107 = .bool false ∧ ISt w wx w1.heap.size pb x y q)
      case first =>
        by_cases hf : q.flt = 0
        · have hf2 : ((q.flt : Int) == 0) = true := by simp [hf]
          obtain ⟨rfl, rfl, rfl⟩ : rk = 1 ∧ rv = q.v ∧ rt = q.steps + 1 := by
            have := HRS.out
            rw [if_pos hf] at this
            simpa using this
          clear hf HRS
          go_wp2_with fail
          go_meet
          case rel => exact ⟨rfl, HM.out⟩
        · have hf2 : ((q.flt : Int) == 0) = false := by simp; omega
          clear hf
          go_wp2_with fail
          go_meet
          case rel => exact ⟨rfl, HM.out⟩
      case rest =>
        obtain ⟨rfl, hm⟩ := hcut
        clear HM HR HRS i0 i1 i2 b0 b1 b2 b3 b4 p0 p1 p2 p3 p4 r0 r1 r2
        have HM := Hid.mk2 hm
        clear hm
        have i0 := HM.out.it.cell 0; have i1 := HM.out.it.cell 1; have i2 := HM.out.it.cell 2; have b0 := HM.out.bn.cell 0; have b1 := HM.out.bn.cell 1; have b2 := HM.out.bn.cell 2; have b3 := HM.out.bn.cell 3; have b4 := HM.out.bn.cell 4; have p0 := HM.out.pb.cell 0; have p1 := HM.out.pb.cell 1; have p2 := HM.out.pb.cell 2; have p3 := HM.out.pb.cell 3; have p4 := HM.out.pb.cell 4
        go_upto_region 13 with fail
        go_cut [19] (fun s19 wx => ∃ gb B0 B1 B2 B3 B4 B5, s19 = .slice (some ⟨gb, 0, none⟩) 6 6 ∧ Blk wx gb #[.string B0, .string B1, .string B2, .string B3, .string B4, .string B5] 9 ∧ (¬ IsImg B0 ∧ ¬ IsImg B1 ∧ ¬ IsImg B2 ∧ ¬ IsImg B3 ∧ ¬ IsImg B4 ∧ ¬ IsImg B5) ∧ ISt w wx w1.heap.size pb x y q)
        case first =>
          have hsl : ∀ wx : World, (Instr.slice 9 (.string I) (some (.int .i64 1)) none none).run Tryd.prog wx = .ok (.string (I.extract 1 I.size)) wx := by
            intro wx
            rw [run_slice_string_l wx 9 I Tryd.underlying9 .i64 _ (by omega) (by rw [HZI.out]; omega)]
            simp
          go_region_held3 (fun w' => w'.cell? ⟨pb, 4, none⟩ = some (.int .i64 q.high) ∧ w'.cell? ⟨pb, 0, none⟩ = some (.string (bsN q.code))) (first | with_reducible exact HM.out.c04 | with_reducible exact HM.out.dr.c04 | with_reducible exact (HM.out.al _).c04) (first
            | (go_at_call_of 6 (Value.int IntKind.i64 17); refine (op_any 17 (by omega) _).mono ?_; rintro e w9 ⟨rfl, hb9⟩; replace HM := Hid.mk2 (HM.out.below hb9); clear hb9)
            | (go_at_call_of 6 (Value.int IntKind.i64 (IntKind.i64.wrap (hm1 : Int))); rw [HWR.out]; refine (op_any hm1 (by omega) _).mono ?_; rintro e w7 ⟨rfl, hb7⟩; replace HM := Hid.mk2 (HM.out.dr.below hb7); clear hb7)
            | (go_at_call_of 6 (Value.int IntKind.i64 (q.high : Int)); refine (op_any q.high (by omega) _).mono ?_; rintro e w8 ⟨rfl, hb8⟩; replace HM := Hid.mk2 (HM.out.below hb8); clear hb8))
          all_goals
            go_wp2_with fail
            go_meet
            case rel => exact ⟨_, _, _, _, _, _, _, rfl, Blk.new _ _ _, ⟨N0.out, N1.out, N2.out, N3.out, N4.out, N5.out⟩, HM.out.al _⟩
        case rest =>
          obtain ⟨gb, B0, B1, B2, B3, B4, B5, rfl, hgb, hN, hm⟩ := hcut
          have hw1 := HB1.out.size
          have HN := Hid.mk2 hN
          have HQ : Hid (ILo w wc w1.heap.size pb gb x y q #[.string B0, .string B1, .string B2, .string B3, .string B4, .string B5]) := ⟨hm, hgb⟩
          clear HM hgb hN hm N0 N1 N2 N3 N4 N5 HIS HI i0 i1 i2 b0 b1 b2 b3 b4 p0 p1 p2 p3 p4 f0 f1 f2 f3 f4 f5 f6 hhm
          go_wp2
          go_loopw [20] (fun vi wr => ∃ i : Nat, i ≤ 6 ∧ vi = .int .i64 i ∧ ILo w wr w1.heap.size pb gb x y q #[.string B0, .string B1, .string B2, .string B3, .string B4, .string B5]) (fun i _ => 6 - (intOf i).toNat)
          case atStart => exact ⟨0, by omega, rfl, HQ.out⟩
          case round =>
            clear HQ
            obtain ⟨i, hi, rfl, hq⟩ := hrel
            have HQ := Hid.mk2 hq
            clear hq
            by_cases hlt : i < 6
            · obtain ⟨B, hB, hBn⟩ := six_at HN.out i hlt
              have HBC := Hid.mk2 hB
              have HBN := Hid.mk2 hBn
              clear hB hBn
              have e0 := (HQ.out.bad.cell i).trans HBC.out
              go_wp2_with (go_at_call 8; refine (Verify_any B _ HQ.out.st.gp).mono ?_; rintro e w7 ⟨hb7, hor⟩; obtain ⟨_, rfl⟩ := hor.resolve_left (fun h => HBN.out h.1); replace HQ := Hid.mk2 (HQ.out.below hb7); clear hb7 hor)
              have hlS := HQ.out.st.it.lt
              have hlB := HQ.out.bad.lt
              have hl1 := HQ.out.st.bn.lt
              have hl2 := HQ.out.st.pb.lt
              go_cut [22, 23] from 138 to 179 (fun s22 s23 wx => ∃ zb, s22 = .pointer (some ⟨zb, 0, none⟩) ∧ s23 = .int .i64 7 ∧ Blk wx zb #[.int .i64 0, .int .i64 0, .int .i64 0] 36 ∧ ILo w wx w1.heap.size pb gb x y q #[.string B0, .string B1, .string B2, .string B3, .string B4, .string B5])
              case first =>
                have d0 := (HQ.out.bad.cell i).trans HBC.out
                have d1 := ((HQ.out.al (.cells #[.int .i64 0, .int .i64 0, .int .i64 0] 36)).bad.cell i).trans HBC.out
                have i0 := HQ.out.st.it.cell 0; have i1 := HQ.out.st.it.cell 1; have i2 := HQ.out.st.it.cell 2; have i3 := HQ.out.st.bn.cell 0; have i4 := HQ.out.st.bn.cell 1; have i5 := HQ.out.st.bn.cell 2; have i6 := HQ.out.st.bn.cell 3; have i7 := HQ.out.st.bn.cell 4
                have j0 := (HQ.out.al (.cells #[.int .i64 0, .int .i64 0, .int .i64 0] 36)).st.it.cell 0; have j1 := (HQ.out.al (.cells #[.int .i64 0, .int .i64 0, .int .i64 0] 36)).st.it.cell 1; have j2 := (HQ.out.al (.cells #[.int .i64 0, .int .i64 0, .int .i64 0] 36)).st.it.cell 2; have j3 := (HQ.out.al (.cells #[.int .i64 0, .int .i64 0, .int .i64 0] 36)).st.bn.cell 0; have j4 := (HQ.out.al (.cells #[.int .i64 0, .int .i64 0, .int .i64 0] 36)).st.bn.cell 1; have j5 := (HQ.out.al (.cells #[.int .i64 0, .int .i64 0, .int .i64 0] 36)).st.bn.cell 2; have j6 := (HQ.out.al (.cells #[.int .i64 0, .int .i64 0, .int .i64 0] 36)).st.bn.cell 3; have j7 := (HQ.out.al (.cells #[.int .i64 0, .int .i64 0, .int .i64 0] 36)).st.bn.cell 4
                go_region_with (go_at_call 7; refine (pRun_any B x y _ (by first | with_reducible exact HQ.out.dr.st.gp | with_reducible exact (HQ.out.al (.cells #[.int .i64 0, .int .i64 0, .int .i64 0] 36)).dr.st.gp)).mono ?_; rintro e w8 ⟨hb8, r, k, ho, rfl⟩; obtain ⟨rfl, rfl⟩ := out_none HBN.out ho; rw [show resA (0, 0, 0) = .agg #[.int .i64 0, .int .i64 0, .int .i64 0] from rfl]; (first | (have hb9 : Below w7.drew.heap.size w7.drew w8 := (by with_reducible exact hb8); replace HQ := Hid.mk2 (HQ.out.dr.below hb9); clear hb9) | (have hb9 : Below (w7.alloc (.cells #[.int .i64 0, .int .i64 0, .int .i64 0] 36)).drew.heap.size (w7.alloc (.cells #[.int .i64 0, .int .i64 0, .int .i64 0] 36)).drew w8 := (by with_reducible exact hb8); have hZ := (Blk.new w7 #[.int .i64 0, .int .i64 0, .int .i64 0] 36).drew.below hb9 (by simp); replace HQ := Hid.mk2 ((HQ.out.al (.cells #[.int .i64 0, .int .i64 0, .int .i64 0] 36)).dr.below hb9); clear hb9)); clear hb8 ho; try (have q0 := hZ.cell 0; have q1 := hZ.cell 1; have q2 := hZ.cell 2; have z0 := hZ.free 0; have z1 := hZ.free 1; have z2 := hZ.free 2))
                all_goals
                  go_wp2_with fail
                  go_meet
                  case rel => first | (have hZ1 := hZ; exact ⟨_, rfl, rfl, ((hZ.set 0 _).set 1 _).set 2 _, ((HQ.out.oth HG.out w7.heap.size 0 _ (by omega) (by omega) (by omega) (by omega) (by omega)).oth HG.out w7.heap.size 1 _ (by omega) (by omega) (by omega) (by omega) (by omega)).oth HG.out w7.heap.size 2 _ (by omega) (by omega) (by omega) (by omega) (by omega)⟩) | with_reducible exact ⟨_, rfl, rfl, Blk.new w8 _ _, HQ.out.al _⟩
              case rest =>
                obtain ⟨zb, rfl, rfl, hz, hq⟩ := hcut
                have z0 := hz.cell 0
                have z1 := hz.cell 1
                have z2 := hz.cell 2
                have HQ2 := Hid.mk2 hq
                clear hz hq HQ
                go_wp2
                go_roundw
                case rel => exact ⟨i + 1, by omega, by go_num, HQ2.out⟩
                case measure => simp [intOf]; omega
            · go_wp2
              go_ret
              exact ⟨HQ.out.st.bl, rfl⟩
end Go.Proofs.YtbdjcffmpbjjlaaDoor
