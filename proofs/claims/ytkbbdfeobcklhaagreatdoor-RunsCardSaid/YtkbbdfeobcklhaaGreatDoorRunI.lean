/-
  The program's machine runs an image: as its operations say.
-/
import Derived.Test.YtkbbdfeobcklhaaGreatDoorRunH
import Derived.Deep.LoopGhost
set_option linter.unusedVariables false
set_option linter.unusedSimpArgs false
namespace Go.Proofs.YtkbbdfeobcklhaaGreatDoor
open Go.RowKit

def resA (r : Nat × Int × Nat) : Value := .agg #[.int .i64 r.1, .int .i64 r.2.1, .int .i64 r.2.2]
/-- The program's run: still under way, or ended. -/
def MRel (s : ByteArray) (l : List Ins) (most : Nat) (G : Nat → Int) (x : Itm) (y : Bn) (w : World) (mb : Nat) (R : Nat × Int × Nat) (k : Nat) (wx : World) : Prop :=
  Below mb w wx ∧ ((∃ sv st p, MSt wx mb x y sv st p true R.1 R.2.1 R.2.2) ∨
    (∃ (sv : Value) (st : List Int) (p n f : Nat), MSt wx mb x y sv st p false 0 0 n ∧ AtStep s l most G p st ∧ n ≤ p ∧ R = runM s x y f p st n ∧ s.size < f + p ∧ k = s.size - p))
set_option maxHeartbeats 2000000 in
set_option maxRecDepth 100000 in
theorem machineRun_any (s : ByteArray) (hs : s.size ≤ 4000) (l : List Ins) (most : Nat) (hmost : most < 256) (G : Nat → Int) (hc : Chain s 3 l s.size) (hl : Lawful l most G) (h3 : 3 < s.size) (x : Itm) (y : Bn) (hxy : x.Ok ∧ y.Ok) (w : World) (hg : GlobP w) :
    Calls Tryz.prog 43 #[.string s, itmA x, bnA y] w fun e w' => Below w.heap.size w w' ∧ e = .returned (resA (runM s x y (s.size + 1) 3 [] 0)) := by
  have HG : Hid (GlobP w) := hg
  have HXY := Hid.mk2 hxy
  have HA0 := Hid.mk2 (AtStep.start hc hl h3)
  obtain ⟨R, hR⟩ : ∃ R, R = runM s x y (s.size + 1) 3 [] 0 := ⟨_, rfl⟩
  rw [← hR]
  have HR := Hid.mk2 hR
  clear hg hxy hR hc hl
  unfold itmA bnA
  go_enter Tryz.func43, Tryz.ntmps43
  go_wp2
  obtain ⟨W0, hW0⟩ : ∃ W0, W0 = (((w.alloc (.cells #[.int .i64 x.size, .int .i64 x.speed, .int .i64 x.need] 26)).alloc (.cells #[.int .i64 y.id, .int .i64 y.zone, .int .i64 y.cap, .int .i64 y.used, .int .i64 y.has] 28)).alloc (.cells #[.int .i64 0, .int .i64 0, .int .i64 0] 52)).alloc (.cells (mCells x y (.slice none 0 0) 3 false 0 0 0) 140) := ⟨_, rfl⟩
  have hM0 : MSt W0 (w.heap.size + 3) x y (.slice none 0 0) [] 3 false 0 0 0 := by
    refine ⟨?_, World.ownsRow_nil _ _ _ _⟩
    have := Blk.new (((w.alloc (.cells #[.int .i64 x.size, .int .i64 x.speed, .int .i64 x.need] 26)).alloc (.cells #[.int .i64 y.id, .int .i64 y.zone, .int .i64 y.cap, .int .i64 y.used, .int .i64 y.has] 28)).alloc (.cells #[.int .i64 0, .int .i64 0, .int .i64 0] 52)) (mCells x y (.slice none 0 0) 3 false 0 0 0) 140
    rw [← hW0] at this
    simpa using this
  have hB0 : Below w.heap.size w W0 := by
    rw [hW0]
    exact ((((Below.refl _ _).alloc (Nat.le_refl _) _).alloc (by simp) _).alloc (by simp; omega) _).alloc (by simp; omega) _
  have hR0 : Blk W0 (w.heap.size + 2) #[.int .i64 0, .int .i64 0, .int .i64 0] 52 := by
    have := (Blk.new ((w.alloc (.cells #[.int .i64 x.size, .int .i64 x.speed, .int .i64 x.need] 26)).alloc (.cells #[.int .i64 y.id, .int .i64 y.zone, .int .i64 y.cap, .int .i64 y.used, .int .i64 y.has] 28)) #[.int .i64 0, .int .i64 0, .int .i64 0] 52).alloc (.cells (mCells x y (.slice none 0 0) 3 false 0 0 0) 140)
    rw [← hW0] at this
    simpa using this
  have HW0 := Hid.mk2 hW0
  have HM0 := Hid.mk2 hM0
  have HB0 := Hid.mk2 hB0
  have HR0 := Hid.mk2 hR0
  have hsz0 : w.heap.size + 3 < W0.heap.size := hM0.lt
  clear hW0 hM0 hB0 hR0
  go_loopg [9] (s.size - 3) (fun k _ wx => MRel s l most G x y W0 (w.heap.size + 3) R k wx)
  case atStart => exact HW0.out ▸ ⟨Below.refl _ _, .inr ⟨_, [], 3, 0, s.size + 1, HM0.out, HA0.out, by omega, HR.out, by omega, rfl⟩⟩
  case round =>
    obtain ⟨hbl, hor⟩ := hrel
    rcases hor with ⟨sv, st, p, hm⟩ | ⟨sv, st, p, n, f, hm, hat, hnp, hrun, hfp, hk⟩
    · have c10 := hm.c10
      have c11 := hm.c11
      have c12 := hm.c12
      have c13 := hm.c13
      have r0 : wr.cell? ⟨w.heap.size + 2, 0, none⟩ = some (.int .i64 0) := (hbl.cell (p := ⟨w.heap.size + 2, 0, none⟩) (by simp)).trans (HR0.out.cell 0)
      have r1 : wr.cell? ⟨w.heap.size + 2, 1, none⟩ = some (.int .i64 0) := (hbl.cell (p := ⟨w.heap.size + 2, 1, none⟩) (by simp)).trans (HR0.out.cell 1)
      have r2 : wr.cell? ⟨w.heap.size + 2, 2, none⟩ = some (.int .i64 0) := (hbl.cell (p := ⟨w.heap.size + 2, 2, none⟩) (by simp)).trans (HR0.out.cell 2)
      have f0 : wr.frozen? ⟨w.heap.size + 2, 0, none⟩ = false := (hbl.frozen (p := ⟨w.heap.size + 2, 0, none⟩) (by simp)).trans (HR0.out.free 0)
      have f1 : wr.frozen? ⟨w.heap.size + 2, 1, none⟩ = false := (hbl.frozen (p := ⟨w.heap.size + 2, 1, none⟩) (by simp)).trans (HR0.out.free 1)
      have f2 : wr.frozen? ⟨w.heap.size + 2, 2, none⟩ = false := (hbl.frozen (p := ⟨w.heap.size + 2, 2, none⟩) (by simp)).trans (HR0.out.free 2)
      clear hm
      go_wp2
      refine bodyPost_ret (v := .agg #[.int .i64 R.1, .int .i64 R.2.1, .int .i64 R.2.2]) (by simp [results, Tryz.results43, go_sem, r0, r1, r2]) rfl ⟨?_, rfl⟩
      exact HB0.out.trans ((((hbl.mono (by omega)).setCell (p := ⟨w.heap.size + 2, 0, none⟩) (by simp) _).setCell (p := ⟨w.heap.size + 2, 1, none⟩) (by simp) _).setCell (p := ⟨w.heap.size + 2, 2, none⟩) (by simp) _)
    · have c9 := hm.c9
      have c10 := hm.c10
      have HM := Hid.mk2 hm
      have HOK := Hid.mk2 hat.ok
      have HAT := Hid.mk2 hat
      have HRun := Hid.mk2 hrun
      obtain ⟨c, hc⟩ : ∃ c, c = bt s p := ⟨_, rfl⟩
      obtain ⟨a, ha⟩ : ∃ a, a = (mkIns s p).arg := ⟨_, rfl⟩
      obtain ⟨nx, hnx⟩ : ∃ nx, nx = (mkIns s p).next := ⟨_, rfl⟩
      have HMk : Hid (mkIns s p = ⟨p, c, a, nx⟩) := (by rw [hc, ha, hnx]; rfl : mkIns s p = ⟨p, c, a, nx⟩)
      have HOV : Hid (opV (mkIns s p) = .agg #[.int .i64 c, .int .i64 a, .int .i64 nx]) := (by rw [hc, ha, hnx]; rfl : _ = _)
      have h17 : c ≤ 17 := by rw [hc]; exact hat.ok.2.1
      have hfit : nx ≤ s.size := by rw [hnx]; exact hat.ok.2.2.1
      have hps : p < s.size := hat.ok.1
      have hja : c = 13 ∨ c = 14 ∨ c = 15 → 0 ≤ a ∧ a ≤ 65535 := by
        intro h
        have h1 := jump_arg s p (by rw [hc] at h; exact h)
        have := lowU_two s (p + 1)
        omega
      have HT : Hid (takesN c ≤ st.length) := (by rw [hc]; exact hat.tall : takesN c ≤ st.length)
      have hstl : st.length ≤ 3000 := by have := hat.most_le; omega
      have HN := Hid.mk2 hat.nums
      have HAI : Hid (In64 a) := (by rw [ha]; exact in_wrap _ : In64 a)
      have hblw : Below w.heap.size w wr := HB0.out.trans (hbl.mono (by omega))
      have hmlt : w.heap.size + 3 < wr.heap.size := hm.lt
      have HJA := Hid.mk2 hja
      clear hm hat hrun hc ha hnx hja
      have hja := HJA.out
      obtain ⟨f', rfl⟩ : ∃ f', f = f' + 1 := ⟨f - 1, by omega⟩
      rcases hst : stepM x y (mkIns s p) st with ⟨kk, vv⟩ | ⟨p', st'⟩
      · have HST := Hid.mk2 hst
        have HE : Hid (R = (kk, vv, n + 1)) := (by rw [HRun.out]; exact runM_end hst : R = (kk, vv, n + 1))
        clear hst
        go_wp2_with (first | (go_at_call 81; refine (At_any s hs p (by omega) _ (HG.out.below hblw)).mono ?_; rintro e w1 ⟨hb1, hor⟩; obtain ⟨_, rfl⟩ := hor.resolve_right (fun h => h.1 HOK.out); rw [HOV.out]; have HM1 := Hid.mk2 ((HM.out.below hb1).below (box3 w1 (.cells #[.int .i64 c, .int .i64 a, .int .i64 nx] 142)))) | (go_at_call 82; refine (do_any p c a nx h17 ⟨by omega, by omega⟩ (by omega) hja HT.out hstl HN.out HAI.out HXY.out HM1.out).mono ?_; rintro e w2 ⟨rfl, hb2, hres⟩; rw [← HMk.out, HST.out] at hres))
        go_roundg 0
        case measure => omega
        case rel => exact ⟨(hbl.trans ((hb1.mono (by omega)).trans ((Below.refl _ w1).alloc (by have := hb1.size; omega) _))).trans hb2, .inl (by rw [HE.out]; exact hres)⟩
      · have HST := Hid.mk2 hst
        have HGo := Hid.mk2 (HAT.out.go HXY.out.1 HXY.out.2 hst)
        have HE : Hid (R = runM s x y f' p' st' (n + 1)) := (by rw [HRun.out]; exact runM_go hst : R = runM s x y f' p' st' (n + 1))
        clear hst
        go_wp2_with (first | (go_at_call 81; refine (At_any s hs p (by omega) _ (HG.out.below hblw)).mono ?_; rintro e w1 ⟨hb1, hor⟩; obtain ⟨_, rfl⟩ := hor.resolve_right (fun h => h.1 HOK.out); rw [HOV.out]; have HM1 := Hid.mk2 ((HM.out.below hb1).below (box3 w1 (.cells #[.int .i64 c, .int .i64 a, .int .i64 nx] 142)))) | (go_at_call 82; refine (do_any p c a nx h17 ⟨by omega, by omega⟩ (by omega) hja HT.out hstl HN.out HAI.out HXY.out HM1.out).mono ?_; rintro e w2 ⟨rfl, hb2, hres⟩; rw [← HMk.out, HST.out] at hres))
        go_roundg (s.size - p')
        case measure => have := HGo.out.2; omega
        case rel =>
          obtain ⟨sv', hm'⟩ := hres
          have hlt := HGo.out.2
          exact ⟨(hbl.trans ((hb1.mono (by omega)).trans ((Below.refl _ w1).alloc (by have := hb1.size; omega) _))).trans hb2, .inr ⟨sv', st', p', n + 1, f', by push_cast; exact hm', HGo.out.1, by omega, HE.out, by omega, rfl⟩⟩
end Go.Proofs.YtkbbdfeobcklhaaGreatDoor
