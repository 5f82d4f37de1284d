/-
  Images of known making: an operation of two numbers.
-/
import Derived.Test.YtbdjcffmpbjjlaaDoorKeepJ
import Derived.Deep.DeepCutAuto
import Derived.Deep.RegionWith
set_option linter.unusedVariables false
set_option linter.unusedSimpArgs false
namespace Go.Proofs.YtbdjcffmpbjjlaaDoor
open Go.RowKit

theorem Trio.five {w wx : World} {a0 a1 a2 a3 a4 b0 b1 b2 b3 b4 : Value} {c3 : Array Value} (h : Trio w wx #[a0, a1, a2, a3, a4] #[b0, b1, b2, b3, b4] c3) :
    wx.cell? ⟨w.heap.size, 0, none⟩ = some a0 ∧ wx.cell? ⟨w.heap.size, 2, none⟩ = some a2 ∧ wx.cell? ⟨w.heap.size, 3, none⟩ = some a3 ∧ wx.cell? ⟨w.heap.size, 4, none⟩ = some a4 ∧ wx.cell? ⟨w.heap.size + 1, 0, none⟩ = some b0 :=
  ⟨h.box.cell 0, h.box.cell 2, h.box.cell 3, h.box.cell 4, h.res.cell 0⟩
theorem below_five {B : Nat} {w wx : World} (h : Below B w wx) (b : Nat) (hb : B ≤ b) (a0 a1 a2 a3 a4 : Value) : Below B w (((((wx.setCell ⟨b, 0, none⟩ a0).setCell ⟨b, 1, none⟩ a1).setCell ⟨b, 2, none⟩ a2).setCell ⟨b, 3, none⟩ a3).setCell ⟨b, 4, none⟩ a4) :=
  ((((h.setCell (p := ⟨b, 0, none⟩) hb a0).setCell (p := ⟨b, 1, none⟩) hb a1).setCell (p := ⟨b, 2, none⟩) hb a2).setCell (p := ⟨b, 3, none⟩) hb a3).setCell (p := ⟨b, 4, none⟩) hb a4
theorem below_new5 (w : World) (o : Obj) (a0 a1 a2 a3 a4 : Value) : Below w.heap.size w ((((((w.alloc o).setCell ⟨w.heap.size, 0, none⟩ a0).setCell ⟨w.heap.size, 1, none⟩ a1).setCell ⟨w.heap.size, 2, none⟩ a2).setCell ⟨w.heap.size, 3, none⟩ a3).setCell ⟨w.heap.size, 4, none⟩ a4) :=
  below_five ((Below.refl _ w).alloc (Nat.le_refl _) o) _ (Nat.le_refl _) a0 a1 a2 a3 a4
theorem Trio.farther {w wx : World} {c1 c2 c3 : Array Value} (h : Trio w wx c1 c2 c3) (b i : Nat) (v : Value) (hb : w.heap.size + 1 + 1 < b) : Trio w (wx.setCell ⟨b, i, none⟩ v) c1 c2 c3 :=
  ⟨h.box.other _ _ (by simp only; omega), h.res.other _ _ (by simp only; omega), h.rr.other _ _ (by simp only; omega), h.bl.setCell (p := ⟨b, i, none⟩) (by simp only; omega) v⟩
theorem Trio.set5 {w wx : World} {c1 c2 c3 : Array Value} (h : Trio w wx c1 c2 c3) (b : Nat) (hb : w.heap.size + 1 + 1 < b) (a0 a1 a2 a3 a4 : Value) : Trio w (((((wx.setCell ⟨b, 0, none⟩ a0).setCell ⟨b, 1, none⟩ a1).setCell ⟨b, 2, none⟩ a2).setCell ⟨b, 3, none⟩ a3).setCell ⟨b, 4, none⟩ a4) c1 c2 c3 :=
  ((((h.farther b 0 a0 hb).farther b 1 a1 hb).farther b 2 a2 hb).farther b 3 a3 hb).farther b 4 a4 hb
/-- Three blocks of the call's own and a fourth, farther on. -/
structure Four (w wx : World) (rb : Nat) (c1 c2 c3 c4 : Array Value) : Prop where
  tr : Trio w wx c1 c2 c3
  rr : Blk wx rb c4 29
  far : w.heap.size + 1 + 1 < rb
theorem Four.setR {w wx : World} {rb : Nat} {c1 c2 c3 c4 : Array Value} (h : Four w wx rb c1 c2 c3 c4) (i : Nat) (v : Value) : Four w (wx.setCell ⟨rb, i, none⟩ v) rb c1 c2 c3 (c4.setIfInBounds i v) :=
  ⟨h.tr.farther rb i v h.far, h.rr.set i v, h.far⟩
theorem Four.below {w wx w' : World} {rb : Nat} {c1 c2 c3 c4 : Array Value} (h : Four w wx rb c1 c2 c3 c4) (hb : Below wx.heap.size wx w') : Four w w' rb c1 c2 c3 c4 :=
  ⟨h.tr.below hb, h.rr.below hb h.rr.lt, h.far⟩
/-- The end: the five cells of what goes out. -/
def fin3 (w wx : World) (a b c d e : Value) : World :=
  ((((wx.setCell ⟨w.heap.size + 1 + 1, 0, none⟩ a).setCell ⟨w.heap.size + 1 + 1, 1, none⟩ b).setCell ⟨w.heap.size + 1 + 1, 2, none⟩ c).setCell ⟨w.heap.size + 1 + 1, 3, none⟩ d).setCell ⟨w.heap.size + 1 + 1, 4, none⟩ e
theorem Four.fin {w wx : World} {rb : Nat} {c1 c2 c4 : Array Value} {z0 z1 z2 z3 z4 : Value} (h : Four w wx rb c1 c2 #[z0, z1, z2, z3, z4] c4) (a b c d e : Value) : Blk (fin3 w wx a b c d e) (w.heap.size + 1 + 1) #[a, b, c, d, e] 29 ∧ Below w.heap.size w (fin3 w wx a b c d e) := by
  have g := ((((h.tr.setR 0 a).setR 1 b).setR 2 c).setR 3 d).setR 4 e
  exact ⟨g.rr, g.bl⟩
theorem two_fit {x : Itm} {y : Bn} {p q r : PB} {L H n : Nat} (hp : p.Fit x y L H) (hq : q.Fit x y L H) (hr : r.Ok x y) (hc : r.code = p.code ++ q.code ++ [n]) (hs : r.steps ≤ p.steps + q.steps + 1) (hh : r.high = maxN p.high (q.high + 1)) (hn : n < 256 := by omega) : r.Fit x y (2 * L + 1) (H + 1) := by
  have h1 := hp.len
  have h2 := hp.steps
  have h3 := hp.high
  have g1 := hq.len
  have g2 := hq.steps
  have g3 := hq.high
  refine ⟨hr, by rw [hc]; simp; omega, by rw [hc]; simp; omega, by omega, ?_, fun c hm => ?_⟩
  · rw [hh]; unfold maxN; split <;> omega
  · rw [hc] at hm
    rcases List.mem_append.1 hm with h | h
    · exact (List.mem_append.1 h).elim (hp.small c) (hq.small c)
    · simp at h; omega
/-- Every cell of the four blocks, as rules. -/
theorem Four.out {w wx : World} {rb : Nat} {c1 c2 c3 c4 : Array Value} (h : Four w wx rb c1 c2 c3 c4) : (∀ i, wx.cell? ⟨w.heap.size, i, none⟩ = c1[i]?) ∧ (∀ i, wx.cell? ⟨w.heap.size + 1, i, none⟩ = c2[i]?) ∧ (∀ i, wx.cell? ⟨w.heap.size + 1 + 1, i, none⟩ = c3[i]?) ∧ (∀ i, wx.cell? ⟨rb, i, none⟩ = c4[i]?) ∧ (∀ i, wx.frozen? ⟨w.heap.size + 1 + 1, i, none⟩ = false) ∧ (∀ i, wx.frozen? ⟨rb, i, none⟩ = false) :=
  ⟨fun i => h.tr.box.cell i, fun i => h.tr.res.cell i, fun i => h.tr.rr.cell i, fun i => h.rr.cell i, fun i => h.tr.rr.free i, fun i => h.rr.free i⟩
theorem Four.nes {w wx : World} {rb : Nat} {c1 c2 c3 c4 : Array Value} (h : Four w wx rb c1 c2 c3 c4) : rb ≠ w.heap.size ∧ rb ≠ w.heap.size + 1 ∧ rb ≠ w.heap.size + 1 + 1 ∧ w.heap.size ≠ rb ∧ w.heap.size + 1 ≠ rb ∧ w.heap.size + 1 + 1 ≠ rb := by
  have := h.far
  omega
set_option maxHeartbeats 60000000 in
set_option maxRecDepth 100000 in
theorem two_any (x : Itm) (y : Bn) (p q : PB) (L H n : Nat) (hp : p.Fit x y L H) (hq : q.Fit x y L H) (hL : L ≤ 1000) (hH : H ≤ 1000) (hn : 4 ≤ n ∧ n ≤ 12) (w : World) :
    Calls Tryd.prog 15 #[.int .i64 n, blkV p, blkV q] w fun e w' => Below w.heap.size w w' ∧ ∃ r : PB, r.Fit x y (2 * L + 1) (H + 1) ∧ e = .returned (blkV r) := by
  have HP := Hid.mk2 hp
  have HQ := Hid.mk2 hq
  have p1 := hp.len
  have p2 := hp.steps
  have p3 := hp.high
  have p4 := hp.ok.le2
  have q1 := hq.len
  have q2 := hq.steps
  have q3 := hq.high
  have q4 := hq.ok.le2
  clear hp hq
  obtain ⟨pc, pv, pf, ps, ph⟩ := p
  obtain ⟨qc, qv, qf, qs, qh⟩ := q
  unfold blkV
  simp only at p1 p2 p3 p4 q1 q2 q3 q4 ⊢
  obtain ⟨c1, hc1⟩ : ∃ c1, c1 = bsN pc := ⟨_, rfl⟩
  obtain ⟨c2, hc2⟩ : ∃ c2, c2 = bsN qc := ⟨_, rfl⟩
  have zz : (9223372036854775807 < c1.size + c2.size) = False := by rw [hc1, hc2, bsN_size, bsN_size]; simp; omega
  have zx : (9223372036854775807 < c1.size + c2.size + (bsN [n]).size) = False := by rw [hc1, hc2, bsN_size, bsN_size, bsN_size]; simp; omega
  have HC : Hid (c1 ++ c2 ++ bsN [n] = bsN (pc ++ qc ++ [n])) := by rw [Hid, hc1, hc2, bsN_append, bsN_append]
  have hN : n < 256 := by omega
  rw [← hc1, ← hc2]
  clear hc1 hc2
  go_enter Tryd.func15, Tryd.ntmps15
  go_upto_region 1 with fail
  have HT := Hid.mk2 (trio_start w #[.string c1, .int .i64 pv, .int .i64 pf, .int .i64 ps, .int .i64 ph] #[.string c2, .int .i64 qv, .int .i64 qf, .int .i64 qs, .int .i64 qh] #[.string { data := #[] }, .int .i64 0, .int .i64 0, .int .i64 0, .int .i64 0])
  go_cut [7] (fun s7 wx => ∃ rb : Nat, s7 = .pointer (some ⟨rb, 0, none⟩) ∧ Four w wx rb #[.string c1, .int .i64 pv, .int .i64 pf, .int .i64 ps, .int .i64 ph] #[.string c2, .int .i64 qv, .int .i64 qf, .int .i64 qs, .int .i64 qh] #[.string { data := #[] }, .int .i64 0, .int .i64 0, .int .i64 0, .int .i64 0] #[.string (c1 ++ c2 ++ bsN [n]), .int .i64 0, .int .i64 pf, .int .i64 ps, .int .i64 ph])
  case first =>
    go_region_held3 (fun w' => w'.cell? ⟨w.heap.size, 0, none⟩ = some (.string c1) ∧ w'.cell? ⟨w.heap.size, 2, none⟩ = some (.int .i64 pf) ∧ w'.cell? ⟨w.heap.size, 3, none⟩ = some (.int .i64 ps) ∧ w'.cell? ⟨w.heap.size, 4, none⟩ = some (.int .i64 ph) ∧ w'.cell? ⟨w.heap.size + 1, 0, none⟩ = some (.string c2)) (first | with_reducible exact HT.out.drew.five | with_reducible exact HT.out.five | with_reducible exact (HT.out.below (box3 _ _)).drew.five | with_reducible exact (HT.out.below (box3 _ _)).five | with_reducible exact (HT.out.below (below_new5 _ _ _ _ _ _ _)).five | with_reducible exact (HT.out.set5 _ (by omega) _ _ _ _ _).five) (first | (go_at_call 6; refine (op_any n hN _).mono ?_; rintro e w1 ⟨rfl, hb1⟩; replace HT := Hid.mk2 (HT.out.drew.below hb1); clear hb1) | (go_at_call 6; refine (op_any n hN _).mono ?_; rintro e w1 ⟨rfl, hb1⟩; have hR := (Blk.new _ _ _).drew.below hb1 (by simp); simp at hR; have r0 := hR.cell 0; have r1 := hR.cell 1; have r2 := hR.cell 2; have r3 := hR.cell 3; have r4 := hR.cell 4; have f0 := hR.free 0; have f1 := hR.free 1; have f2 := hR.free 2; have f3 := hR.free 3; have f4 := hR.free 4; have HR := Hid.mk2 hR; clear hR; replace HT := Hid.mk2 ((HT.out.drew.below (box3 _ _)).below hb1); clear hb1))
    · have HF := Four.mk (HT.out.below (box3 _ (Obj.cells #[.string (c1 ++ c2 ++ bsN [n]), .int .i64 0, .int .i64 pf, .int .i64 ps, .int .i64 ph] 29))) (Blk.new w1 _ _) (Nat.lt_of_lt_of_le HT.out.rr.lt (Nat.le_refl _))
      go_wp2_with fail
      go_meet
      case rel => exact ⟨_, rfl, HF⟩
    · have HF := Four.mk (HT.out.set5 (w.heap.size + 1 + 1 + 1) (by omega) (.string (c1 ++ c2 ++ bsN [n])) (.int .i64 0) (.int .i64 pf) (.int .i64 ps) (.int .i64 ph)) (((((HR.out.set 0 (.string (c1 ++ c2 ++ bsN [n]))).set 1 (.int .i64 0)).set 2 (.int .i64 pf)).set 3 (.int .i64 ps)).set 4 (.int .i64 ph)) (by omega)
      simp only [List.setIfInBounds_toArray, List.set_cons_zero, List.set_cons_succ] at HF
      go_wp2_with fail
      go_meet
      case rel => exact ⟨_, rfl, HF⟩
  case rest =>
    obtain ⟨rb, rfl, hF⟩ := hcut
    clear HT
    have HF := Hid.mk2 hF
    obtain ⟨k1, k2, k3, k4, k5, k6⟩ := hF.out
    obtain ⟨n0, n1, n2, m0, m1, m2⟩ := hF.nes
    clear hF
    go_upto_if 32 with fail
    go_cut [] (fun wx => Four w wx rb #[.string c1, .int .i64 pv, .int .i64 pf, .int .i64 ps, .int .i64 ph] #[.string c2, .int .i64 qv, .int .i64 qf, .int .i64 qs, .int .i64 qh] #[.string { data := #[] }, .int .i64 0, .int .i64 0, .int .i64 0, .int .i64 0] #[.string (c1 ++ c2 ++ bsN [n]), .int .i64 0, .int .i64 pf, .int .i64 ps, .int .i64 (maxN ph (qh + 1) : Nat)])
    case first =>
      by_cases hmx : qh + 1 ≤ ph
      · have hmx' : decide ((ph : Int) < (qh : Int) + 1) = false := by simp; omega
        have hM : Hid (maxN ph (qh + 1) = ph) := by rw [Hid, maxN, if_pos hmx]
        go_wp2
        all_goals trace_state
        go_meet
        case rel => rw [hM.out]; exact HF.out
      · have hmx' : decide ((ph : Int) < (qh : Int) + 1) = true := by simp; omega
        have hM : Hid (maxN ph (qh + 1) = qh + 1) := by rw [Hid, maxN, if_neg hmx]
        go_wp2
        go_meet
        case rel => rw [hM.out]; exact HF.out.setR 4 (.int .i64 ((qh + 1 : Nat) : Int))
    case rest =>
      -- the ends
      clear HF k1 k2 k3 k4 k5 k6
      have hF := hcut
      clear hcut
      have HF := Hid.mk2 hF
      have k1 := fun i => hF.tr.box.cell i
      have k2 := fun i => hF.tr.res.cell i
      have k3 := fun i => hF.tr.rr.cell i
      have k4 := fun i => hF.rr.cell i
      have k5 := fun i => hF.tr.rr.free i
      have k6 := fun i => hF.rr.free i
      clear hF
      have HK := Hid.mk2 (twoP_ok HP.out.ok HQ.out.ok hn)
      unfold twoP at HK
      generalize hmx : maxN ph (qh + 1) = mx at HF HK k4 ⊢
      have HM := Hid.mk2 hmx
      clear hmx
      by_cases hpf : pf = 0
      case neg =>
        have hpf' : ((pf : Int) != 0) = true := by simp; omega
        rw [if_pos hpf] at HK
        go_wp2
        obtain ⟨hfb, hbl⟩ := (HF.out).fin (.string (c1 ++ c2 ++ bsN [n])) (.int .i64 (0)) (.int .i64 ((pf : Int))) (.int .i64 ((ps : Int))) (.int .i64 (mx : Int))
        have g0 := hfb.cell 0
        have g1 := hfb.cell 1
        have g2 := hfb.cell 2
        have g3 := hfb.cell 3
        have g4 := hfb.cell 4
        unfold fin3 at g0 g1 g2 g3 g4 hbl
        refine bodyPost_ret (v := .agg #[.string (c1 ++ c2 ++ bsN [n]), .int .i64 (0), .int .i64 ((pf : Int)), .int .i64 ((ps : Int)), .int .i64 (mx : Int)]) (by simp [results, Tryd.results15, go_sem, g0, g1, g2, g3, g4]) rfl ⟨hbl, _, two_fit HP.out HQ.out HK.out rfl (by simp only; omega) HM.out.symm, by rw [HC.out] <;> rfl⟩
      rw [if_neg (by simpa using hpf)] at HK
      subst hpf
      by_cases hqf : qf = 0
      case neg =>
        have hqf' : ((qf : Int) != 0) = true := by simp; omega
        rw [if_pos hqf] at HK
        go_wp2
        obtain ⟨hfb, hbl⟩ := ((HF.out.setR 3 (.int .i64 ((ps : Int) + qs))).setR 2 (.int .i64 (qf : Int))).fin (.string (c1 ++ c2 ++ bsN [n])) (.int .i64 (0)) (.int .i64 ((qf : Int))) (.int .i64 ((ps : Int) + qs)) (.int .i64 (mx : Int))
        have g0 := hfb.cell 0
        have g1 := hfb.cell 1
        have g2 := hfb.cell 2
        have g3 := hfb.cell 3
        have g4 := hfb.cell 4
        unfold fin3 at g0 g1 g2 g3 g4 hbl
        refine bodyPost_ret (v := .agg #[.string (c1 ++ c2 ++ bsN [n]), .int .i64 (0), .int .i64 ((qf : Int)), .int .i64 ((ps : Int) + qs), .int .i64 (mx : Int)]) (by simp [results, Tryd.results15, go_sem, g0, g1, g2, g3, g4]) rfl ⟨hbl, _, two_fit HP.out HQ.out HK.out rfl (by simp only; omega) HM.out.symm, by rw [HC.out] <;> rfl⟩
      rw [if_neg (by simpa using hqf)] at HK
      subst hqf
      have hS3 := ((HF.out.setR 3 (.int .i64 ((ps : Int) + qs))).setR 2 (.int .i64 0)).setR 3 (.int .i64 ((ps : Int) + qs + 1))
      have HS3 := Hid.mk2 hS3
      simp only [List.setIfInBounds_toArray, List.set_cons_zero, List.set_cons_succ] at HS3
      clear hS3
      obtain rfl | rfl | rfl | rfl | rfl | rfl | rfl | rfl | rfl : n = 4 ∨ n = 5 ∨ n = 6 ∨ n = 7 ∨ n = 8 ∨ n = 9 ∨ n = 10 ∨ n = 11 ∨ n = 12 := by omega
      · obtain ⟨jr, hjr⟩ : ∃ jr, joinN 4 pv qv = jr := ⟨_, rfl⟩
        rw [hjr] at HK
        have HJ := Hid.mk2 hjr
        clear hjr
        obtain ⟨jv, jf⟩ := jr
        simp only at HK
        go_wp2
        have hSy := Four.below HS3.out (box3 _ (Obj.cells #[.string { data := #[43] }, .string { data := #[45] }, .string { data := #[42] }, .string { data := #[47] }, .string { data := #[37] }] 9))
        have hLs := Blk.new (((wc.setCell ⟨rb, 3, none⟩ (.int .i64 ((ps : Int) + qs))).setCell ⟨rb, 2, none⟩ (.int .i64 0)).setCell ⟨rb, 3, none⟩ (.int .i64 ((ps : Int) + qs + 1))) #[.string { data := #[43] }, .string { data := #[45] }, .string { data := #[42] }, .string { data := #[47] }, .string { data := #[37] }] 9
        rw [show (((wc.setCell ⟨rb, 3, none⟩ (.int .i64 ((ps : Int) + qs))).setCell ⟨rb, 2, none⟩ (.int .i64 0)).setCell ⟨rb, 3, none⟩ (.int .i64 ((ps : Int) + qs + 1))).heap.size = wc.heap.size from by simp] at hLs
        generalize (((wc.setCell ⟨rb, 3, none⟩ (.int .i64 ((ps : Int) + qs))).setCell ⟨rb, 2, none⟩ (.int .i64 0)).setCell ⟨rb, 3, none⟩ (.int .i64 ((ps : Int) + qs + 1))).alloc (Obj.cells #[.string { data := #[43] }, .string { data := #[45] }, .string { data := #[42] }, .string { data := #[47] }, .string { data := #[37] }] 9) = wy at hSy hLs ⊢
        generalize wc.heap.size = lb at hLs ⊢
        have HS := Hid.mk2 hSy
        have a1 := hSy.tr.box.cell 1
        have b1 := hSy.tr.res.cell 1
        have s1 := hLs.cell 0
        clear hSy hLs k1 k2 k3 k4 k5 k6
        simp only [List.getElem?_toArray, List.getElem?_cons_zero, List.getElem?_cons_succ] at a1 b1 s1
        have hcnt : ∀ wz : World, Calls Tryd.prog 23 #[.string { data := #[43] }, .int .i64 pv, .int .i64 qv] wz fun e w' => e = .returned (.tuple #[.int .i64 jv, .int .i64 (jf : Int)]) ∧ Below wz.heap.size wz w' := fun wz => by have h := counted_any 4 (by omega) pv qv HP.out.ok.num HQ.out.ok.num wz; rw [HJ.out] at h; exact h
        have HCN := Hid.mk2 hcnt
        clear hcnt
        go_region_with ((go_at_call 23; refine (HCN.out _).mono ?_; rintro e w5 ⟨rfl, hb5⟩; replace HS := Hid.mk2 (Four.below (Four.below HS.out (below_drewN (Below.refl _ _) 1)) hb5); clear hb5; have k1 := HS.out.tr.rr.cell; have k2 := HS.out.rr.cell; have k3 := HS.out.tr.rr.free; have k4 := HS.out.rr.free))
        all_goals
          go_wp2
          obtain ⟨hfb, hbl⟩ := ((HS.out.setR 1 (.int .i64 jv)).setR 2 (.int .i64 (jf : Int))).fin (.string (c1 ++ c2 ++ bsN [4])) (.int .i64 (jv)) (.int .i64 ((jf : Int))) (.int .i64 ((ps : Int) + qs + 1)) (.int .i64 (mx : Int))
          have g0 := hfb.cell 0
          have g1 := hfb.cell 1
          have g2 := hfb.cell 2
          have g3 := hfb.cell 3
          have g4 := hfb.cell 4
          unfold fin3 at g0 g1 g2 g3 g4 hbl
          refine bodyPost_ret (v := .agg #[.string (c1 ++ c2 ++ bsN [4]), .int .i64 (jv), .int .i64 ((jf : Int)), .int .i64 ((ps : Int) + qs + 1), .int .i64 (mx : Int)]) (by simp [results, Tryd.results15, go_sem, g0, g1, g2, g3, g4]) rfl ⟨hbl, _, two_fit HP.out HQ.out HK.out rfl (by simp only; omega) HM.out.symm, by rw [HC.out] <;> rfl⟩
      · obtain ⟨jr, hjr⟩ : ∃ jr, joinN 5 pv qv = jr := ⟨_, rfl⟩
        rw [hjr] at HK
        have HJ := Hid.mk2 hjr
        clear hjr
        obtain ⟨jv, jf⟩ := jr
        simp only at HK
        go_wp2
        have hSy := Four.below HS3.out (box3 _ (Obj.cells #[.string { data := #[43] }, .string { data := #[45] }, .string { data := #[42] }, .string { data := #[47] }, .string { data := #[37] }] 9))
        have hLs := Blk.new (((wc.setCell ⟨rb, 3, none⟩ (.int .i64 ((ps : Int) + qs))).setCell ⟨rb, 2, none⟩ (.int .i64 0)).setCell ⟨rb, 3, none⟩ (.int .i64 ((ps : Int) + qs + 1))) #[.string { data := #[43] }, .string { data := #[45] }, .string { data := #[42] }, .string { data := #[47] }, .string { data := #[37] }] 9
        rw [show (((wc.setCell ⟨rb, 3, none⟩ (.int .i64 ((ps : Int) + qs))).setCell ⟨rb, 2, none⟩ (.int .i64 0)).setCell ⟨rb, 3, none⟩ (.int .i64 ((ps : Int) + qs + 1))).heap.size = wc.heap.size from by simp] at hLs
        generalize (((wc.setCell ⟨rb, 3, none⟩ (.int .i64 ((ps : Int) + qs))).setCell ⟨rb, 2, none⟩ (.int .i64 0)).setCell ⟨rb, 3, none⟩ (.int .i64 ((ps : Int) + qs + 1))).alloc (Obj.cells #[.string { data := #[43] }, .string { data := #[45] }, .string { data := #[42] }, .string { data := #[47] }, .string { data := #[37] }] 9) = wy at hSy hLs ⊢
        generalize wc.heap.size = lb at hLs ⊢
        have HS := Hid.mk2 hSy
        have a1 := hSy.tr.box.cell 1
        have b1 := hSy.tr.res.cell 1
        have s1 := hLs.cell 1
        clear hSy hLs k1 k2 k3 k4 k5 k6
        simp only [List.getElem?_toArray, List.getElem?_cons_zero, List.getElem?_cons_succ] at a1 b1 s1
        have hcnt : ∀ wz : World, Calls Tryd.prog 23 #[.string { data := #[45] }, .int .i64 pv, .int .i64 qv] wz fun e w' => e = .returned (.tuple #[.int .i64 jv, .int .i64 (jf : Int)]) ∧ Below wz.heap.size wz w' := fun wz => by have h := counted_any 5 (by omega) pv qv HP.out.ok.num HQ.out.ok.num wz; rw [HJ.out] at h; exact h
        have HCN := Hid.mk2 hcnt
        clear hcnt
        go_region_with ((go_at_call 23; refine (HCN.out _).mono ?_; rintro e w5 ⟨rfl, hb5⟩; replace HS := Hid.mk2 (Four.below (Four.below HS.out (below_drewN (Below.refl _ _) 1)) hb5); clear hb5; have k1 := HS.out.tr.rr.cell; have k2 := HS.out.rr.cell; have k3 := HS.out.tr.rr.free; have k4 := HS.out.rr.free))
        all_goals
          go_wp2
          obtain ⟨hfb, hbl⟩ := ((HS.out.setR 1 (.int .i64 jv)).setR 2 (.int .i64 (jf : Int))).fin (.string (c1 ++ c2 ++ bsN [5])) (.int .i64 (jv)) (.int .i64 ((jf : Int))) (.int .i64 ((ps : Int) + qs + 1)) (.int .i64 (mx : Int))
          have g0 := hfb.cell 0
          have g1 := hfb.cell 1
          have g2 := hfb.cell 2
          have g3 := hfb.cell 3
          have g4 := hfb.cell 4
          unfold fin3 at g0 g1 g2 g3 g4 hbl
          refine bodyPost_ret (v := .agg #[.string (c1 ++ c2 ++ bsN [5]), .int .i64 (jv), .int .i64 ((jf : Int)), .int .i64 ((ps : Int) + qs + 1), .int .i64 (mx : Int)]) (by simp [results, Tryd.results15, go_sem, g0, g1, g2, g3, g4]) rfl ⟨hbl, _, two_fit HP.out HQ.out HK.out rfl (by simp only; omega) HM.out.symm, by rw [HC.out] <;> rfl⟩
      · obtain ⟨jr, hjr⟩ : ∃ jr, joinN 6 pv qv = jr := ⟨_, rfl⟩
        rw [hjr] at HK
        have HJ := Hid.mk2 hjr
        clear hjr
        obtain ⟨jv, jf⟩ := jr
        simp only at HK
        go_wp2
        have hSy := Four.below HS3.out (box3 _ (Obj.cells #[.string { data := #[43] }, .string { data := #[45] }, .string { data := #[42] }, .string { data := #[47] }, .string { data := #[37] }] 9))
        have hLs := Blk.new (((wc.setCell ⟨rb, 3, none⟩ (.int .i64 ((ps : Int) + qs))).setCell ⟨rb, 2, none⟩ (.int .i64 0)).setCell ⟨rb, 3, none⟩ (.int .i64 ((ps : Int) + qs + 1))) #[.string { data := #[43] }, .string { data := #[45] }, .string { data := #[42] }, .string { data := #[47] }, .string { data := #[37] }] 9
        rw [show (((wc.setCell ⟨rb, 3, none⟩ (.int .i64 ((ps : Int) + qs))).setCell ⟨rb, 2, none⟩ (.int .i64 0)).setCell ⟨rb, 3, none⟩ (.int .i64 ((ps : Int) + qs + 1))).heap.size = wc.heap.size from by simp] at hLs
        generalize (((wc.setCell ⟨rb, 3, none⟩ (.int .i64 ((ps : Int) + qs))).setCell ⟨rb, 2, none⟩ (.int .i64 0)).setCell ⟨rb, 3, none⟩ (.int .i64 ((ps : Int) + qs + 1))).alloc (Obj.cells #[.string { data := #[43] }, .string { data := #[45] }, .string { data := #[42] }, .string { data := #[47] }, .string { data := #[37] }] 9) = wy at hSy hLs ⊢
        generalize wc.heap.size = lb at hLs ⊢
        have HS := Hid.mk2 hSy
        have a1 := hSy.tr.box.cell 1
        have b1 := hSy.tr.res.cell 1
        have s1 := hLs.cell 2
        clear hSy hLs k1 k2 k3 k4 k5 k6
        simp only [List.getElem?_toArray, List.getElem?_cons_zero, List.getElem?_cons_succ] at a1 b1 s1
        have hcnt : ∀ wz : World, Calls Tryd.prog 23 #[.string { data := #[42] }, .int .i64 pv, .int .i64 qv] wz fun e w' => e = .returned (.tuple #[.int .i64 jv, .int .i64 (jf : Int)]) ∧ Below wz.heap.size wz w' := fun wz => by have h := counted_any 6 (by omega) pv qv HP.out.ok.num HQ.out.ok.num wz; rw [HJ.out] at h; exact h
        have HCN := Hid.mk2 hcnt
        clear hcnt
        go_region_with ((go_at_call 23; refine (HCN.out _).mono ?_; rintro e w5 ⟨rfl, hb5⟩; replace HS := Hid.mk2 (Four.below (Four.below HS.out (below_drewN (Below.refl _ _) 1)) hb5); clear hb5; have k1 := HS.out.tr.rr.cell; have k2 := HS.out.rr.cell; have k3 := HS.out.tr.rr.free; have k4 := HS.out.rr.free))
        all_goals
          go_wp2
          obtain ⟨hfb, hbl⟩ := ((HS.out.setR 1 (.int .i64 jv)).setR 2 (.int .i64 (jf : Int))).fin (.string (c1 ++ c2 ++ bsN [6])) (.int .i64 (jv)) (.int .i64 ((jf : Int))) (.int .i64 ((ps : Int) + qs + 1)) (.int .i64 (mx : Int))
          have g0 := hfb.cell 0
          have g1 := hfb.cell 1
          have g2 := hfb.cell 2
          have g3 := hfb.cell 3
          have g4 := hfb.cell 4
          unfold fin3 at g0 g1 g2 g3 g4 hbl
          refine bodyPost_ret (v := .agg #[.string (c1 ++ c2 ++ bsN [6]), .int .i64 (jv), .int .i64 ((jf : Int)), .int .i64 ((ps : Int) + qs + 1), .int .i64 (mx : Int)]) (by simp [results, Tryd.results15, go_sem, g0, g1, g2, g3, g4]) rfl ⟨hbl, _, two_fit HP.out HQ.out HK.out rfl (by simp only; omega) HM.out.symm, by rw [HC.out] <;> rfl⟩
      · obtain ⟨jr, hjr⟩ : ∃ jr, joinN 7 pv qv = jr := ⟨_, rfl⟩
        rw [hjr] at HK
        have HJ := Hid.mk2 hjr
        clear hjr
        obtain ⟨jv, jf⟩ := jr
        simp only at HK
        go_wp2
        have hSy := Four.below HS3.out (box3 _ (Obj.cells #[.string { data := #[43] }, .string { data := #[45] }, .string { data := #[42] }, .string { data := #[47] }, .string { data := #[37] }] 9))
        have hLs := Blk.new (((wc.setCell ⟨rb, 3, none⟩ (.int .i64 ((ps : Int) + qs))).setCell ⟨rb, 2, none⟩ (.int .i64 0)).setCell ⟨rb, 3, none⟩ (.int .i64 ((ps : Int) + qs + 1))) #[.string { data := #[43] }, .string { data := #[45] }, .string { data := #[42] }, .string { data := #[47] }, .string { data := #[37] }] 9
        rw [show (((wc.setCell ⟨rb, 3, none⟩ (.int .i64 ((ps : Int) + qs))).setCell ⟨rb, 2, none⟩ (.int .i64 0)).setCell ⟨rb, 3, none⟩ (.int .i64 ((ps : Int) + qs + 1))).heap.size = wc.heap.size from by simp] at hLs
        generalize (((wc.setCell ⟨rb, 3, none⟩ (.int .i64 ((ps : Int) + qs))).setCell ⟨rb, 2, none⟩ (.int .i64 0)).setCell ⟨rb, 3, none⟩ (.int .i64 ((ps : Int) + qs + 1))).alloc (Obj.cells #[.string { data := #[43] }, .string { data := #[45] }, .string { data := #[42] }, .string { data := #[47] }, .string { data := #[37] }] 9) = wy at hSy hLs ⊢
        generalize wc.heap.size = lb at hLs ⊢
        have HS := Hid.mk2 hSy
        have a1 := hSy.tr.box.cell 1
        have b1 := hSy.tr.res.cell 1
        have s1 := hLs.cell 3
        clear hSy hLs k1 k2 k3 k4 k5 k6
        simp only [List.getElem?_toArray, List.getElem?_cons_zero, List.getElem?_cons_succ] at a1 b1 s1
        have hcnt : ∀ wz : World, Calls Tryd.prog 23 #[.string { data := #[47] }, .int .i64 pv, .int .i64 qv] wz fun e w' => e = .returned (.tuple #[.int .i64 jv, .int .i64 (jf : Int)]) ∧ Below wz.heap.size wz w' := fun wz => by have h := counted_any 7 (by omega) pv qv HP.out.ok.num HQ.out.ok.num wz; rw [HJ.out] at h; exact h
        have HCN := Hid.mk2 hcnt
        clear hcnt
        go_region_with ((go_at_call 23; refine (HCN.out _).mono ?_; rintro e w5 ⟨rfl, hb5⟩; replace HS := Hid.mk2 (Four.below (Four.below HS.out (below_drewN (Below.refl _ _) 1)) hb5); clear hb5; have k1 := HS.out.tr.rr.cell; have k2 := HS.out.rr.cell; have k3 := HS.out.tr.rr.free; have k4 := HS.out.rr.free))
        all_goals
          go_wp2
          obtain ⟨hfb, hbl⟩ := ((HS.out.setR 1 (.int .i64 jv)).setR 2 (.int .i64 (jf : Int))).fin (.string (c1 ++ c2 ++ bsN [7])) (.int .i64 (jv)) (.int .i64 ((jf : Int))) (.int .i64 ((ps : Int) + qs + 1)) (.int .i64 (mx : Int))
          have g0 := hfb.cell 0
          have g1 := hfb.cell 1
          have g2 := hfb.cell 2
          have g3 := hfb.cell 3
          have g4 := hfb.cell 4
          unfold fin3 at g0 g1 g2 g3 g4 hbl
          refine bodyPost_ret (v := .agg #[.string (c1 ++ c2 ++ bsN [7]), .int .i64 (jv), .int .i64 ((jf : Int)), .int .i64 ((ps : Int) + qs + 1), .int .i64 (mx : Int)]) (by simp [results, Tryd.results15, go_sem, g0, g1, g2, g3, g4]) rfl ⟨hbl, _, two_fit HP.out HQ.out HK.out rfl (by simp only; omega) HM.out.symm, by rw [HC.out] <;> rfl⟩
      · obtain ⟨jr, hjr⟩ : ∃ jr, joinN 8 pv qv = jr := ⟨_, rfl⟩
        rw [hjr] at HK
        have HJ := Hid.mk2 hjr
        clear hjr
        obtain ⟨jv, jf⟩ := jr
        simp only at HK
        go_wp2
        have hSy := Four.below HS3.out (box3 _ (Obj.cells #[.string { data := #[43] }, .string { data := #[45] }, .string { data := #[42] }, .string { data := #[47] }, .string { data := #[37] }] 9))
        have hLs := Blk.new (((wc.setCell ⟨rb, 3, none⟩ (.int .i64 ((ps : Int) + qs))).setCell ⟨rb, 2, none⟩ (.int .i64 0)).setCell ⟨rb, 3, none⟩ (.int .i64 ((ps : Int) + qs + 1))) #[.string { data := #[43] }, .string { data := #[45] }, .string { data := #[42] }, .string { data := #[47] }, .string { data := #[37] }] 9
        rw [show (((wc.setCell ⟨rb, 3, none⟩ (.int .i64 ((ps : Int) + qs))).setCell ⟨rb, 2, none⟩ (.int .i64 0)).setCell ⟨rb, 3, none⟩ (.int .i64 ((ps : Int) + qs + 1))).heap.size = wc.heap.size from by simp] at hLs
        generalize (((wc.setCell ⟨rb, 3, none⟩ (.int .i64 ((ps : Int) + qs))).setCell ⟨rb, 2, none⟩ (.int .i64 0)).setCell ⟨rb, 3, none⟩ (.int .i64 ((ps : Int) + qs + 1))).alloc (Obj.cells #[.string { data := #[43] }, .string { data := #[45] }, .string { data := #[42] }, .string { data := #[47] }, .string { data := #[37] }] 9) = wy at hSy hLs ⊢
        generalize wc.heap.size = lb at hLs ⊢
        have HS := Hid.mk2 hSy
        have a1 := hSy.tr.box.cell 1
        have b1 := hSy.tr.res.cell 1
        have s1 := hLs.cell 4
        clear hSy hLs k1 k2 k3 k4 k5 k6
        simp only [List.getElem?_toArray, List.getElem?_cons_zero, List.getElem?_cons_succ] at a1 b1 s1
        have hcnt : ∀ wz : World, Calls Tryd.prog 23 #[.string { data := #[37] }, .int .i64 pv, .int .i64 qv] wz fun e w' => e = .returned (.tuple #[.int .i64 jv, .int .i64 (jf : Int)]) ∧ Below wz.heap.size wz w' := fun wz => by have h := counted_any 8 (by omega) pv qv HP.out.ok.num HQ.out.ok.num wz; rw [HJ.out] at h; exact h
        have HCN := Hid.mk2 hcnt
        clear hcnt
        go_region_with ((go_at_call 23; refine (HCN.out _).mono ?_; rintro e w5 ⟨rfl, hb5⟩; replace HS := Hid.mk2 (Four.below (Four.below HS.out (below_drewN (Below.refl _ _) 1)) hb5); clear hb5; have k1 := HS.out.tr.rr.cell; have k2 := HS.out.rr.cell; have k3 := HS.out.tr.rr.free; have k4 := HS.out.rr.free))
        all_goals
          go_wp2
          obtain ⟨hfb, hbl⟩ := ((HS.out.setR 1 (.int .i64 jv)).setR 2 (.int .i64 (jf : Int))).fin (.string (c1 ++ c2 ++ bsN [8])) (.int .i64 (jv)) (.int .i64 ((jf : Int))) (.int .i64 ((ps : Int) + qs + 1)) (.int .i64 (mx : Int))
          have g0 := hfb.cell 0
          have g1 := hfb.cell 1
          have g2 := hfb.cell 2
          have g3 := hfb.cell 3
          have g4 := hfb.cell 4
          unfold fin3 at g0 g1 g2 g3 g4 hbl
          refine bodyPost_ret (v := .agg #[.string (c1 ++ c2 ++ bsN [8]), .int .i64 (jv), .int .i64 ((jf : Int)), .int .i64 ((ps : Int) + qs + 1), .int .i64 (mx : Int)]) (by simp [results, Tryd.results15, go_sem, g0, g1, g2, g3, g4]) rfl ⟨hbl, _, two_fit HP.out HQ.out HK.out rfl (by simp only; omega) HM.out.symm, by rw [HC.out] <;> rfl⟩
      · by_cases hc : pv < qv
        · have hj : Hid (joinN 9 pv qv = (1, 0)) := by simp [Hid, joinN, bitN, hc]
          rw [hj.out] at HK
          have hc' : decide (pv < qv) = true := by simp [hc]
          go_wp2
          obtain ⟨hfb, hbl⟩ := (HS3.out.setR 1 (.int .i64 1)).fin (.string (c1 ++ c2 ++ bsN [9])) (.int .i64 (1)) (.int .i64 (0)) (.int .i64 ((ps : Int) + qs + 1)) (.int .i64 (mx : Int))
          have g0 := hfb.cell 0
          have g1 := hfb.cell 1
          have g2 := hfb.cell 2
          have g3 := hfb.cell 3
          have g4 := hfb.cell 4
          unfold fin3 at g0 g1 g2 g3 g4 hbl
          refine bodyPost_ret (v := .agg #[.string (c1 ++ c2 ++ bsN [9]), .int .i64 (1), .int .i64 (0), .int .i64 ((ps : Int) + qs + 1), .int .i64 (mx : Int)]) (by simp [results, Tryd.results15, go_sem, g0, g1, g2, g3, g4]) rfl ⟨hbl, _, two_fit HP.out HQ.out HK.out rfl (by simp only; omega) HM.out.symm, by rw [HC.out] <;> rfl⟩
        · have hj : Hid (joinN 9 pv qv = (0, 0)) := by simp [Hid, joinN, bitN, hc]
          rw [hj.out] at HK
          have hc' : decide (pv < qv) = false := by simp [hc]
          go_wp2
          obtain ⟨hfb, hbl⟩ := (HS3.out).fin (.string (c1 ++ c2 ++ bsN [9])) (.int .i64 (0)) (.int .i64 (0)) (.int .i64 ((ps : Int) + qs + 1)) (.int .i64 (mx : Int))
          have g0 := hfb.cell 0
          have g1 := hfb.cell 1
          have g2 := hfb.cell 2
          have g3 := hfb.cell 3
          have g4 := hfb.cell 4
          unfold fin3 at g0 g1 g2 g3 g4 hbl
          refine bodyPost_ret (v := .agg #[.string (c1 ++ c2 ++ bsN [9]), .int .i64 (0), .int .i64 (0), .int .i64 ((ps : Int) + qs + 1), .int .i64 (mx : Int)]) (by simp [results, Tryd.results15, go_sem, g0, g1, g2, g3, g4]) rfl ⟨hbl, _, two_fit HP.out HQ.out HK.out rfl (by simp only; omega) HM.out.symm, by rw [HC.out] <;> rfl⟩
      · by_cases hc : pv ≤ qv
        · have hj : Hid (joinN 10 pv qv = (1, 0)) := by simp [Hid, joinN, bitN, hc]
          rw [hj.out] at HK
          have hc' : decide (pv ≤ qv) = true := by simp [hc]
          go_wp2
          obtain ⟨hfb, hbl⟩ := (HS3.out.setR 1 (.int .i64 1)).fin (.string (c1 ++ c2 ++ bsN [10])) (.int .i64 (1)) (.int .i64 (0)) (.int .i64 ((ps : Int) + qs + 1)) (.int .i64 (mx : Int))
          have g0 := hfb.cell 0
          have g1 := hfb.cell 1
          have g2 := hfb.cell 2
          have g3 := hfb.cell 3
          have g4 := hfb.cell 4
          unfold fin3 at g0 g1 g2 g3 g4 hbl
          refine bodyPost_ret (v := .agg #[.string (c1 ++ c2 ++ bsN [10]), .int .i64 (1), .int .i64 (0), .int .i64 ((ps : Int) + qs + 1), .int .i64 (mx : Int)]) (by simp [results, Tryd.results15, go_sem, g0, g1, g2, g3, g4]) rfl ⟨hbl, _, two_fit HP.out HQ.out HK.out rfl (by simp only; omega) HM.out.symm, by rw [HC.out] <;> rfl⟩
        · have hj : Hid (joinN 10 pv qv = (0, 0)) := by simp [Hid, joinN, bitN, hc]
          rw [hj.out] at HK
          have hc' : decide (pv ≤ qv) = false := by simp [hc]
          go_wp2
          obtain ⟨hfb, hbl⟩ := (HS3.out).fin (.string (c1 ++ c2 ++ bsN [10])) (.int .i64 (0)) (.int .i64 (0)) (.int .i64 ((ps : Int) + qs + 1)) (.int .i64 (mx : Int))
          have g0 := hfb.cell 0
          have g1 := hfb.cell 1
          have g2 := hfb.cell 2
          have g3 := hfb.cell 3
          have g4 := hfb.cell 4
          unfold fin3 at g0 g1 g2 g3 g4 hbl
          refine bodyPost_ret (v := .agg #[.string (c1 ++ c2 ++ bsN [10]), .int .i64 (0), .int .i64 (0), .int .i64 ((ps : Int) + qs + 1), .int .i64 (mx : Int)]) (by simp [results, Tryd.results15, go_sem, g0, g1, g2, g3, g4]) rfl ⟨hbl, _, two_fit HP.out HQ.out HK.out rfl (by simp only; omega) HM.out.symm, by rw [HC.out] <;> rfl⟩
      · by_cases hc : pv = qv
        · have hj : Hid (joinN 11 pv qv = (1, 0)) := by simp [Hid, joinN, bitN, hc]
          rw [hj.out] at HK
          have hc' : decide (pv = qv) = true := by simp [hc]
          have hc2 : (pv == qv) = true := by simp [hc]
          have HCC := Hid.mk2 hc
          clear hc
          go_wp2
          obtain ⟨hfb, hbl⟩ := (HS3.out.setR 1 (.int .i64 1)).fin (.string (c1 ++ c2 ++ bsN [11])) (.int .i64 (1)) (.int .i64 (0)) (.int .i64 ((ps : Int) + qs + 1)) (.int .i64 (mx : Int))
          have g0 := hfb.cell 0
          have g1 := hfb.cell 1
          have g2 := hfb.cell 2
          have g3 := hfb.cell 3
          have g4 := hfb.cell 4
          unfold fin3 at g0 g1 g2 g3 g4 hbl
          refine bodyPost_ret (v := .agg #[.string (c1 ++ c2 ++ bsN [11]), .int .i64 (1), .int .i64 (0), .int .i64 ((ps : Int) + qs + 1), .int .i64 (mx : Int)]) (by simp [results, Tryd.results15, go_sem, g0, g1, g2, g3, g4]) rfl ⟨hbl, _, two_fit HP.out HQ.out HK.out rfl (by simp only; omega) HM.out.symm, by rw [HC.out] <;> rfl⟩
        · have hj : Hid (joinN 11 pv qv = (0, 0)) := by simp [Hid, joinN, bitN, hc]
          rw [hj.out] at HK
          have hc' : decide (pv = qv) = false := by simp [hc]
          have hc2 : (pv == qv) = false := by simpa using hc
          go_wp2
          obtain ⟨hfb, hbl⟩ := (HS3.out).fin (.string (c1 ++ c2 ++ bsN [11])) (.int .i64 (0)) (.int .i64 (0)) (.int .i64 ((ps : Int) + qs + 1)) (.int .i64 (mx : Int))
          have g0 := hfb.cell 0
          have g1 := hfb.cell 1
          have g2 := hfb.cell 2
          have g3 := hfb.cell 3
          have g4 := hfb.cell 4
          unfold fin3 at g0 g1 g2 g3 g4 hbl
          refine bodyPost_ret (v := .agg #[.string (c1 ++ c2 ++ bsN [11]), .int .i64 (0), .int .i64 (0), .int .i64 ((ps : Int) + qs + 1), .int .i64 (mx : Int)]) (by simp [results, Tryd.results15, go_sem, g0, g1, g2, g3, g4]) rfl ⟨hbl, _, two_fit HP.out HQ.out HK.out rfl (by simp only; omega) HM.out.symm, by rw [HC.out] <;> rfl⟩
      · by_cases hc : pv ≠ qv
        · have hj : Hid (joinN 12 pv qv = (1, 0)) := by simp [Hid, joinN, bitN, hc]
          rw [hj.out] at HK
          have hc' : decide (pv ≠ qv) = true := by simp [hc]
          have hc2 : (pv != qv) = true := by simpa using hc
          go_wp2
          obtain ⟨hfb, hbl⟩ := (HS3.out.setR 1 (.int .i64 1)).fin (.string (c1 ++ c2 ++ bsN [12])) (.int .i64 (1)) (.int .i64 (0)) (.int .i64 ((ps : Int) + qs + 1)) (.int .i64 (mx : Int))
          have g0 := hfb.cell 0
          have g1 := hfb.cell 1
          have g2 := hfb.cell 2
          have g3 := hfb.cell 3
          have g4 := hfb.cell 4
          unfold fin3 at g0 g1 g2 g3 g4 hbl
          refine bodyPost_ret (v := .agg #[.string (c1 ++ c2 ++ bsN [12]), .int .i64 (1), .int .i64 (0), .int .i64 ((ps : Int) + qs + 1), .int .i64 (mx : Int)]) (by simp [results, Tryd.results15, go_sem, g0, g1, g2, g3, g4]) rfl ⟨hbl, _, two_fit HP.out HQ.out HK.out rfl (by simp only; omega) HM.out.symm, by rw [HC.out] <;> rfl⟩
        · have hj : Hid (joinN 12 pv qv = (0, 0)) := by simp [Hid, joinN, bitN, hc]
          rw [hj.out] at HK
          have hc' : decide (pv ≠ qv) = false := by simp [hc]
          have hc2 : (pv != qv) = false := by simpa using hc
          have HCC := Hid.mk2 hc
          clear hc
          go_wp2
          obtain ⟨hfb, hbl⟩ := (HS3.out).fin (.string (c1 ++ c2 ++ bsN [12])) (.int .i64 (0)) (.int .i64 (0)) (.int .i64 ((ps : Int) + qs + 1)) (.int .i64 (mx : Int))
          have g0 := hfb.cell 0
          have g1 := hfb.cell 1
          have g2 := hfb.cell 2
          have g3 := hfb.cell 3
          have g4 := hfb.cell 4
          unfold fin3 at g0 g1 g2 g3 g4 hbl
          refine bodyPost_ret (v := .agg #[.string (c1 ++ c2 ++ bsN [12]), .int .i64 (0), .int .i64 (0), .int .i64 ((ps : Int) + qs + 1), .int .i64 (mx : Int)]) (by simp [results, Tryd.results15, go_sem, g0, g1, g2, g3, g4]) rfl ⟨hbl, _, two_fit HP.out HQ.out HK.out rfl (by simp only; omega) HM.out.symm, by rw [HC.out] <;> rfl⟩
end Go.Proofs.YtbdjcffmpbjjlaaDoor
