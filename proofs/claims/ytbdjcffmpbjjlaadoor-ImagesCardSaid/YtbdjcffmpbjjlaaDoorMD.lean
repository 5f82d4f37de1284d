/-
  Images of known making: a choice.
  Images of known making: the walk of a choice.
-/
import Derived.Test.YtbdjcffmpbjjlaaDoorKeepJ
import Derived.Deep.DeepCutAuto
import Derived.Deep.RegionWith
set_option linter.unusedVariables false
set_option linter.unusedSimpArgs false
namespace Go.Proofs.YtbdjcffmpbjjlaaDoor
open Go.RowKit

/-- Five blocks of the call's own. -/
structure Five (w wx : World) (c1 c2 c3 c4 c5 : Array Value) : Prop where
  b1 : Blk wx (w.heap.size) c1 29
  b2 : Blk wx (w.heap.size + 1) c2 29
  b3 : Blk wx (w.heap.size + 1 + 1) c3 29
  b4 : Blk wx (w.heap.size + 1 + 1 + 1) c4 29
  b5 : Blk wx (w.heap.size + 1 + 1 + 1 + 1) c5 29
  bl : Below w.heap.size w wx
theorem Five.below {w wx w' : World} {c1 c2 c3 c4 c5 : Array Value} (h : Five w wx c1 c2 c3 c4 c5) (hb : Below wx.heap.size wx w') : Five w w' c1 c2 c3 c4 c5 :=
  ⟨h.b1.below hb h.b1.lt, h.b2.below hb h.b2.lt, h.b3.below hb h.b3.lt, h.b4.below hb h.b4.lt, h.b5.below hb h.b5.lt, h.bl.trans (hb.mono h.bl.size)⟩
theorem Five.drew {w wx : World} {c1 c2 c3 c4 c5 : Array Value} (h : Five w wx c1 c2 c3 c4 c5) : Five w wx.drew c1 c2 c3 c4 c5 := h.below (below_drewN (Below.refl _ wx) 1)
theorem Five.setR {w wx : World} {c1 c2 c3 c4 c5 : Array Value} (h : Five w wx c1 c2 c3 c4 c5) (i : Nat) (v : Value) : Five w (wx.setCell ⟨w.heap.size + 1 + 1 + 1 + 1, i, none⟩ v) c1 c2 c3 c4 (c5.setIfInBounds i v) :=
  ⟨h.b1.other _ _ (by simp only; omega), h.b2.other _ _ (by simp only; omega), h.b3.other _ _ (by simp only; omega), h.b4.other _ _ (by simp only; omega), h.b5.set i v, h.bl.setCell (p := ⟨w.heap.size + 1 + 1 + 1 + 1, i, none⟩) (by simp only; omega) v⟩
theorem Five.setO {w wx : World} {c1 c2 c3 c4 c5 : Array Value} (h : Five w wx c1 c2 c3 c4 c5) (i : Nat) (v : Value) : Five w (wx.setCell ⟨w.heap.size + 1 + 1 + 1, i, none⟩ v) c1 c2 c3 (c4.setIfInBounds i v) c5 :=
  ⟨h.b1.other _ _ (by simp only; omega), h.b2.other _ _ (by simp only; omega), h.b3.other _ _ (by simp only; omega), h.b4.set i v, h.b5.other _ _ (by simp only; omega), h.bl.setCell (p := ⟨w.heap.size + 1 + 1 + 1, i, none⟩) (by simp only; omega) v⟩
theorem five_start (w : World) (c1 c2 c3 c4 c5 : Array Value) : Five w (((((w.alloc (.cells c1 29)).alloc (.cells c2 29)).alloc (.cells c3 29)).alloc (.cells c4 29)).alloc (.cells c5 29)) c1 c2 c3 c4 c5 := by
  refine ⟨((((Blk.new w _ _).alloc _).alloc _).alloc _).alloc _, ?_, ?_, ?_, ?_, (((((Below.refl _ _).alloc (Nat.le_refl _) _).alloc (by simp) _).alloc (by simp; omega) _).alloc (by simp; omega) _).alloc (by simp; omega) _⟩
  · have := ((((Blk.new (w.alloc (.cells c1 29)) c2 29).alloc (.cells c3 29)).alloc (.cells c4 29)).alloc (.cells c5 29))
    simpa using this
  · have := (((Blk.new ((w.alloc (.cells c1 29)).alloc (.cells c2 29)) c3 29).alloc (.cells c4 29)).alloc (.cells c5 29))
    simpa using this
  · have := ((Blk.new (((w.alloc (.cells c1 29)).alloc (.cells c2 29)).alloc (.cells c3 29)) c4 29).alloc (.cells c5 29))
    simpa using this
  · have := (Blk.new ((((w.alloc (.cells c1 29)).alloc (.cells c2 29)).alloc (.cells c3 29)).alloc (.cells c4 29)) c5 29)
    simpa using this
/-- The end: the five cells of what goes out. -/
def fin5 (w wx : World) (a b c d e : Value) : World := (((((wx.setCell ⟨w.heap.size + 1 + 1 + 1, 0, none⟩ a).setCell ⟨w.heap.size + 1 + 1 + 1, 1, none⟩ b).setCell ⟨w.heap.size + 1 + 1 + 1, 2, none⟩ c).setCell ⟨w.heap.size + 1 + 1 + 1, 3, none⟩ d).setCell ⟨w.heap.size + 1 + 1 + 1, 4, none⟩ e)
theorem Five.fin {w wx : World} {c1 c2 c3 c5 : Array Value} {z0 z1 z2 z3 z4 : Value} (h : Five w wx c1 c2 c3 #[z0, z1, z2, z3, z4] c5) (a b c d e : Value) : Blk (fin5 w wx a b c d e) (w.heap.size + 1 + 1 + 1) #[a, b, c, d, e] 29 ∧ Below w.heap.size w (fin5 w wx a b c d e) := by
  have g := ((((h.setO 0 a).setO 1 b).setO 2 c).setO 3 d).setO 4 e
  exact ⟨g.b4, g.bl⟩
theorem choice_fit {x : Itm} {y : Bn} {p a b r : PB} {L H n : Nat} (hp : p.Fit x y L H) (ha : a.Fit x y L H) (hb : b.Fit x y L H) (hr : r.Ok x y) (hc : r.code = choiceC n p a b) (hs : r.steps ≤ p.steps + 1 + (a.steps + 1) ∨ r.steps ≤ p.steps + 1 + b.steps) (hh : r.high = choiceH p a b) (hn : n < 256 := by omega) (hL : L ≤ 1000 := by omega) : r.Fit x y (3 * L + 6) H := by
  have h1 := hp.len
  have h2 := hp.steps
  have h3 := hp.high
  have g1 := ha.len
  have g2 := ha.steps
  have g3 := ha.high
  have k1 := hb.len
  have k2 := hb.steps
  have k3 := hb.high
  have hl : (choiceC n p a b).length = p.code.length + a.code.length + b.code.length + 6 := by simp [choiceC, jumpC]; omega
  refine ⟨hr, by rw [hc, hl]; omega, by rw [hc, hl]; omega, by omega, ?_, fun c hm => ?_⟩
  · rw [hh]; unfold choiceH maxN; (repeat' split) <;> omega
  · rw [hc] at hm
    simp only [choiceC, jumpC, List.mem_append, List.mem_cons, List.not_mem_nil, or_false] at hm
    rcases hm with h | (h | h | h) | h | (h | h | h) | h
    · exact hp.small c h
    · omega
    · omega
    · omega
    · exact ha.small c h
    · omega
    · omega
    · omega
    · exact hb.small c h
end Go.Proofs.YtbdjcffmpbjjlaaDoor

set_option linter.unusedVariables false
set_option linter.unusedSimpArgs false
namespace Go.Proofs.YtbdjcffmpbjjlaaDoor
open Go.RowKit

theorem Five.c23 {w wx : World} {c1 c4 c5 : Array Value} {a0 a1 a2 a3 a4 b0 b1 b2 b3 b4 : Value} (h : Five w wx c1 #[a0, a1, a2, a3, a4] #[b0, b1, b2, b3, b4] c4 c5) : wx.cell? ⟨w.heap.size + 1, 0, none⟩ = some a0 ∧ wx.cell? ⟨w.heap.size + 1 + 1, 0, none⟩ = some b0 := ⟨h.b2.cell 0, h.b3.cell 0⟩
theorem Five.c13 {w wx : World} {c2 c4 c5 : Array Value} {a0 a1 a2 a3 a4 b0 b1 b2 b3 b4 : Value} (h : Five w wx #[a0, a1, a2, a3, a4] c2 #[b0, b1, b2, b3, b4] c4 c5) : wx.cell? ⟨w.heap.size, 0, none⟩ = some a0 ∧ wx.cell? ⟨w.heap.size + 1 + 1, 0, none⟩ = some b0 := ⟨h.b1.cell 0, h.b3.cell 0⟩
theorem maxN_pos {a b : Nat} (h : b ≤ a) : maxN a b = a := by unfold maxN; rw [if_pos h]
theorem maxN_neg {a b : Nat} (h : ¬ b ≤ a) : maxN a b = b := by unfold maxN; rw [if_neg h]
set_option maxHeartbeats 60000000 in
set_option maxRecDepth 100000 in
theorem choice_any (x : Itm) (y : Bn) (p a b : PB) (L H n : Nat) (hp : p.Fit x y L H) (ha : a.Fit x y L H) (hb : b.Fit x y L H) (hL : L ≤ 1000) (hH : H ≤ 1000) (hn : n = 14 ∨ n = 15) (w : World) :
    Calls Tryd.prog 16 #[.int .i64 n, blkV p, blkV a, blkV b] w fun e w' => Below w.heap.size w w' ∧ ∃ r : PB, r.Fit x y (3 * L + 6) H ∧ e = .returned (blkV r) := by
  have HP := Hid.mk2 hp
  have p1 := hp.len
  have p2 := hp.steps
  have p3 := hp.high
  have p4 := hp.ok.le2
  have HA := Hid.mk2 ha
  have a1 := ha.len
  have a2 := ha.steps
  have a3 := ha.high
  have a4 := ha.ok.le2
  have HB := Hid.mk2 hb
  have b1 := hb.len
  have b2 := hb.steps
  have b3 := hb.high
  have b4 := hb.ok.le2
  have HK := Hid.mk2 (choiceP_ok hp.ok ha.ok hb.ok hn (by omega) (by omega))
  clear hp ha hb
  obtain ⟨pc, pv, pf, ps, ph⟩ := p
  obtain ⟨ac, av, af, sa, ah⟩ := a
  obtain ⟨bc, bv, bf, bs, bh⟩ := b
  unfold blkV
  simp only at p1 p2 p3 p4 a1 a2 a3 a4 b1 b2 b3 b4 ⊢
  obtain ⟨c1, hc1⟩ : ∃ c1, c1 = bsN pc := ⟨_, rfl⟩
  obtain ⟨c2, hc2⟩ : ∃ c2, c2 = bsN ac := ⟨_, rfl⟩
  obtain ⟨c3, hc3⟩ : ∃ c3, c3 = bsN bc := ⟨_, rfl⟩
  have z1 : c1.size = pc.length := by rw [hc1, bsN_size]
  have z2 : c2.size = ac.length := by rw [hc2, bsN_size]
  have z3 : c3.size = bc.length := by rw [hc3, bsN_size]
  obtain ⟨F, hF⟩ : ∃ F, F = c2 ++ bsN [13] ++ bsN [c3.size % 256, c3.size / 256] := ⟨_, rfl⟩
  have zF : F.size = ac.length + 3 := by rw [hF, ByteArray.size_append, ByteArray.size_append, z2, bsN_size, bsN_size]; rfl
  obtain ⟨C, hC⟩ : ∃ C, C = c1 ++ bsN [n] ++ bsN [F.size % 256, F.size / 256] ++ F ++ c3 := ⟨_, rfl⟩
  have HC : Hid (C = bsN (choiceC n ⟨pc, pv, pf, ps, ph⟩ ⟨ac, av, af, sa, ah⟩ ⟨bc, bv, bf, bs, bh⟩)) := by
    rw [Hid, hC, zF, hF, z3, hc1, hc2, hc3]
    simp only [bsN_append, choiceC, jumpC, List.append_assoc, List.cons_append, List.nil_append]
  have l1 : (9223372036854775807 < c2.size + (bsN [13]).size) = False := by rw [z2, bsN_size]; simp; omega
  have l2 : (9223372036854775807 < c2.size + (bsN [13]).size + (bsN [c3.size % 256, c3.size / 256]).size) = False := by rw [z2, bsN_size, bsN_size]; simp; omega
  have l3 : (9223372036854775807 < c1.size + (bsN [n]).size) = False := by rw [z1, bsN_size]; simp; omega
  have l4 : (9223372036854775807 < c1.size + (bsN [n]).size + (bsN [F.size % 256, F.size / 256]).size) = False := by rw [z1, bsN_size, bsN_size]; simp; omega
  have l5 : (9223372036854775807 < c1.size + (bsN [n]).size + (bsN [F.size % 256, F.size / 256]).size + F.size) = False := by rw [z1, bsN_size, bsN_size, zF]; simp; omega
  have l6 : (9223372036854775807 < c1.size + (bsN [n]).size + (bsN [F.size % 256, F.size / 256]).size + F.size + c3.size) = False := by rw [z1, bsN_size, bsN_size, zF, z3]; simp; omega
  have u3 : c3.size < 65536 := by omega
  have uF : F.size < 65536 := by omega
  have hN : n < 256 := by omega
  rw [← hc1, ← hc2, ← hc3]
  have HF := Hid.mk2 hF
  have HCC := Hid.mk2 hC
  clear hc1 hc2 hc3 z1 z2 z3 zF hF hC
  go_enter Tryd.func16, Tryd.ntmps16
  go_upto_region 2 with fail
  have HT := Hid.mk2 (five_start w #[.string c1, .int .i64 pv, .int .i64 pf, .int .i64 ps, .int .i64 ph] #[.string c2, .int .i64 av, .int .i64 af, .int .i64 sa, .int .i64 ah] #[.string c3, .int .i64 bv, .int .i64 bf, .int .i64 bs, .int .i64 bh] #[.string { data := #[] }, .int .i64 0, .int .i64 0, .int .i64 0, .int .i64 0] #[.string { data := #[] }, .int .i64 0, .int .i64 0, .int .i64 0, .int .i64 ph])
  go_cut [10] (fun s10 wx => s10 = .string F ∧ Five w wx #[.string c1, .int .i64 pv, .int .i64 pf, .int .i64 ps, .int .i64 ph] #[.string c2, .int .i64 av, .int .i64 af, .int .i64 sa, .int .i64 ah] #[.string c3, .int .i64 bv, .int .i64 bf, .int .i64 bs, .int .i64 bh] #[.string { data := #[] }, .int .i64 0, .int .i64 0, .int .i64 0, .int .i64 0] #[.string { data := #[] }, .int .i64 0, .int .i64 0, .int .i64 0, .int .i64 ph])
  case first =>
    go_region_held3 (fun w' => w'.cell? ⟨w.heap.size + 1, 0, none⟩ = some (.string c2) ∧ w'.cell? ⟨w.heap.size + 1 + 1, 0, none⟩ = some (.string c3)) (first | with_reducible exact HT.out.c23 | with_reducible exact HT.out.drew.c23) (first | (go_at_call 6; refine (op_any 13 (by omega) _).mono ?_; rintro e w1 ⟨rfl, hb1⟩; replace HT := Hid.mk2 (HT.out.drew.below hb1); clear hb1) | (go_at_call 24; refine (past_any c3.size u3 _).mono ?_; rintro e w2 ⟨rfl, hb2⟩; replace HT := Hid.mk2 (HT.out.below hb2); clear hb2))
    all_goals
      go_wp2_with fail
      go_meet
      case rel => exact ⟨by rw [HF.out], HT.out⟩
  case rest =>
    obtain ⟨rfl, hF5⟩ := hcut
    clear HT
    have HT := Hid.mk2 hF5
    clear hF5
    go_upto_region 3 with fail
    go_cut [] (fun wx => Five w wx #[.string c1, .int .i64 pv, .int .i64 pf, .int .i64 ps, .int .i64 ph] #[.string c2, .int .i64 av, .int .i64 af, .int .i64 sa, .int .i64 ah] #[.string c3, .int .i64 bv, .int .i64 bf, .int .i64 bs, .int .i64 bh] #[.string { data := #[] }, .int .i64 0, .int .i64 0, .int .i64 0, .int .i64 0] #[.string C, .int .i64 0, .int .i64 0, .int .i64 0, .int .i64 ph])
    case first =>
      go_region_held3 (fun w' => w'.cell? ⟨w.heap.size, 0, none⟩ = some (.string c1) ∧ w'.cell? ⟨w.heap.size + 1 + 1, 0, none⟩ = some (.string c3)) (first | with_reducible exact HT.out.c13 | with_reducible exact HT.out.drew.c13 | with_reducible exact (HT.out.setR 0 _).c13) (first | (go_at_call 6; refine (op_any n hN _).mono ?_; rintro e w1 ⟨rfl, hb1⟩; replace HT := Hid.mk2 (HT.out.drew.below hb1); clear hb1) | (go_at_call 24; refine (past_any F.size uF _).mono ?_; rintro e w2 ⟨rfl, hb2⟩; replace HT := Hid.mk2 (HT.out.below hb2); clear hb2; have r0 := HT.out.b5.cell 0; have f0 := HT.out.b5.free 0))
      all_goals
        go_wp2_with fail
        go_meet
        case rel => rw [HCC.out]; exact HT.out.setR 0 _
    case rest =>
      have hF5 := hcut
      clear hcut HT
      have HT := Hid.mk2 hF5
      have k1 := fun i => hF5.b1.cell i
      have k2 := fun i => hF5.b2.cell i
      have k3 := fun i => hF5.b3.cell i
      have k4 := fun i => hF5.b4.cell i
      have k5 := fun i => hF5.b5.cell i
      have k6 := fun i => hF5.b4.free i
      have k7 := fun i => hF5.b5.free i
      clear hF5
      go_upto_if 42 with fail
      go_cut [] (fun wx => Five w wx #[.string c1, .int .i64 pv, .int .i64 pf, .int .i64 ps, .int .i64 ph] #[.string c2, .int .i64 av, .int .i64 af, .int .i64 sa, .int .i64 ah] #[.string c3, .int .i64 bv, .int .i64 bf, .int .i64 bs, .int .i64 bh] #[.string { data := #[] }, .int .i64 0, .int .i64 0, .int .i64 0, .int .i64 0] #[.string C, .int .i64 0, .int .i64 0, .int .i64 0, .int .i64 (maxN ph ah : Nat)])
      case first =>
        by_cases hm : ah ≤ ph
        · have hm' : decide ((ph : Int) < (ah : Int)) = false := by simp; omega
          have hm2 : ¬ (ph < ah) := by omega
          have hM : Hid (maxN ph ah = ph) := maxN_pos hm
          go_wp2
          go_meet
          case rel => rw [hM.out]; exact HT.out
        · have hm' : decide ((ph : Int) < (ah : Int)) = true := by simp; omega
          have hm2 : ph < ah := by omega
          have hM : Hid (maxN ph ah = ah) := maxN_neg hm
          go_wp2
          go_meet
          case rel => rw [hM.out]; exact HT.out.setR 4 (.int .i64 (ah : Int))
      case rest =>
        have hF5 := hcut
        clear hcut HT k1 k2 k3 k4 k5 k6 k7
        generalize hm1 : maxN ph ah = m1 at *
        have HM1 := Hid.mk2 hm1
        clear hm1
        have HT := Hid.mk2 hF5
        have k1 := fun i => hF5.b1.cell i
        have k2 := fun i => hF5.b2.cell i
        have k3 := fun i => hF5.b3.cell i
        have k4 := fun i => hF5.b4.cell i
        have k5 := fun i => hF5.b5.cell i
        have k6 := fun i => hF5.b4.free i
        have k7 := fun i => hF5.b5.free i
        clear hF5
        go_upto_if 50 with fail
        go_cut [] (fun wx => Five w wx #[.string c1, .int .i64 pv, .int .i64 pf, .int .i64 ps, .int .i64 ph] #[.string c2, .int .i64 av, .int .i64 af, .int .i64 sa, .int .i64 ah] #[.string c3, .int .i64 bv, .int .i64 bf, .int .i64 bs, .int .i64 bh] #[.string { data := #[] }, .int .i64 0, .int .i64 0, .int .i64 0, .int .i64 0] #[.string C, .int .i64 0, .int .i64 0, .int .i64 0, .int .i64 (maxN m1 bh : Nat)])
        case first =>
          by_cases hm : bh ≤ m1
          · have hm' : decide ((m1 : Int) < (bh : Int)) = false := by simp; omega
            have hm2 : ¬ (m1 < bh) := by omega
            have hM : Hid (maxN m1 bh = m1) := maxN_pos hm
            go_wp2
            go_meet
            case rel => rw [hM.out]; exact HT.out
          · have hm' : decide ((m1 : Int) < (bh : Int)) = true := by simp; omega
            have hm2 : m1 < bh := by omega
            have hM : Hid (maxN m1 bh = bh) := maxN_neg hm
            go_wp2
            go_meet
            case rel => rw [hM.out]; exact HT.out.setR 4 (.int .i64 (bh : Int))
        case rest =>
          have hF5 := hcut
          clear hcut HT k1 k2 k3 k4 k5 k6 k7
          generalize hm2 : maxN m1 bh = m2 at *
          have HM2 : Hid (choiceH ⟨pc, pv, pf, ps, ph⟩ ⟨ac, av, af, sa, ah⟩ ⟨bc, bv, bf, bs, bh⟩ = m2) := by rw [Hid, choiceH, HM1.out, hm2]
          clear hm2
          have HT := Hid.mk2 hF5
          have k1 := fun i => hF5.b1.cell i
          have k2 := fun i => hF5.b2.cell i
          have k3 := fun i => hF5.b3.cell i
          have k4 := fun i => hF5.b4.cell i
          have k5 := fun i => hF5.b5.cell i
          have k6 := fun i => hF5.b4.free i
          have k7 := fun i => hF5.b5.free i
          clear hF5 l1 l2 l3 l4 l5 l6
          unfold choiceP at HK
          simp only at HK
          by_cases hpf : pf = 0
          case neg =>
            have hpf' : ((pf : Int) != 0) = true := by simp; omega
            rw [if_pos hpf] at HK
            go_wp2
            obtain ⟨hfb, hbl⟩ := ((HT.out.setR 2 (.int .i64 (pf : Int))).setR 3 (.int .i64 (ps : Int))).fin (.string C) (.int .i64 (0)) (.int .i64 ((pf : Int))) (.int .i64 ((ps : Int))) (.int .i64 (m2 : Int))
            have g0 := hfb.cell 0
            have g1 := hfb.cell 1
            have g2 := hfb.cell 2
            have g3 := hfb.cell 3
            have g4 := hfb.cell 4
            unfold fin5 at g0 g1 g2 g3 g4 hbl
            refine bodyPost_ret (v := .agg #[.string C, .int .i64 (0), .int .i64 ((pf : Int)), .int .i64 ((ps : Int)), .int .i64 (m2 : Int)]) (by simp [results, Tryd.results16, go_sem, g0, g1, g2, g3, g4]) rfl ⟨hbl, _, choice_fit HP.out HA.out HB.out HK.out rfl (.inl (by simp only; omega)) rfl, by rw [HC.out, HM2.out] <;> rfl⟩
          rw [if_neg (by simpa using hpf)] at HK
          subst hpf
          rcases hn with rfl | rfl
          · by_cases h0 : pv = 0
            · subst h0
              rw [if_pos (by simp)] at HK
              have e1 := ((((HT.out.setR 2 (.int .i64 0)).setR 3 (.int .i64 (ps : Int))).setR 3 (.int .i64 ((ps : Int) + 1))).b5.cell 3)
              have e2 := (((((HT.out.setR 2 (.int .i64 0)).setR 3 (.int .i64 (ps : Int))).setR 3 (.int .i64 ((ps : Int) + 1))).setR 1 (.int .i64 bv)).b5.cell 3)
              have e3 := ((((((HT.out.setR 2 (.int .i64 0)).setR 3 (.int .i64 (ps : Int))).setR 3 (.int .i64 ((ps : Int) + 1))).setR 1 (.int .i64 bv)).setR 2 (.int .i64 (bf : Int))).b5.cell 3)
              go_wp2
              obtain ⟨hfb, hbl⟩ := ((((((HT.out.setR 2 (.int .i64 0)).setR 3 (.int .i64 (ps : Int))).setR 3 (.int .i64 ((ps : Int) + 1))).setR 1 (.int .i64 bv)).setR 2 (.int .i64 (bf : Int))).setR 3 (.int .i64 ((ps : Int) + 1 + bs))).fin (.string C) (.int .i64 (bv)) (.int .i64 ((bf : Int))) (.int .i64 ((ps : Int) + 1 + bs)) (.int .i64 (m2 : Int))
              have g0 := hfb.cell 0
              have g1 := hfb.cell 1
              have g2 := hfb.cell 2
              have g3 := hfb.cell 3
              have g4 := hfb.cell 4
              unfold fin5 at g0 g1 g2 g3 g4 hbl
              refine bodyPost_ret (v := .agg #[.string C, .int .i64 (bv), .int .i64 ((bf : Int)), .int .i64 ((ps : Int) + 1 + bs), .int .i64 (m2 : Int)]) (by simp [results, Tryd.results16, go_sem, g0, g1, g2, g3, g4]) rfl ⟨hbl, _, choice_fit HP.out HA.out HB.out HK.out rfl (.inr (by simp only; omega)) rfl, by rw [HC.out, HM2.out] <;> rfl⟩
            · have h1 : (pv != 0) = true := by simpa using h0
              rw [if_neg (by simp [h0])] at HK
              by_cases haf : af = 0
              · subst haf
                rw [if_pos rfl] at HK
                have e1 := ((((HT.out.setR 2 (.int .i64 0)).setR 3 (.int .i64 (ps : Int))).setR 3 (.int .i64 ((ps : Int) + 1))).b5.cell 3)
                have e2 := (((((HT.out.setR 2 (.int .i64 0)).setR 3 (.int .i64 (ps : Int))).setR 3 (.int .i64 ((ps : Int) + 1))).setR 1 (.int .i64 av)).b5.cell 3)
                have e3 := ((((((HT.out.setR 2 (.int .i64 0)).setR 3 (.int .i64 (ps : Int))).setR 3 (.int .i64 ((ps : Int) + 1))).setR 1 (.int .i64 av)).setR 2 (.int .i64 0)).b5.cell 3)
                have e4 := (((((((HT.out.setR 2 (.int .i64 0)).setR 3 (.int .i64 (ps : Int))).setR 3 (.int .i64 ((ps : Int) + 1))).setR 1 (.int .i64 av)).setR 2 (.int .i64 0)).setR 3 (.int .i64 ((ps : Int) + 1 + sa))).b5.cell 3)
                go_wp2
                obtain ⟨hfb, hbl⟩ := (((((((HT.out.setR 2 (.int .i64 0)).setR 3 (.int .i64 (ps : Int))).setR 3 (.int .i64 ((ps : Int) + 1))).setR 1 (.int .i64 av)).setR 2 (.int .i64 0)).setR 3 (.int .i64 ((ps : Int) + 1 + sa))).setR 3 (.int .i64 ((ps : Int) + 1 + sa + 1))).fin (.string C) (.int .i64 (av)) (.int .i64 (0)) (.int .i64 ((ps : Int) + 1 + sa + 1)) (.int .i64 (m2 : Int))
                have g0 := hfb.cell 0
                have g1 := hfb.cell 1
                have g2 := hfb.cell 2
                have g3 := hfb.cell 3
                have g4 := hfb.cell 4
                unfold fin5 at g0 g1 g2 g3 g4 hbl
                refine bodyPost_ret (v := .agg #[.string C, .int .i64 (av), .int .i64 (0), .int .i64 ((ps : Int) + 1 + sa + 1), .int .i64 (m2 : Int)]) (by simp [results, Tryd.results16, go_sem, g0, g1, g2, g3, g4]) rfl ⟨hbl, _, choice_fit HP.out HA.out HB.out HK.out rfl (.inl (by simp only; omega)) rfl, by rw [HC.out, HM2.out] <;> rfl⟩
              · rw [if_neg haf] at HK
                have haf' : ((af : Int) == 0) = false := by simp; omega
                have e1 := ((((HT.out.setR 2 (.int .i64 0)).setR 3 (.int .i64 (ps : Int))).setR 3 (.int .i64 ((ps : Int) + 1))).b5.cell 3)
                have e2 := (((((HT.out.setR 2 (.int .i64 0)).setR 3 (.int .i64 (ps : Int))).setR 3 (.int .i64 ((ps : Int) + 1))).setR 1 (.int .i64 av)).b5.cell 3)
                have e3 := ((((((HT.out.setR 2 (.int .i64 0)).setR 3 (.int .i64 (ps : Int))).setR 3 (.int .i64 ((ps : Int) + 1))).setR 1 (.int .i64 av)).setR 2 (.int .i64 (af : Int))).b5.cell 3)
                go_wp2
                obtain ⟨hfb, hbl⟩ := ((((((HT.out.setR 2 (.int .i64 0)).setR 3 (.int .i64 (ps : Int))).setR 3 (.int .i64 ((ps : Int) + 1))).setR 1 (.int .i64 av)).setR 2 (.int .i64 (af : Int))).setR 3 (.int .i64 ((ps : Int) + 1 + sa))).fin (.string C) (.int .i64 (av)) (.int .i64 ((af : Int))) (.int .i64 ((ps : Int) + 1 + sa)) (.int .i64 (m2 : Int))
                have g0 := hfb.cell 0
                have g1 := hfb.cell 1
                have g2 := hfb.cell 2
                have g3 := hfb.cell 3
                have g4 := hfb.cell 4
                unfold fin5 at g0 g1 g2 g3 g4 hbl
                refine bodyPost_ret (v := .agg #[.string C, .int .i64 (av), .int .i64 ((af : Int)), .int .i64 ((ps : Int) + 1 + sa), .int .i64 (m2 : Int)]) (by simp [results, Tryd.results16, go_sem, g0, g1, g2, g3, g4]) rfl ⟨hbl, _, choice_fit HP.out HA.out HB.out HK.out rfl (.inl (by simp only; omega)) rfl, by rw [HC.out, HM2.out] <;> rfl⟩
          · by_cases h0 : pv = 0
            · subst h0
              rw [if_neg (by simp)] at HK
              by_cases haf : af = 0
              · subst haf
                rw [if_pos rfl] at HK
                have e1 := ((((HT.out.setR 2 (.int .i64 0)).setR 3 (.int .i64 (ps : Int))).setR 3 (.int .i64 ((ps : Int) + 1))).b5.cell 3)
                have e2 := (((((HT.out.setR 2 (.int .i64 0)).setR 3 (.int .i64 (ps : Int))).setR 3 (.int .i64 ((ps : Int) + 1))).setR 1 (.int .i64 av)).b5.cell 3)
                have e3 := ((((((HT.out.setR 2 (.int .i64 0)).setR 3 (.int .i64 (ps : Int))).setR 3 (.int .i64 ((ps : Int) + 1))).setR 1 (.int .i64 av)).setR 2 (.int .i64 0)).b5.cell 3)
                have e4 := (((((((HT.out.setR 2 (.int .i64 0)).setR 3 (.int .i64 (ps : Int))).setR 3 (.int .i64 ((ps : Int) + 1))).setR 1 (.int .i64 av)).setR 2 (.int .i64 0)).setR 3 (.int .i64 ((ps : Int) + 1 + sa))).b5.cell 3)
                go_wp2
                obtain ⟨hfb, hbl⟩ := (((((((HT.out.setR 2 (.int .i64 0)).setR 3 (.int .i64 (ps : Int))).setR 3 (.int .i64 ((ps : Int) + 1))).setR 1 (.int .i64 av)).setR 2 (.int .i64 0)).setR 3 (.int .i64 ((ps : Int) + 1 + sa))).setR 3 (.int .i64 ((ps : Int) + 1 + sa + 1))).fin (.string C) (.int .i64 (av)) (.int .i64 (0)) (.int .i64 ((ps : Int) + 1 + sa + 1)) (.int .i64 (m2 : Int))
                have g0 := hfb.cell 0
                have g1 := hfb.cell 1
                have g2 := hfb.cell 2
                have g3 := hfb.cell 3
                have g4 := hfb.cell 4
                unfold fin5 at g0 g1 g2 g3 g4 hbl
                refine bodyPost_ret (v := .agg #[.string C, .int .i64 (av), .int .i64 (0), .int .i64 ((ps : Int) + 1 + sa + 1), .int .i64 (m2 : Int)]) (by simp [results, Tryd.results16, go_sem, g0, g1, g2, g3, g4]) rfl ⟨hbl, _, choice_fit HP.out HA.out HB.out HK.out rfl (.inl (by simp only; omega)) rfl, by rw [HC.out, HM2.out] <;> rfl⟩
              · rw [if_neg haf] at HK
                have haf' : ((af : Int) == 0) = false := by simp; omega
                have e1 := ((((HT.out.setR 2 (.int .i64 0)).setR 3 (.int .i64 (ps : Int))).setR 3 (.int .i64 ((ps : Int) + 1))).b5.cell 3)
                have e2 := (((((HT.out.setR 2 (.int .i64 0)).setR 3 (.int .i64 (ps : Int))).setR 3 (.int .i64 ((ps : Int) + 1))).setR 1 (.int .i64 av)).b5.cell 3)
                have e3 := ((((((HT.out.setR 2 (.int .i64 0)).setR 3 (.int .i64 (ps : Int))).setR 3 (.int .i64 ((ps : Int) + 1))).setR 1 (.int .i64 av)).setR 2 (.int .i64 (af : Int))).b5.cell 3)
                go_wp2
                obtain ⟨hfb, hbl⟩ := ((((((HT.out.setR 2 (.int .i64 0)).setR 3 (.int .i64 (ps : Int))).setR 3 (.int .i64 ((ps : Int) + 1))).setR 1 (.int .i64 av)).setR 2 (.int .i64 (af : Int))).setR 3 (.int .i64 ((ps : Int) + 1 + sa))).fin (.string C) (.int .i64 (av)) (.int .i64 ((af : Int))) (.int .i64 ((ps : Int) + 1 + sa)) (.int .i64 (m2 : Int))
                have g0 := hfb.cell 0
                have g1 := hfb.cell 1
                have g2 := hfb.cell 2
                have g3 := hfb.cell 3
                have g4 := hfb.cell 4
                unfold fin5 at g0 g1 g2 g3 g4 hbl
                refine bodyPost_ret (v := .agg #[.string C, .int .i64 (av), .int .i64 ((af : Int)), .int .i64 ((ps : Int) + 1 + sa), .int .i64 (m2 : Int)]) (by simp [results, Tryd.results16, go_sem, g0, g1, g2, g3, g4]) rfl ⟨hbl, _, choice_fit HP.out HA.out HB.out HK.out rfl (.inl (by simp only; omega)) rfl, by rw [HC.out, HM2.out] <;> rfl⟩
            · have h1 : (pv != 0) = true := by simpa using h0
              rw [if_pos (by simp [h0])] at HK
              have e1 := ((((HT.out.setR 2 (.int .i64 0)).setR 3 (.int .i64 (ps : Int))).setR 3 (.int .i64 ((ps : Int) + 1))).b5.cell 3)
              have e2 := (((((HT.out.setR 2 (.int .i64 0)).setR 3 (.int .i64 (ps : Int))).setR 3 (.int .i64 ((ps : Int) + 1))).setR 1 (.int .i64 bv)).b5.cell 3)
              have e3 := ((((((HT.out.setR 2 (.int .i64 0)).setR 3 (.int .i64 (ps : Int))).setR 3 (.int .i64 ((ps : Int) + 1))).setR 1 (.int .i64 bv)).setR 2 (.int .i64 (bf : Int))).b5.cell 3)
              go_wp2
              obtain ⟨hfb, hbl⟩ := ((((((HT.out.setR 2 (.int .i64 0)).setR 3 (.int .i64 (ps : Int))).setR 3 (.int .i64 ((ps : Int) + 1))).setR 1 (.int .i64 bv)).setR 2 (.int .i64 (bf : Int))).setR 3 (.int .i64 ((ps : Int) + 1 + bs))).fin (.string C) (.int .i64 (bv)) (.int .i64 ((bf : Int))) (.int .i64 ((ps : Int) + 1 + bs)) (.int .i64 (m2 : Int))
              have g0 := hfb.cell 0
              have g1 := hfb.cell 1
              have g2 := hfb.cell 2
              have g3 := hfb.cell 3
              have g4 := hfb.cell 4
              unfold fin5 at g0 g1 g2 g3 g4 hbl
              refine bodyPost_ret (v := .agg #[.string C, .int .i64 (bv), .int .i64 ((bf : Int)), .int .i64 ((ps : Int) + 1 + bs), .int .i64 (m2 : Int)]) (by simp [results, Tryd.results16, go_sem, g0, g1, g2, g3, g4]) rfl ⟨hbl, _, choice_fit HP.out HA.out HB.out HK.out rfl (.inr (by simp only; omega)) rfl, by rw [HC.out, HM2.out] <;> rfl⟩
end Go.Proofs.YtbdjcffmpbjjlaaDoor
