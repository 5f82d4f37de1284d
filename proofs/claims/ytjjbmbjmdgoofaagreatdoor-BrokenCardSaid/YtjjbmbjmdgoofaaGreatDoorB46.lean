/-
  test: an EXPR that is a truth, so deep.
-/
import Derived.Test.YtjjbmbjmdgoofaaGreatDoorB45
import Derived.Deep.CutBlock
set_option linter.unusedVariables false
set_option linter.unusedSimpArgs false
namespace Go.Proofs.YtjjbmbjmdgoofaaGreatDoor
open Go.RowKit Go.Deep
structure Opp (w wx : World) (mb fb : Nat) (x : Itm) (y : Bn) (l0 l1 l2 l3 l4 l5 : Value) (st : Bool) (c : Array Value) (ab bb lb : Nat) (A B : Array Value) : Prop where
  s : SumM w wx mb fb x y l0 l1 l2 l3 l4 l5 st c
  a : Blk wx ab A 66
  b : Blk wx bb B 66
  l : Blk wx lb #[.string ⟨#[60]⟩, .string ⟨#[60, 61]⟩, .string ⟨#[61]⟩, .string ⟨#[33, 61]⟩] 9
  na : w.heap.size + 1 < ab
  nb : w.heap.size + 1 < bb
  nl : w.heap.size + 1 < lb
section
variable {w wx w' : World} {mb fb : Nat} {x : Itm} {y : Bn} {l0 l1 l2 l3 l4 l5 : Value} {st : Bool} {c A B : Array Value} {ab bb lb : Nat}
theorem Opp.below (h : Opp w wx mb fb x y l0 l1 l2 l3 l4 l5 st c ab bb lb A B) (hb : Below wx.heap.size wx w') : Opp w w' mb fb x y l0 l1 l2 l3 l4 l5 st c ab bb lb A B := ⟨h.s.below hb, h.a.below hb h.a.lt, h.b.below hb h.b.lt, h.l.below hb h.l.lt, h.na, h.nb, h.nl⟩
theorem Opp.drew (h : Opp w wx mb fb x y l0 l1 l2 l3 l4 l5 st c ab bb lb A B) : Opp w wx.drew mb fb x y l0 l1 l2 l3 l4 l5 st c ab bb lb A B := ⟨h.s.drew, h.a, h.b, h.l, h.na, h.nb, h.nl⟩
theorem Opp.setP (h : Opp w wx mb fb x y l0 l1 l2 l3 l4 l5 st c ab bb lb A B) (i : Nat) (v : Value) : Opp w (wx.setCell ⟨w.heap.size + 1, i, none⟩ v) mb fb x y l0 l1 l2 l3 l4 l5 st (c.setIfInBounds i v) ab bb lb A B :=
  ⟨h.s.setP i v, h.a.other _ _ (by have := h.na; simp only; omega), h.b.other _ _ (by have := h.nb; simp only; omega), h.l.other _ _ (by have := h.nl; simp only; omega), h.na, h.nb, h.nl⟩
theorem Opp.all0 {a0 a1 a2 a3 a4 a5 b0 b1 b2 b3 b4 b5 : Value} (h : Opp w wx mb fb x y l0 l1 l2 l3 l4 l5 st c ab bb lb #[a0, a1, a2, a3, a4, a5] #[b0, b1, b2, b3, b4, b5]) : wx.cell? ⟨ab, 0, none⟩ = some a0 ∧ wx.cell? ⟨ab, 1, none⟩ = some a1 ∧ wx.cell? ⟨ab, 2, none⟩ = some a2 ∧ wx.cell? ⟨ab, 3, none⟩ = some a3 ∧ wx.cell? ⟨ab, 4, none⟩ = some a4 ∧ wx.cell? ⟨ab, 5, none⟩ = some a5 ∧ wx.cell? ⟨bb, 0, none⟩ = some b0 ∧ wx.cell? ⟨bb, 1, none⟩ = some b1 ∧ wx.cell? ⟨bb, 2, none⟩ = some b2 ∧ wx.cell? ⟨bb, 3, none⟩ = some b3 ∧ wx.cell? ⟨bb, 4, none⟩ = some b4 ∧ wx.cell? ⟨bb, 5, none⟩ = some b5 ∧ wx.cell? ⟨lb, 0, none⟩ = some (.string ⟨#[60]⟩) :=
  ⟨h.a.cell 0, h.a.cell 1, h.a.cell 2, h.a.cell 3, h.a.cell 4, h.a.cell 5, h.b.cell 0, h.b.cell 1, h.b.cell 2, h.b.cell 3, h.b.cell 4, h.b.cell 5, h.l.cell 0⟩
theorem Opp.all1 {a0 a1 a2 a3 a4 a5 b0 b1 b2 b3 b4 b5 : Value} (h : Opp w wx mb fb x y l0 l1 l2 l3 l4 l5 st c ab bb lb #[a0, a1, a2, a3, a4, a5] #[b0, b1, b2, b3, b4, b5]) : wx.cell? ⟨ab, 0, none⟩ = some a0 ∧ wx.cell? ⟨ab, 1, none⟩ = some a1 ∧ wx.cell? ⟨ab, 2, none⟩ = some a2 ∧ wx.cell? ⟨ab, 3, none⟩ = some a3 ∧ wx.cell? ⟨ab, 4, none⟩ = some a4 ∧ wx.cell? ⟨ab, 5, none⟩ = some a5 ∧ wx.cell? ⟨bb, 0, none⟩ = some b0 ∧ wx.cell? ⟨bb, 1, none⟩ = some b1 ∧ wx.cell? ⟨bb, 2, none⟩ = some b2 ∧ wx.cell? ⟨bb, 3, none⟩ = some b3 ∧ wx.cell? ⟨bb, 4, none⟩ = some b4 ∧ wx.cell? ⟨bb, 5, none⟩ = some b5 ∧ wx.cell? ⟨lb, 1, none⟩ = some (.string ⟨#[60, 61]⟩) :=
  ⟨h.a.cell 0, h.a.cell 1, h.a.cell 2, h.a.cell 3, h.a.cell 4, h.a.cell 5, h.b.cell 0, h.b.cell 1, h.b.cell 2, h.b.cell 3, h.b.cell 4, h.b.cell 5, h.l.cell 1⟩
theorem Opp.all2 {a0 a1 a2 a3 a4 a5 b0 b1 b2 b3 b4 b5 : Value} (h : Opp w wx mb fb x y l0 l1 l2 l3 l4 l5 st c ab bb lb #[a0, a1, a2, a3, a4, a5] #[b0, b1, b2, b3, b4, b5]) : wx.cell? ⟨ab, 0, none⟩ = some a0 ∧ wx.cell? ⟨ab, 1, none⟩ = some a1 ∧ wx.cell? ⟨ab, 2, none⟩ = some a2 ∧ wx.cell? ⟨ab, 3, none⟩ = some a3 ∧ wx.cell? ⟨ab, 4, none⟩ = some a4 ∧ wx.cell? ⟨ab, 5, none⟩ = some a5 ∧ wx.cell? ⟨bb, 0, none⟩ = some b0 ∧ wx.cell? ⟨bb, 1, none⟩ = some b1 ∧ wx.cell? ⟨bb, 2, none⟩ = some b2 ∧ wx.cell? ⟨bb, 3, none⟩ = some b3 ∧ wx.cell? ⟨bb, 4, none⟩ = some b4 ∧ wx.cell? ⟨bb, 5, none⟩ = some b5 ∧ wx.cell? ⟨lb, 2, none⟩ = some (.string ⟨#[61]⟩) :=
  ⟨h.a.cell 0, h.a.cell 1, h.a.cell 2, h.a.cell 3, h.a.cell 4, h.a.cell 5, h.b.cell 0, h.b.cell 1, h.b.cell 2, h.b.cell 3, h.b.cell 4, h.b.cell 5, h.l.cell 2⟩
theorem Opp.all3 {a0 a1 a2 a3 a4 a5 b0 b1 b2 b3 b4 b5 : Value} (h : Opp w wx mb fb x y l0 l1 l2 l3 l4 l5 st c ab bb lb #[a0, a1, a2, a3, a4, a5] #[b0, b1, b2, b3, b4, b5]) : wx.cell? ⟨ab, 0, none⟩ = some a0 ∧ wx.cell? ⟨ab, 1, none⟩ = some a1 ∧ wx.cell? ⟨ab, 2, none⟩ = some a2 ∧ wx.cell? ⟨ab, 3, none⟩ = some a3 ∧ wx.cell? ⟨ab, 4, none⟩ = some a4 ∧ wx.cell? ⟨ab, 5, none⟩ = some a5 ∧ wx.cell? ⟨bb, 0, none⟩ = some b0 ∧ wx.cell? ⟨bb, 1, none⟩ = some b1 ∧ wx.cell? ⟨bb, 2, none⟩ = some b2 ∧ wx.cell? ⟨bb, 3, none⟩ = some b3 ∧ wx.cell? ⟨bb, 4, none⟩ = some b4 ∧ wx.cell? ⟨bb, 5, none⟩ = some b5 ∧ wx.cell? ⟨lb, 3, none⟩ = some (.string ⟨#[33, 61]⟩) :=
  ⟨h.a.cell 0, h.a.cell 1, h.a.cell 2, h.a.cell 3, h.a.cell 4, h.a.cell 5, h.b.cell 0, h.b.cell 1, h.b.cell 2, h.b.cell 3, h.b.cell 4, h.b.cell 5, h.l.cell 3⟩
end
set_option maxHeartbeats 16000000 in
set_option maxRecDepth 100000 in
theorem test_succ {C : Ctx → Prop} (mb fb : Nat) (x : Itm) (y : Bn) (l0 l1 l2 l3 l4 l5 : Value) (st : Bool) (L D P S n : Nat) (hL : L ≤ 100) (hS : S ≤ 100) (hn : n ≤ 5) (hCX : ∀ E, C E → E.Ok ∧ E.x = x ∧ E.y = y) (hcl : ClassDoes C mb fb x y l0 l1 l2 l3 l4 l5 st L D P S) (hsu : SumDoes C mb fb x y l0 l1 l2 l3 l4 l5 st L D P S n) (ih : TestDoes C mb fb x y l0 l1 l2 l3 l4 l5 st L D P S n) : TestDoes C mb fb x y l0 l1 l2 l3 l4 l5 st (L + L + 14) (D + 2) (P + P + 2) (S + S + 3) (n + 1) := by
  intro w h
  have HCX := Hid.mk2 hCX
  have HC : Hid (∀ E, C E → E.Ok) := fun E hE => (hCX E hE).1
  have HCL : Hid (∀ w, MakAt w mb fb x y l0 l1 l2 l3 l4 l5 st → Calls Tryz.prog 81 #[.pointer (some ⟨mb, 0, none⟩)] w fun e w' => (∃ t b k, Pc C t b k 3 L D P S st ∧ e = .returned (pcV t b k)) ∧ MakAt w' mb fb x y l0 l1 l2 l3 l4 l5 st ∧ But fb w w') := hcl
  have HSU : Hid (∀ w, MakAt w mb fb x y l0 l1 l2 l3 l4 l5 st → Calls Tryz.prog 30 #[.pointer (some ⟨mb, 0, none⟩), .int .i64 n] w fun e w' => (∃ t b k, Pc C t b k 1 L D P S st ∧ e = .returned (pcV t b k)) ∧ MakAt w' mb fb x y l0 l1 l2 l3 l4 l5 st ∧ But fb w w') := hsu
  have HIH : Hid (∀ w, MakAt w mb fb x y l0 l1 l2 l3 l4 l5 st → Calls Tryz.prog 54 #[.pointer (some ⟨mb, 0, none⟩), .int .i64 n] w fun e w' => (∃ t b k, Pc C t b k 2 L D P S st ∧ e = .returned (pcV t b k)) ∧ MakAt w' mb fb x y l0 l1 l2 l3 l4 l5 st ∧ But fb w w') := ih
  clear hCX hcl hsu ih
  have hnn : ((n + 1 : Nat) : Int) = (n : Int) + 1 := by simp
  have hne0 : (((n : Int) + 1) == 0) = false := by simp; omega
  have hsub : (n : Int) + 1 - 1 = (n : Int) := by omega
  have t1 : Hid True := trivial
  have t2 : Hid True := trivial
  rw [hnn]
  clear hnn
  have HS := Hid.mk2 (sumM_start h)
  clear h
  go_enter Tryz.func54, Tryz.ntmps54
  go_upto_region 2 with fail
  generalize (w.alloc (.cells ag0 66)).alloc (.cells ag0 66) = W at HS ⊢
  obtain ⟨p, f, c0⟩ := HS.out.facts
  go_upto_block 0 with (go_at_call 29; refine (next_any 7 (by omega) _ _ HS.out.mak.fed).mono ?_; rintro e w0 ⟨⟨r, hr0, hr7, rfl⟩, hF, hB⟩; replace HS := Hid.mk2 (HS.out.next hF hB); clear hF hB c0 p f; obtain ⟨p, f, c0⟩ := HS.out.facts)
  go_cut [] (fun wx => ∃ t b k, Pc C t b k 2 (L + L + 7) (D + 1) (P + P + 1) (S + S + 2) st ∧ SumM w wx mb fb x y l0 l1 l2 l3 l4 l5 st (pcA t b k))
  case first =>
    rcases (show r = 0 ∨ (1 ≤ r ∧ r ≤ 4) ∨ r = 5 ∨ r = 6 by omega) with rfl | ⟨hr3, hr4⟩ | rfl | rfl
    · go_wp2_with (first
      | (go_at_call 81; have u1 := t1; clear t1; refine (HCL.out _ HS.out.mak).mono ?_; rintro e w1 ⟨⟨ta, ba, ka, hPa, rfl⟩, hM, hB⟩; obtain ⟨va, fa, sa, ia⟩ := ka; unfold pcV pcA; have hq1 : w.heap.size + 1 < w1.heap.size := (HS.out.call hM hB).pp.lt; replace HS := Hid.mk2 ((HS.out.call hM hB).al (.cells (ag ta ba va fa sa ia) 66)); have HA := Hid.mk2 (Blk.new w1 (ag ta ba va fa sa ia) 66); have HPA := Hid.mk2 hPa; have hlt1 : fb < w1.heap.size := hM.fed.lt; clear hM hB hPa c0 p f; obtain ⟨p, f, c0⟩ := HS.out.facts; have a := HA.out.cell)
      | (go_at_call 81; have u2 := t2; clear t2; refine (HCL.out _ HS.out.mak).mono ?_; rintro e w2 ⟨⟨tb, bb, kb, hPb, rfl⟩, hM, hB⟩; obtain ⟨vb, fb', sb, ib⟩ := kb; unfold pcV pcA; have hq2 : w.heap.size + 1 < w2.heap.size := (HS.out.call hM hB).pp.lt; replace HS := Hid.mk2 ((HS.out.call hM hB).al (.cells (ag tb bb vb fb' sb ib) 66)); replace HA := Hid.mk2 ((HA.out.but hB (by omega)).alloc (.cells (ag tb bb vb fb' sb ib) 66)); have HB := Hid.mk2 (Blk.new w2 (ag tb bb vb fb' sb ib) 66); have HPB := Hid.mk2 hPb; have hlt2 : fb < w2.heap.size := hM.fed.lt; clear hM hB hPb c0 p f a; obtain ⟨p, f, c0⟩ := HS.out.facts; have a := HA.out.cell; have d := HB.out.cell)
      | (go_at_call_of 51 (Value.string ⟨#[61]⟩); refine (joined_eq (.inr rfl) HC.out HPA.out HPB.out (by omega) (by omega) _).mono ?_; rintro e w5 ⟨⟨tc, bc, kc, hPc, rfl⟩, hb5⟩; obtain ⟨vc, fc, sc, ic⟩ := kc; unfold pcV pcA; replace HS := Hid.mk2 (HS.out.below hb5); have HPC := Hid.mk2 hPc; have m1 : w1.heap.size ≠ w.heap.size + 1 := (by omega); have m2 : w.heap.size + 1 ≠ w1.heap.size := (by omega); have m3 : w2.heap.size ≠ w.heap.size + 1 := (by omega); have m4 : w.heap.size + 1 ≠ w2.heap.size := (by omega); replace HA := Hid.mk2 (HA.out.below hb5 HA.out.lt); replace HB := Hid.mk2 (HB.out.below hb5 HB.out.lt); clear a d; have a := HA.out.cell; have d := HB.out.cell; clear hb5 hPc c0 p f; obtain ⟨p, f, c0⟩ := HS.out.facts))
      go_meet
      case rel => exact ⟨tc, bc, ⟨vc, fc, sc, ic⟩, HPC.out.mono (by omega) (by omega) (by omega) (by omega), HS.out.put _ _ _ _ _ _⟩
    · have hr1 : (r == 0) = false := by simp; omega
      have hr2 : decide (r < 5) = true := by simp; omega
      go_upto_region 22 with (first
        | (go_at_call 30; have u1 := t1; clear t1; refine (HSU.out _ HS.out.mak).mono ?_; rintro e w1 ⟨⟨ta, ba, ka, hPa, rfl⟩, hM, hB⟩; obtain ⟨va, fa, sa, ia⟩ := ka; unfold pcV pcA; have hq1 : w.heap.size + 1 < w1.heap.size := (HS.out.call hM hB).pp.lt; replace HS := Hid.mk2 ((HS.out.call hM hB).al (.cells (ag ta ba va fa sa ia) 66)); have HA := Hid.mk2 (Blk.new w1 (ag ta ba va fa sa ia) 66); have HPA := Hid.mk2 hPa; have hlt1 : fb < w1.heap.size := hM.fed.lt; clear hM hB hPa c0 p f; obtain ⟨p, f, c0⟩ := HS.out.facts; have a := HA.out.cell)
        | (go_at_call 30; have u2 := t2; clear t2; refine (HSU.out _ HS.out.mak).mono ?_; rintro e w2 ⟨⟨tb, bb, kb, hPb, rfl⟩, hM, hB⟩; obtain ⟨vb, fb', sb, ib⟩ := kb; unfold pcV pcA; have hq2 : w.heap.size + 1 < w2.heap.size := (HS.out.call hM hB).pp.lt; replace HS := Hid.mk2 ((HS.out.call hM hB).al (.cells (ag tb bb vb fb' sb ib) 66)); replace HA := Hid.mk2 ((HA.out.but hB (by omega)).alloc (.cells (ag tb bb vb fb' sb ib) 66)); have HB := Hid.mk2 (Blk.new w2 (ag tb bb vb fb' sb ib) 66); have HPB := Hid.mk2 hPb; have hlt2 : fb < w2.heap.size := hM.fed.lt; clear hM hB hPb c0 p f a; obtain ⟨p, f, c0⟩ := HS.out.facts; have a := HA.out.cell; have d := HB.out.cell))
      have hl0 := Blk.new (w2.alloc (.cells (ag tb bb vb fb' sb ib) 66)) #[.string ⟨#[60]⟩, .string ⟨#[60, 61]⟩, .string ⟨#[61]⟩, .string ⟨#[33, 61]⟩] 9
      rw [show (w2.alloc (.cells (ag tb bb vb fb' sb ib) 66)).heap.size = w2.heap.size + 1 by simp] at hl0
      have HO := Hid.mk2 (Opp.mk (HS.out.al (.cells #[.string ⟨#[60]⟩, .string ⟨#[60, 61]⟩, .string ⟨#[61]⟩, .string ⟨#[33, 61]⟩] 9)) (HA.out.alloc (.cells #[.string ⟨#[60]⟩, .string ⟨#[60, 61]⟩, .string ⟨#[61]⟩, .string ⟨#[33, 61]⟩] 9)) (HB.out.alloc (.cells #[.string ⟨#[60]⟩, .string ⟨#[60, 61]⟩, .string ⟨#[61]⟩, .string ⟨#[33, 61]⟩] 9)) hl0 hq1 hq2 (by omega))
      clear HA HB HS hl0 c0 p f a d hr1 hr2
      generalize (w2.alloc (.cells (ag tb bb vb fb' sb ib) 66)).alloc (.cells #[.string ⟨#[60]⟩, .string ⟨#[60, 61]⟩, .string ⟨#[61]⟩, .string ⟨#[33, 61]⟩] 9) = W5 at HO ⊢
      obtain ⟨p, f, c0⟩ := HO.out.s.facts
      have a := HO.out.a.cell
      have d := HO.out.b.cell
      have l := HO.out.l.cell
      obtain rfl | rfl | rfl | rfl : r = 1 ∨ r = 2 ∨ r = 3 ∨ r = 4 := by omega
      · have hwr : IntKind.i64.wrap 0 = 0 := rfl
        go_region_held3 (fun w' => w'.cell? ⟨w1.heap.size, 0, none⟩ = some (.string ta) ∧ w'.cell? ⟨w1.heap.size, 1, none⟩ = some (.int .i64 ba) ∧ w'.cell? ⟨w1.heap.size, 2, none⟩ = some (.int .i64 va) ∧ w'.cell? ⟨w1.heap.size, 3, none⟩ = some (.int .i64 fa) ∧ w'.cell? ⟨w1.heap.size, 4, none⟩ = some (.int .i64 sa) ∧ w'.cell? ⟨w1.heap.size, 5, none⟩ = some (.bool ia) ∧ w'.cell? ⟨w2.heap.size, 0, none⟩ = some (.string tb) ∧ w'.cell? ⟨w2.heap.size, 1, none⟩ = some (.int .i64 bb) ∧ w'.cell? ⟨w2.heap.size, 2, none⟩ = some (.int .i64 vb) ∧ w'.cell? ⟨w2.heap.size, 3, none⟩ = some (.int .i64 fb') ∧ w'.cell? ⟨w2.heap.size, 4, none⟩ = some (.int .i64 sb) ∧ w'.cell? ⟨w2.heap.size, 5, none⟩ = some (.bool ib) ∧ w'.cell? ⟨w2.heap.size + 1, 0, none⟩ = some (.string ⟨#[60]⟩)) (first | with_reducible exact HO.out.all0 | with_reducible exact HO.out.drew.all0 | with_reducible exact ((((((HO.out.setP _ _).setP _ _).setP _ _).setP _ _).setP _ _).setP _ _).all0) (first | (go_at_call_of 51 (Value.string ⟨#[60]⟩); refine (joined_lt rfl HC.out HPA.out HPB.out (by omega) (by omega) _).mono ?_; rintro e w5 ⟨⟨tc, bc, kc, hPc, rfl⟩, hb5⟩; obtain ⟨vc, fc, sc, ic⟩ := kc; unfold pcV pcA; replace HO := Hid.mk2 (HO.out.drew.below hb5); have HPC := Hid.mk2 hPc; clear hb5 hPc c0 p f; obtain ⟨p, f, c0⟩ := HO.out.s.facts))
        all_goals go_wp2_with fail
        all_goals go_meet
        all_goals exact ⟨tc, bc, ⟨vc, fc, sc, ic⟩, HPC.out.mono (by omega) (by omega) (by omega) (by omega), HO.out.s.put _ _ _ _ _ _⟩
      · have hwr : IntKind.i64.wrap 1 = 1 := rfl
        go_region_held3 (fun w' => w'.cell? ⟨w1.heap.size, 0, none⟩ = some (.string ta) ∧ w'.cell? ⟨w1.heap.size, 1, none⟩ = some (.int .i64 ba) ∧ w'.cell? ⟨w1.heap.size, 2, none⟩ = some (.int .i64 va) ∧ w'.cell? ⟨w1.heap.size, 3, none⟩ = some (.int .i64 fa) ∧ w'.cell? ⟨w1.heap.size, 4, none⟩ = some (.int .i64 sa) ∧ w'.cell? ⟨w1.heap.size, 5, none⟩ = some (.bool ia) ∧ w'.cell? ⟨w2.heap.size, 0, none⟩ = some (.string tb) ∧ w'.cell? ⟨w2.heap.size, 1, none⟩ = some (.int .i64 bb) ∧ w'.cell? ⟨w2.heap.size, 2, none⟩ = some (.int .i64 vb) ∧ w'.cell? ⟨w2.heap.size, 3, none⟩ = some (.int .i64 fb') ∧ w'.cell? ⟨w2.heap.size, 4, none⟩ = some (.int .i64 sb) ∧ w'.cell? ⟨w2.heap.size, 5, none⟩ = some (.bool ib) ∧ w'.cell? ⟨w2.heap.size + 1, 1, none⟩ = some (.string ⟨#[60, 61]⟩)) (first | with_reducible exact HO.out.all1 | with_reducible exact HO.out.drew.all1 | with_reducible exact ((((((HO.out.setP _ _).setP _ _).setP _ _).setP _ _).setP _ _).setP _ _).all1) (first | (go_at_call_of 51 (Value.string ⟨#[60, 61]⟩); refine (joined_le rfl HC.out HPA.out HPB.out (by omega) (by omega) _).mono ?_; rintro e w5 ⟨⟨tc, bc, kc, hPc, rfl⟩, hb5⟩; obtain ⟨vc, fc, sc, ic⟩ := kc; unfold pcV pcA; replace HO := Hid.mk2 (HO.out.drew.below hb5); have HPC := Hid.mk2 hPc; clear hb5 hPc c0 p f; obtain ⟨p, f, c0⟩ := HO.out.s.facts))
        all_goals go_wp2_with fail
        all_goals go_meet
        all_goals exact ⟨tc, bc, ⟨vc, fc, sc, ic⟩, HPC.out.mono (by omega) (by omega) (by omega) (by omega), HO.out.s.put _ _ _ _ _ _⟩
      · have hwr : IntKind.i64.wrap 2 = 2 := rfl
        go_region_held3 (fun w' => w'.cell? ⟨w1.heap.size, 0, none⟩ = some (.string ta) ∧ w'.cell? ⟨w1.heap.size, 1, none⟩ = some (.int .i64 ba) ∧ w'.cell? ⟨w1.heap.size, 2, none⟩ = some (.int .i64 va) ∧ w'.cell? ⟨w1.heap.size, 3, none⟩ = some (.int .i64 fa) ∧ w'.cell? ⟨w1.heap.size, 4, none⟩ = some (.int .i64 sa) ∧ w'.cell? ⟨w1.heap.size, 5, none⟩ = some (.bool ia) ∧ w'.cell? ⟨w2.heap.size, 0, none⟩ = some (.string tb) ∧ w'.cell? ⟨w2.heap.size, 1, none⟩ = some (.int .i64 bb) ∧ w'.cell? ⟨w2.heap.size, 2, none⟩ = some (.int .i64 vb) ∧ w'.cell? ⟨w2.heap.size, 3, none⟩ = some (.int .i64 fb') ∧ w'.cell? ⟨w2.heap.size, 4, none⟩ = some (.int .i64 sb) ∧ w'.cell? ⟨w2.heap.size, 5, none⟩ = some (.bool ib) ∧ w'.cell? ⟨w2.heap.size + 1, 2, none⟩ = some (.string ⟨#[61]⟩)) (first | with_reducible exact HO.out.all2 | with_reducible exact HO.out.drew.all2 | with_reducible exact ((((((HO.out.setP _ _).setP _ _).setP _ _).setP _ _).setP _ _).setP _ _).all2) (first | (go_at_call_of 51 (Value.string ⟨#[61]⟩); refine (joined_eq (.inl rfl) HC.out HPA.out HPB.out (by omega) (by omega) _).mono ?_; rintro e w5 ⟨⟨tc, bc, kc, hPc, rfl⟩, hb5⟩; obtain ⟨vc, fc, sc, ic⟩ := kc; unfold pcV pcA; replace HO := Hid.mk2 (HO.out.drew.below hb5); have HPC := Hid.mk2 hPc; clear hb5 hPc c0 p f; obtain ⟨p, f, c0⟩ := HO.out.s.facts))
        all_goals go_wp2_with fail
        all_goals go_meet
        all_goals exact ⟨tc, bc, ⟨vc, fc, sc, ic⟩, HPC.out.mono (by omega) (by omega) (by omega) (by omega), HO.out.s.put _ _ _ _ _ _⟩
      · have hwr : IntKind.i64.wrap 3 = 3 := rfl
        go_region_held3 (fun w' => w'.cell? ⟨w1.heap.size, 0, none⟩ = some (.string ta) ∧ w'.cell? ⟨w1.heap.size, 1, none⟩ = some (.int .i64 ba) ∧ w'.cell? ⟨w1.heap.size, 2, none⟩ = some (.int .i64 va) ∧ w'.cell? ⟨w1.heap.size, 3, none⟩ = some (.int .i64 fa) ∧ w'.cell? ⟨w1.heap.size, 4, none⟩ = some (.int .i64 sa) ∧ w'.cell? ⟨w1.heap.size, 5, none⟩ = some (.bool ia) ∧ w'.cell? ⟨w2.heap.size, 0, none⟩ = some (.string tb) ∧ w'.cell? ⟨w2.heap.size, 1, none⟩ = some (.int .i64 bb) ∧ w'.cell? ⟨w2.heap.size, 2, none⟩ = some (.int .i64 vb) ∧ w'.cell? ⟨w2.heap.size, 3, none⟩ = some (.int .i64 fb') ∧ w'.cell? ⟨w2.heap.size, 4, none⟩ = some (.int .i64 sb) ∧ w'.cell? ⟨w2.heap.size, 5, none⟩ = some (.bool ib) ∧ w'.cell? ⟨w2.heap.size + 1, 3, none⟩ = some (.string ⟨#[33, 61]⟩)) (first | with_reducible exact HO.out.all3 | with_reducible exact HO.out.drew.all3 | with_reducible exact ((((((HO.out.setP _ _).setP _ _).setP _ _).setP _ _).setP _ _).setP _ _).all3) (first | (go_at_call_of 51 (Value.string ⟨#[33, 61]⟩); refine (joined_ne (.inl rfl) HC.out HPA.out HPB.out (by omega) (by omega) _).mono ?_; rintro e w5 ⟨⟨tc, bc, kc, hPc, rfl⟩, hb5⟩; obtain ⟨vc, fc, sc, ic⟩ := kc; unfold pcV pcA; replace HO := Hid.mk2 (HO.out.drew.below hb5); have HPC := Hid.mk2 hPc; clear hb5 hPc c0 p f; obtain ⟨p, f, c0⟩ := HO.out.s.facts))
        all_goals go_wp2_with fail
        all_goals go_meet
        all_goals exact ⟨tc, bc, ⟨vc, fc, sc, ic⟩, HPC.out.mono (by omega) (by omega) (by omega) (by omega), HO.out.s.put _ _ _ _ _ _⟩
    · go_wp2_with (first
      | (go_at_call 54; have u1 := t1; clear t1; refine (HIH.out _ HS.out.mak).mono ?_; rintro e w1 ⟨⟨ta, ba, ka, hPa, rfl⟩, hM, hB⟩; obtain ⟨va, fa, sa, ia⟩ := ka; unfold pcV pcA; have hq1 : w.heap.size + 1 < w1.heap.size := (HS.out.call hM hB).pp.lt; replace HS := Hid.mk2 ((HS.out.call hM hB).al (.cells (ag ta ba va fa sa ia) 66)); have HA := Hid.mk2 (Blk.new w1 (ag ta ba va fa sa ia) 66); have HPA := Hid.mk2 hPa; have hlt1 : fb < w1.heap.size := hM.fed.lt; clear hM hB hPa c0 p f; obtain ⟨p, f, c0⟩ := HS.out.facts; have a := HA.out.cell)
      | (go_at_call 54; have u2 := t2; clear t2; refine (HIH.out _ HS.out.mak).mono ?_; rintro e w2 ⟨⟨tb, bb, kb, hPb, rfl⟩, hM, hB⟩; obtain ⟨vb, fb', sb, ib⟩ := kb; unfold pcV pcA; have hq2 : w.heap.size + 1 < w2.heap.size := (HS.out.call hM hB).pp.lt; replace HS := Hid.mk2 ((HS.out.call hM hB).al (.cells (ag tb bb vb fb' sb ib) 66)); replace HA := Hid.mk2 ((HA.out.but hB (by omega)).alloc (.cells (ag tb bb vb fb' sb ib) 66)); have HB := Hid.mk2 (Blk.new w2 (ag tb bb vb fb' sb ib) 66); have HPB := Hid.mk2 hPb; have hlt2 : fb < w2.heap.size := hM.fed.lt; clear hM hB hPb c0 p f a; obtain ⟨p, f, c0⟩ := HS.out.facts; have a := HA.out.cell; have d := HB.out.cell)
      | (go_at_call_of 82 (Value.string ⟨#[97, 110, 100]⟩); refine (either_and HC.out HPA.out HPB.out (by omega) (by omega) _).mono ?_; rintro e w5 ⟨⟨tc, bc, kc, hPc, rfl⟩, hb5⟩; obtain ⟨vc, fc, sc, ic⟩ := kc; unfold pcV pcA; replace HS := Hid.mk2 (HS.out.below hb5); have HPC := Hid.mk2 hPc; clear hb5 hPc c0 p f; obtain ⟨p, f, c0⟩ := HS.out.facts))
      go_meet
      case rel => exact ⟨tc, bc, ⟨vc, fc, sc, ic⟩, HPC.out.mono (by omega) (by omega) (by omega) (by omega), HS.out.put _ _ _ _ _ _⟩
    · go_wp2_with (first
      | (go_at_call 54; have u1 := t1; clear t1; refine (HIH.out _ HS.out.mak).mono ?_; rintro e w1 ⟨⟨ta, ba, ka, hPa, rfl⟩, hM, hB⟩; obtain ⟨va, fa, sa, ia⟩ := ka; unfold pcV pcA; have hq1 : w.heap.size + 1 < w1.heap.size := (HS.out.call hM hB).pp.lt; replace HS := Hid.mk2 ((HS.out.call hM hB).al (.cells (ag ta ba va fa sa ia) 66)); have HA := Hid.mk2 (Blk.new w1 (ag ta ba va fa sa ia) 66); have HPA := Hid.mk2 hPa; have hlt1 : fb < w1.heap.size := hM.fed.lt; clear hM hB hPa c0 p f; obtain ⟨p, f, c0⟩ := HS.out.facts; have a := HA.out.cell)
      | (go_at_call 54; have u2 := t2; clear t2; refine (HIH.out _ HS.out.mak).mono ?_; rintro e w2 ⟨⟨tb, bb, kb, hPb, rfl⟩, hM, hB⟩; obtain ⟨vb, fb', sb, ib⟩ := kb; unfold pcV pcA; have hq2 : w.heap.size + 1 < w2.heap.size := (HS.out.call hM hB).pp.lt; replace HS := Hid.mk2 ((HS.out.call hM hB).al (.cells (ag tb bb vb fb' sb ib) 66)); replace HA := Hid.mk2 ((HA.out.but hB (by omega)).alloc (.cells (ag tb bb vb fb' sb ib) 66)); have HB := Hid.mk2 (Blk.new w2 (ag tb bb vb fb' sb ib) 66); have HPB := Hid.mk2 hPb; have hlt2 : fb < w2.heap.size := hM.fed.lt; clear hM hB hPb c0 p f a; obtain ⟨p, f, c0⟩ := HS.out.facts; have a := HA.out.cell; have d := HB.out.cell)
      | (go_at_call_of 82 (Value.string ⟨#[111, 114]⟩); refine (either_or HC.out HPA.out HPB.out (by omega) (by omega) _).mono ?_; rintro e w5 ⟨⟨tc, bc, kc, hPc, rfl⟩, hb5⟩; obtain ⟨vc, fc, sc, ic⟩ := kc; unfold pcV pcA; replace HS := Hid.mk2 (HS.out.below hb5); have HPC := Hid.mk2 hPc; clear hb5 hPc c0 p f; obtain ⟨p, f, c0⟩ := HS.out.facts))
      go_meet
      case rel => exact ⟨tc, bc, ⟨vc, fc, sc, ic⟩, HPC.out.mono (by omega) (by omega) (by omega) (by omega), HS.out.put _ _ _ _ _ _⟩
  case rest =>
    obtain ⟨t, b, k, hP, hS⟩ := hcut
    obtain ⟨v, flt, s, fi⟩ := k
    unfold pcA at hS
    have HP := Hid.mk2 hP
    have HS := Hid.mk2 hS
    clear hP hS
    obtain ⟨p, f, c0⟩ := HS.out.facts
    go_upto_if 95 with (go_at_call 29; refine (next_any 5 (by omega) _ _ HS.out.mak.fed).mono ?_; rintro e w1 ⟨⟨r, hr0, hr5, rfl⟩, hF, hB⟩; replace HS := Hid.mk2 (HS.out.next hF hB); clear hF hB c0 p f; obtain ⟨p, f, c0⟩ := HS.out.facts)
    go_cut [] (fun wx => ∃ t b k, Pc C t b k 2 (L + L + 7 + 4) (D + 1) (P + P + 1 + 1) (S + S + 2 + 1) st ∧ SumM w wx mb fb x y l0 l1 l2 l3 l4 l5 st (pcA t b k))
    case first =>
      by_cases hr : r = 1
      · subst hr
        go_wp2_with (go_at_call 52; refine (turned_nott HC.out HP.out (by omega) (by omega) _).mono ?_; rintro e w2 ⟨⟨t', b', k', hP', rfl⟩, hb2⟩; obtain ⟨v', flt', s', fi'⟩ := k'; unfold pcV pcA; replace HS := Hid.mk2 (HS.out.below hb2); have HP' := Hid.mk2 hP'; clear hb2 hP' c0 p f; obtain ⟨p, f, c0⟩ := HS.out.facts)
        go_meet
        case rel => exact ⟨t', b', ⟨v', flt', s', fi'⟩, HP'.out, HS.out.put _ _ _ _ _ _⟩
      · have hr' : (r == 1) = false := by simpa using hr
        go_wp2
        go_meet
        case rel => exact ⟨t, b, ⟨v, flt, s, fi⟩, HP.out.mono (by omega) (Nat.le_refl _) (by omega) (by omega), HS.out⟩
    case rest =>
      clear HS HP c0 p f
      obtain ⟨t', b', k', hP, hS⟩ := hcut
      obtain ⟨v', flt', s', fi'⟩ := k'
      unfold pcA at hS
      have HP := Hid.mk2 hP
      have HS := Hid.mk2 hS
      clear hP hS
      obtain ⟨p, f, c0⟩ := HS.out.facts
      go_upto_region 25 with fail
      go_region_held3 (fun w' => w'.cell? ⟨mb, 0, none⟩ = some (.pointer (some ⟨fb, 0, none⟩)) ∧ w'.cell? ⟨w.heap.size + 1, 0, none⟩ = some (.string t') ∧ w'.cell? ⟨w.heap.size + 1, 1, none⟩ = some (.int .i64 b') ∧ w'.cell? ⟨w.heap.size + 1, 2, none⟩ = some (.int .i64 v') ∧ w'.cell? ⟨w.heap.size + 1, 3, none⟩ = some (.int .i64 flt') ∧ w'.cell? ⟨w.heap.size + 1, 4, none⟩ = some (.int .i64 s') ∧ w'.cell? ⟨w.heap.size + 1, 5, none⟩ = some (.bool fi')) (first | with_reducible exact HS.out.drew.seven | with_reducible exact HS.out.seven | with_reducible exact HS.out.seven2) (first | (go_at_call 53; refine (loose_made HC.out HP.out (by omega) fb _ HS.out.drew.mak.fed).mono ?_; rintro e w3 ⟨⟨t3, b3, k3, hP3, rfl⟩, hF, hB⟩; obtain ⟨v3, flt3, s3, fi3⟩ := k3; unfold pcV pcA; replace HS := Hid.mk2 (HS.out.drew.next hF hB); have HP3 := Hid.mk2 hP3; clear hF hB hP3 c0 p f; have oo := HS.out.out.cell; have oq := HS.out.out.free))
      all_goals go_wp2_with fail
      all_goals
        obtain ⟨hfb, hmk, hbl⟩ := HS.out.om.fin (.string t3) (.int .i64 b3) (.int .i64 v3) (.int .i64 flt3) (.int .i64 s3) (.bool fi3)
        have gg := hfb.cell
        unfold finM at gg hbl hmk
        exact bodyPost_ret (v := .agg #[.string t3, .int .i64 b3, .int .i64 v3, .int .i64 flt3, .int .i64 s3, .bool fi3]) (by simp [results, Tryz.results54, go_sem, gg]) rfl ⟨⟨t3, b3, ⟨v3, flt3, s3, fi3⟩, HP3.out.mono (by omega) (by omega) (by omega) (by omega), rfl⟩, hmk, hbl⟩
end Go.Proofs.YtjjbmbjmdgoofaaGreatDoor
