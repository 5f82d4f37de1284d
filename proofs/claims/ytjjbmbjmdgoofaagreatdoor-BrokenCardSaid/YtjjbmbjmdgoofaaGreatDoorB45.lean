/-
  test: an EXPR that is a truth, so deep.
-/
import Derived.Test.YtjjbmbjmdgoofaaGreatDoorB44
import Derived.Deep.CutBlock
set_option linter.unusedVariables false
set_option linter.unusedSimpArgs false
namespace Go.Proofs.YtjjbmbjmdgoofaaGreatDoor
open Go.RowKit Go.Deep
def TestDoes (C : Ctx → Prop) (mb fb : Nat) (x : Itm) (y : Bn) (l0 l1 l2 l3 l4 l5 : Value) (st : Bool) (L D P S : Nat) (n : Nat) : Prop := ∀ w, MakAt w mb fb x y l0 l1 l2 l3 l4 l5 st → Calls Tryz.prog 54 #[.pointer (some ⟨mb, 0, none⟩), .int .i64 n] w fun e w' => (∃ t b k, Pc C t b k 2 L D P S st ∧ e = .returned (pcV t b k)) ∧ MakAt w' mb fb x y l0 l1 l2 l3 l4 l5 st ∧ But fb w w'
def ClassDoes (C : Ctx → Prop) (mb fb : Nat) (x : Itm) (y : Bn) (l0 l1 l2 l3 l4 l5 : Value) (st : Bool) (L D P S : Nat) : Prop := ∀ w, MakAt w mb fb x y l0 l1 l2 l3 l4 l5 st → Calls Tryz.prog 81 #[.pointer (some ⟨mb, 0, none⟩)] w fun e w' => (∃ t b k, Pc C t b k 3 L D P S st ∧ e = .returned (pcV t b k)) ∧ MakAt w' mb fb x y l0 l1 l2 l3 l4 l5 st ∧ But fb w w'
set_option maxHeartbeats 8000000 in
set_option maxRecDepth 100000 in
theorem test_zero {C : Ctx → Prop} (mb fb : Nat) (x : Itm) (y : Bn) (l0 l1 l2 l3 l4 l5 : Value) (st : Bool) (hCX : ∀ E, C E → E.Ok ∧ E.x = x ∧ E.y = y) (hcl : ClassDoes C mb fb x y l0 l1 l2 l3 l4 l5 st 4 0 1 1) : TestDoes C mb fb x y l0 l1 l2 l3 l4 l5 st 21 2 4 5 0 := by
  intro w h
  have HCX := Hid.mk2 hCX
  have HC : Hid (∀ E, C E → E.Ok) := fun E hE => (hCX E hE).1
  have HCL : Hid (∀ w, MakAt w mb fb x y l0 l1 l2 l3 l4 l5 st → Calls Tryz.prog 81 #[.pointer (some ⟨mb, 0, none⟩)] w fun e w' => (∃ t b k, Pc C t b k 3 4 0 1 1 st ∧ e = .returned (pcV t b k)) ∧ MakAt w' mb fb x y l0 l1 l2 l3 l4 l5 st ∧ But fb w w') := hcl
  clear hCX hcl
  have t1 : Hid True := trivial
  have t2 : Hid True := trivial
  have HS := Hid.mk2 (sumM_start h)
  clear h
  go_enter Tryz.func54, Tryz.ntmps54
  go_upto_region 2 with fail
  generalize (w.alloc (.cells ag0 66)).alloc (.cells ag0 66) = W at HS ⊢
  obtain ⟨p, f, c0⟩ := HS.out.facts
  go_upto_block 0 with (go_at_call 29; refine (next_any 7 (by omega) _ _ HS.out.mak.fed).mono ?_; rintro e w0 ⟨⟨r, hr0, hr7, rfl⟩, hF, hB⟩; replace HS := Hid.mk2 (HS.out.next hF hB); clear hF hB c0 p f; obtain ⟨p, f, c0⟩ := HS.out.facts)
  go_cut [] (fun wx => ∃ t b k, Pc C t b k 2 (14) (1) (3) (4) st ∧ SumM w wx mb fb x y l0 l1 l2 l3 l4 l5 st (pcA t b k))
  case first =>
    obtain rfl | rfl | rfl | rfl | rfl | rfl | rfl : r = 0 ∨ r = 1 ∨ r = 2 ∨ r = 3 ∨ r = 4 ∨ r = 5 ∨ r = 6 := by omega
    · go_wp2
      go_meet
      case rel => exact ⟨⟨#[116, 114, 117, 101]⟩, 6, ⟨1, 0, 1, true⟩, (true_pc HCX.out st).mono (by omega) (by omega) (by omega) (by omega), HS.out.put _ _ _ _ _ _⟩
    · go_wp2
      go_meet
      case rel => exact ⟨⟨#[116, 114, 117, 101]⟩, 6, ⟨1, 0, 1, true⟩, (true_pc HCX.out st).mono (by omega) (by omega) (by omega) (by omega), HS.out.put _ _ _ _ _ _⟩
    · go_wp2
      go_meet
      case rel => exact ⟨⟨#[102, 97, 108, 115, 101]⟩, 6, ⟨0, 0, 1, true⟩, (false_pc HCX.out st).mono (by omega) (by omega) (by omega) (by omega), HS.out.put _ _ _ _ _ _⟩
    · go_wp2_with (first
      | (go_at_call 81; have u1 := t1; clear t1; refine (HCL.out _ HS.out.mak).mono ?_; rintro e w1 ⟨⟨ta, ba, ka, hPa, rfl⟩, hM, hB⟩; obtain ⟨va, fa, sa, ia⟩ := ka; unfold pcV pcA; have hq1 : w.heap.size + 1 < w1.heap.size := (HS.out.call hM hB).pp.lt; replace HS := Hid.mk2 ((HS.out.call hM hB).al (.cells (ag ta ba va fa sa ia) 66)); have HA := Hid.mk2 (Blk.new w1 (ag ta ba va fa sa ia) 66); have HPA := Hid.mk2 hPa; have hlt1 : fb < w1.heap.size := hM.fed.lt; clear hM hB hPa c0 p f; obtain ⟨p, f, c0⟩ := HS.out.facts; have a := HA.out.cell)
      | (go_at_call 81; have u2 := t2; clear t2; refine (HCL.out _ HS.out.mak).mono ?_; rintro e w2 ⟨⟨tb, bb, kb, hPb, rfl⟩, hM, hB⟩; obtain ⟨vb, fb', sb, ib⟩ := kb; unfold pcV pcA; have hq2 : w.heap.size + 1 < w2.heap.size := (HS.out.call hM hB).pp.lt; replace HS := Hid.mk2 ((HS.out.call hM hB).al (.cells (ag tb bb vb fb' sb ib) 66)); replace HA := Hid.mk2 ((HA.out.but hB (by omega)).alloc (.cells (ag tb bb vb fb' sb ib) 66)); have HB := Hid.mk2 (Blk.new w2 (ag tb bb vb fb' sb ib) 66); have HPB := Hid.mk2 hPb; have hlt2 : fb < w2.heap.size := hM.fed.lt; clear hM hB hPb c0 p f a; obtain ⟨p, f, c0⟩ := HS.out.facts; have a := HA.out.cell; have d := HB.out.cell)
      | (go_at_call_of 51 (Value.string ⟨#[61]⟩); refine (joined_eq (.inr rfl) HC.out HPA.out HPB.out (by omega) (by omega) _).mono ?_; rintro e w5 ⟨⟨tc, bc, kc, hPc, rfl⟩, hb5⟩; obtain ⟨vc, fc, sc, ic⟩ := kc; unfold pcV pcA; replace HS := Hid.mk2 (HS.out.below hb5); have HPC := Hid.mk2 hPc; have m1 : w1.heap.size ≠ w.heap.size + 1 := (by omega); have m2 : w.heap.size + 1 ≠ w1.heap.size := (by omega); have m3 : w2.heap.size ≠ w.heap.size + 1 := (by omega); have m4 : w.heap.size + 1 ≠ w2.heap.size := (by omega); replace HA := Hid.mk2 (HA.out.below hb5 HA.out.lt); replace HB := Hid.mk2 (HB.out.below hb5 HB.out.lt); clear a d; have a := HA.out.cell; have d := HB.out.cell; clear hb5 hPc c0 p f; obtain ⟨p, f, c0⟩ := HS.out.facts))
      go_meet
      case rel => exact ⟨tc, bc, ⟨vc, fc, sc, ic⟩, HPC.out.mono (by omega) (by omega) (by omega) (by omega), HS.out.put _ _ _ _ _ _⟩
    · go_wp2_with (first
      | (go_at_call 81; have u1 := t1; clear t1; refine (HCL.out _ HS.out.mak).mono ?_; rintro e w1 ⟨⟨ta, ba, ka, hPa, rfl⟩, hM, hB⟩; obtain ⟨va, fa, sa, ia⟩ := ka; unfold pcV pcA; have hq1 : w.heap.size + 1 < w1.heap.size := (HS.out.call hM hB).pp.lt; replace HS := Hid.mk2 ((HS.out.call hM hB).al (.cells (ag ta ba va fa sa ia) 66)); have HA := Hid.mk2 (Blk.new w1 (ag ta ba va fa sa ia) 66); have HPA := Hid.mk2 hPa; have hlt1 : fb < w1.heap.size := hM.fed.lt; clear hM hB hPa c0 p f; obtain ⟨p, f, c0⟩ := HS.out.facts; have a := HA.out.cell)
      | (go_at_call 81; have u2 := t2; clear t2; refine (HCL.out _ HS.out.mak).mono ?_; rintro e w2 ⟨⟨tb, bb, kb, hPb, rfl⟩, hM, hB⟩; obtain ⟨vb, fb', sb, ib⟩ := kb; unfold pcV pcA; have hq2 : w.heap.size + 1 < w2.heap.size := (HS.out.call hM hB).pp.lt; replace HS := Hid.mk2 ((HS.out.call hM hB).al (.cells (ag tb bb vb fb' sb ib) 66)); replace HA := Hid.mk2 ((HA.out.but hB (by omega)).alloc (.cells (ag tb bb vb fb' sb ib) 66)); have HB := Hid.mk2 (Blk.new w2 (ag tb bb vb fb' sb ib) 66); have HPB := Hid.mk2 hPb; have hlt2 : fb < w2.heap.size := hM.fed.lt; clear hM hB hPb c0 p f a; obtain ⟨p, f, c0⟩ := HS.out.facts; have a := HA.out.cell; have d := HB.out.cell)
      | (go_at_call_of 51 (Value.string ⟨#[61]⟩); refine (joined_eq (.inr rfl) HC.out HPA.out HPB.out (by omega) (by omega) _).mono ?_; rintro e w5 ⟨⟨tc, bc, kc, hPc, rfl⟩, hb5⟩; obtain ⟨vc, fc, sc, ic⟩ := kc; unfold pcV pcA; replace HS := Hid.mk2 (HS.out.below hb5); have HPC := Hid.mk2 hPc; have m1 : w1.heap.size ≠ w.heap.size + 1 := (by omega); have m2 : w.heap.size + 1 ≠ w1.heap.size := (by omega); have m3 : w2.heap.size ≠ w.heap.size + 1 := (by omega); have m4 : w.heap.size + 1 ≠ w2.heap.size := (by omega); replace HA := Hid.mk2 (HA.out.below hb5 HA.out.lt); replace HB := Hid.mk2 (HB.out.below hb5 HB.out.lt); clear a d; have a := HA.out.cell; have d := HB.out.cell; clear hb5 hPc c0 p f; obtain ⟨p, f, c0⟩ := HS.out.facts))
      go_meet
      case rel => exact ⟨tc, bc, ⟨vc, fc, sc, ic⟩, HPC.out.mono (by omega) (by omega) (by omega) (by omega), HS.out.put _ _ _ _ _ _⟩
    · go_wp2_with (first
      | (go_at_call 81; have u1 := t1; clear t1; refine (HCL.out _ HS.out.mak).mono ?_; rintro e w1 ⟨⟨ta, ba, ka, hPa, rfl⟩, hM, hB⟩; obtain ⟨va, fa, sa, ia⟩ := ka; unfold pcV pcA; have hq1 : w.heap.size + 1 < w1.heap.size := (HS.out.call hM hB).pp.lt; replace HS := Hid.mk2 ((HS.out.call hM hB).al (.cells (ag ta ba va fa sa ia) 66)); have HA := Hid.mk2 (Blk.new w1 (ag ta ba va fa sa ia) 66); have HPA := Hid.mk2 hPa; have hlt1 : fb < w1.heap.size := hM.fed.lt; clear hM hB hPa c0 p f; obtain ⟨p, f, c0⟩ := HS.out.facts; have a := HA.out.cell)
      | (go_at_call 81; have u2 := t2; clear t2; refine (HCL.out _ HS.out.mak).mono ?_; rintro e w2 ⟨⟨tb, bb, kb, hPb, rfl⟩, hM, hB⟩; obtain ⟨vb, fb', sb, ib⟩ := kb; unfold pcV pcA; have hq2 : w.heap.size + 1 < w2.heap.size := (HS.out.call hM hB).pp.lt; replace HS := Hid.mk2 ((HS.out.call hM hB).al (.cells (ag tb bb vb fb' sb ib) 66)); replace HA := Hid.mk2 ((HA.out.but hB (by omega)).alloc (.cells (ag tb bb vb fb' sb ib) 66)); have HB := Hid.mk2 (Blk.new w2 (ag tb bb vb fb' sb ib) 66); have HPB := Hid.mk2 hPb; have hlt2 : fb < w2.heap.size := hM.fed.lt; clear hM hB hPb c0 p f a; obtain ⟨p, f, c0⟩ := HS.out.facts; have a := HA.out.cell; have d := HB.out.cell)
      | (go_at_call_of 51 (Value.string ⟨#[61]⟩); refine (joined_eq (.inr rfl) HC.out HPA.out HPB.out (by omega) (by omega) _).mono ?_; rintro e w5 ⟨⟨tc, bc, kc, hPc, rfl⟩, hb5⟩; obtain ⟨vc, fc, sc, ic⟩ := kc; unfold pcV pcA; replace HS := Hid.mk2 (HS.out.below hb5); have HPC := Hid.mk2 hPc; have m1 : w1.heap.size ≠ w.heap.size + 1 := (by omega); have m2 : w.heap.size + 1 ≠ w1.heap.size := (by omega); have m3 : w2.heap.size ≠ w.heap.size + 1 := (by omega); have m4 : w.heap.size + 1 ≠ w2.heap.size := (by omega); replace HA := Hid.mk2 (HA.out.below hb5 HA.out.lt); replace HB := Hid.mk2 (HB.out.below hb5 HB.out.lt); clear a d; have a := HA.out.cell; have d := HB.out.cell; clear hb5 hPc c0 p f; obtain ⟨p, f, c0⟩ := HS.out.facts)
      | (go_at_call_of 51 (Value.string ⟨#[33, 61]⟩); refine (joined_ne (.inr rfl) HC.out HPA.out HPB.out (by omega) (by omega) _).mono ?_; rintro e w6 ⟨⟨te, be, ke, hPe, rfl⟩, hb6⟩; obtain ⟨ve, fe, se, ie⟩ := ke; unfold pcV pcA; replace HS := Hid.mk2 ((HS.out.put (.string tc) (.int .i64 bc) (.int .i64 vc) (.int .i64 fc) (.int .i64 sc) (.bool ic)).below hb6); have HPE := Hid.mk2 hPe; clear hb6 hPe c0 p f; obtain ⟨p, f, c0⟩ := HS.out.facts))
      go_meet
      case rel => exact ⟨te, be, ⟨ve, fe, se, ie⟩, HPE.out.mono (by omega) (by omega) (by omega) (by omega), HS.out.put _ _ _ _ _ _⟩
    · go_wp2_with (first
      | (go_at_call 81; have u1 := t1; clear t1; refine (HCL.out _ HS.out.mak).mono ?_; rintro e w1 ⟨⟨ta, ba, ka, hPa, rfl⟩, hM, hB⟩; obtain ⟨va, fa, sa, ia⟩ := ka; unfold pcV pcA; have hq1 : w.heap.size + 1 < w1.heap.size := (HS.out.call hM hB).pp.lt; replace HS := Hid.mk2 ((HS.out.call hM hB).al (.cells (ag ta ba va fa sa ia) 66)); have HA := Hid.mk2 (Blk.new w1 (ag ta ba va fa sa ia) 66); have HPA := Hid.mk2 hPa; have hlt1 : fb < w1.heap.size := hM.fed.lt; clear hM hB hPa c0 p f; obtain ⟨p, f, c0⟩ := HS.out.facts; have a := HA.out.cell)
      | (go_at_call 81; have u2 := t2; clear t2; refine (HCL.out _ HS.out.mak).mono ?_; rintro e w2 ⟨⟨tb, bb, kb, hPb, rfl⟩, hM, hB⟩; obtain ⟨vb, fb', sb, ib⟩ := kb; unfold pcV pcA; have hq2 : w.heap.size + 1 < w2.heap.size := (HS.out.call hM hB).pp.lt; replace HS := Hid.mk2 ((HS.out.call hM hB).al (.cells (ag tb bb vb fb' sb ib) 66)); replace HA := Hid.mk2 ((HA.out.but hB (by omega)).alloc (.cells (ag tb bb vb fb' sb ib) 66)); have HB := Hid.mk2 (Blk.new w2 (ag tb bb vb fb' sb ib) 66); have HPB := Hid.mk2 hPb; have hlt2 : fb < w2.heap.size := hM.fed.lt; clear hM hB hPb c0 p f a; obtain ⟨p, f, c0⟩ := HS.out.facts; have a := HA.out.cell; have d := HB.out.cell)
      | (go_at_call_of 51 (Value.string ⟨#[61]⟩); refine (joined_eq (.inr rfl) HC.out HPA.out HPB.out (by omega) (by omega) _).mono ?_; rintro e w5 ⟨⟨tc, bc, kc, hPc, rfl⟩, hb5⟩; obtain ⟨vc, fc, sc, ic⟩ := kc; unfold pcV pcA; replace HS := Hid.mk2 (HS.out.below hb5); have HPC := Hid.mk2 hPc; have m1 : w1.heap.size ≠ w.heap.size + 1 := (by omega); have m2 : w.heap.size + 1 ≠ w1.heap.size := (by omega); have m3 : w2.heap.size ≠ w.heap.size + 1 := (by omega); have m4 : w.heap.size + 1 ≠ w2.heap.size := (by omega); replace HA := Hid.mk2 (HA.out.below hb5 HA.out.lt); replace HB := Hid.mk2 (HB.out.below hb5 HB.out.lt); clear a d; have a := HA.out.cell; have d := HB.out.cell; clear hb5 hPc c0 p f; obtain ⟨p, f, c0⟩ := HS.out.facts)
      | (go_at_call_of 51 (Value.string ⟨#[33, 61]⟩); refine (joined_ne (.inr rfl) HC.out HPA.out HPB.out (by omega) (by omega) _).mono ?_; rintro e w6 ⟨⟨te, be, ke, hPe, rfl⟩, hb6⟩; obtain ⟨ve, fe, se, ie⟩ := ke; unfold pcV pcA; replace HS := Hid.mk2 ((HS.out.put (.string tc) (.int .i64 bc) (.int .i64 vc) (.int .i64 fc) (.int .i64 sc) (.bool ic)).below hb6); have HPE := Hid.mk2 hPe; clear hb6 hPe c0 p f; obtain ⟨p, f, c0⟩ := HS.out.facts))
      go_meet
      case rel => exact ⟨te, be, ⟨ve, fe, se, ie⟩, HPE.out.mono (by omega) (by omega) (by omega) (by omega), HS.out.put _ _ _ _ _ _⟩
  case rest =>
    obtain ⟨t, b, k, hP, hS⟩ := hcut
    obtain ⟨v, flt, s, fi⟩ := k
    unfold pcA at hS
    have HP := Hid.mk2 hP
    have HS := Hid.mk2 hS
    clear hP hS
    obtain ⟨p, f, c0⟩ := HS.out.facts
    go_upto_if 95 with (go_at_call 29; refine (next_any 5 (by omega) _ _ HS.out.mak.fed).mono ?_; rintro e w1 ⟨⟨r, hr0, hr5, rfl⟩, hF, hB⟩; replace HS := Hid.mk2 (HS.out.next hF hB); clear hF hB c0 p f; obtain ⟨p, f, c0⟩ := HS.out.facts)
    go_cut [] (fun wx => ∃ t b k, Pc C t b k 2 (14 + 4) (1) (3 + 1) (4 + 1) st ∧ SumM w wx mb fb x y l0 l1 l2 l3 l4 l5 st (pcA t b k))
    case first =>
      by_cases hr : r = 1
      · subst hr
        go_wp2_with (go_at_call 52; refine (turned_nott HC.out HP.out (by omega) (by omega) _).mono ?_; rintro e w2 ⟨⟨t', b', k', hP', rfl⟩, hb2⟩; obtain ⟨v', flt', s', fi'⟩ := k'; unfold pcV pcA; replace HS := Hid.mk2 (HS.out.below hb2); have HP' := Hid.mk2 hP'; clear hb2 hP' c0 p f; obtain ⟨p, f, c0⟩ := HS.out.facts)
        go_meet
        case rel => exact ⟨t', b', ⟨v', flt', s', fi'⟩, HP'.out, HS.out.put _ _ _ _ _ _⟩
      · have hr' : (r == 1) = false := by simpa using hr
        go_wp2
        go_meet
        case rel => exact ⟨t, b, ⟨v, flt, s, fi⟩, HP.out.mono (by omega) (Nat.le_refl _) (by omega) (by omega), HS.out⟩
    case rest =>
      clear HS HP c0 p f
      obtain ⟨t', b', k', hP, hS⟩ := hcut
      obtain ⟨v', flt', s', fi'⟩ := k'
      unfold pcA at hS
      have HP := Hid.mk2 hP
      have HS := Hid.mk2 hS
      clear hP hS
      obtain ⟨p, f, c0⟩ := HS.out.facts
      go_upto_region 25 with fail
      go_region_held3 (fun w' => w'.cell? ⟨mb, 0, none⟩ = some (.pointer (some ⟨fb, 0, none⟩)) ∧ w'.cell? ⟨w.heap.size + 1, 0, none⟩ = some (.string t') ∧ w'.cell? ⟨w.heap.size + 1, 1, none⟩ = some (.int .i64 b') ∧ w'.cell? ⟨w.heap.size + 1, 2, none⟩ = some (.int .i64 v') ∧ w'.cell? ⟨w.heap.size + 1, 3, none⟩ = some (.int .i64 flt') ∧ w'.cell? ⟨w.heap.size + 1, 4, none⟩ = some (.int .i64 s') ∧ w'.cell? ⟨w.heap.size + 1, 5, none⟩ = some (.bool fi')) (first | with_reducible exact HS.out.drew.seven | with_reducible exact HS.out.seven | with_reducible exact HS.out.seven2) (first | (go_at_call 53; refine (loose_made HC.out HP.out (by omega) fb _ HS.out.drew.mak.fed).mono ?_; rintro e w3 ⟨⟨t3, b3, k3, hP3, rfl⟩, hF, hB⟩; obtain ⟨v3, flt3, s3, fi3⟩ := k3; unfold pcV pcA; replace HS := Hid.mk2 (HS.out.drew.next hF hB); have HP3 := Hid.mk2 hP3; clear hF hB hP3 c0 p f; have oo := HS.out.out.cell; have oq := HS.out.out.free))
      all_goals go_wp2_with fail
      all_goals
        obtain ⟨hfb, hmk, hbl⟩ := HS.out.om.fin (.string t3) (.int .i64 b3) (.int .i64 v3) (.int .i64 flt3) (.int .i64 s3) (.bool fi3)
        have gg := hfb.cell
        unfold finM at gg hbl hmk
        exact bodyPost_ret (v := .agg #[.string t3, .int .i64 b3, .int .i64 v3, .int .i64 flt3, .int .i64 s3, .bool fi3]) (by simp [results, Tryz.results54, go_sem, gg]) rfl ⟨⟨t3, b3, ⟨v3, flt3, s3, fi3⟩, HP3.out.mono (by omega) (by omega) (by omega) (by omega), rfl⟩, hmk, hbl⟩
end Go.Proofs.YtjjbmbjmdgoofaaGreatDoor
