/-
  policy, for all arguments.
-/
import Derived.Test.YtjjbmbjmdgoofaaGreatDoorB49
set_option linter.unusedVariables false
set_option linter.unusedSimpArgs false
namespace Go.Proofs.YtjjbmbjmdgoofaaGreatDoor
open Go.RowKit Go.Deep
set_option maxHeartbeats 8000000 in
set_option maxRecDepth 100000 in
theorem policy_any (s : ByteArray) (x : Itm) (y : Bn) (hx : x.Ok) (hy : y.Ok) (hs : s.size ≤ maxLen) (w : World) :
    Calls Tryz.prog 6 #[.string s, itmA x, bnA y] w fun e w' => (∃ (T : ByteArray) (K : Nat) (V : Int) (S : Nat), (((∃ L R, FineP T.toList x y (K, V, S) L R) ∧ T.size ≤ 390) ∧ ∃ U, T.toList = U ++ [59]) ∧ e = .returned (.agg (mg T K V S))) ∧ Below w.heap.size w w' := by
  have HP := Hid.mk2 (poM_start w x y s hs)
  have HX := Hid.mk2 hx
  have HY := Hid.mk2 hy
  obtain ⟨q1, _, _⟩ := does7 (C := fun E => E = ctx0 x y) (fun E hE => by subst hE; exact ⟨ctx0_ok x y, rfl, rfl⟩) hx hy (w.heap.size + 1 + 1 + 1 + 1) (w.heap.size + 1 + 1 + 1) (.string { data := #[] }) (.int .i64 0) (.int .i64 0) (.int .i64 0) (.int .i64 0) (.bool false) false 1 1 (by omega) (by omega) (none_num hx hy _ _ false)
  have HSU : Hid (∀ w', MakAt w' (w.heap.size + 1 + 1 + 1 + 1) (w.heap.size + 1 + 1 + 1) x y (.string { data := #[] }) (.int .i64 0) (.int .i64 0) (.int .i64 0) (.int .i64 0) (.bool false) false → Calls Tryz.prog 30 #[.pointer (some ⟨w.heap.size + 1 + 1 + 1 + 1, 0, none⟩), .int .i64 1] w' fun e w2 => (∃ t b k, Pc (fun E => E = ctx0 x y) t b k 1 37 3 6 7 false ∧ e = .returned (pcV t b k)) ∧ MakAt w2 (w.heap.size + 1 + 1 + 1 + 1) (w.heap.size + 1 + 1 + 1) x y (.string { data := #[] }) (.int .i64 0) (.int .i64 0) (.int .i64 0) (.int .i64 0) (.bool false) false ∧ But (w.heap.size + 1 + 1 + 1) w' w2) := q1
  clear hx hy hs q1
  unfold itmA bnA
  go_enter Tryz.func6, Tryz.ntmps6
  go_upto_region 3 with fail
  generalize (((((w.alloc (.cells #[.int .i64 x.size, .int .i64 x.speed, .int .i64 x.need] 28)).alloc (.cells #[.int .i64 y.id, .int .i64 y.zone, .int .i64 y.cap, .int .i64 y.used, .int .i64 y.has] 31)).alloc (.cells (mg ⟨#[]⟩ 0 0 0) 25)).alloc (.cells #[.string s, .int .i64 0] 35)).alloc (.cells #[.pointer (some ⟨w.heap.size + 1 + 1 + 1, 0, none⟩), .int .i64 x.size, .int .i64 x.speed, .int .i64 x.need, .int .i64 y.id, .int .i64 y.zone, .int .i64 y.cap, .int .i64 y.used, .int .i64 y.has, .string { data := #[] }, .int .i64 0, .int .i64 0, .int .i64 0, .int .i64 0, .bool false, .bool false] 68)).alloc (.cells (mg ⟨#[]⟩ 0 0 0) 25) = W at HP ⊢
  obtain ⟨p, f, q, z, mf, c0⟩ := HP.out.facts
  go_upto_if 26 with (go_at_call 29; refine (next_any 3 (by omega) _ _ HP.out.mak.fed).mono ?_; rintro e w1 ⟨⟨r, hr0, hr5, rfl⟩, hF, hB⟩; replace HP := Hid.mk2 (HP.out.next hF hB); clear hF hB p f q z mf c0; obtain ⟨p, f, q, z, mf, c0⟩ := HP.out.facts)
  go_cut [] (fun wx => ∃ (C : Ctx → Prop) (T0 : ByteArray) (l0 l1 l2 l3 l4 l5 : Value), PoM w wx x y l0 l1 l2 l3 l4 l5 (mg T0 0 0 0) ∧ PolC x y (w.heap.size + 1 + 1 + 1 + 1) (w.heap.size + 1 + 1 + 1) l0 l1 l2 l3 l4 l5 C T0)
  case first =>
    by_cases hr : r = 1
    · subst hr
      go_upto_region 8 with (go_at_call 30; refine (HSU.out _ HP.out.mak).mono ?_; rintro e w2 ⟨⟨te, be, ke, hpe, rfl⟩, hM, hB⟩; obtain ⟨ne, fe, se, ie⟩ := ke; unfold pcV pcA; have hlt : w.heap.size + 1 + 1 + 1 + 1 + 1 < w2.heap.size := (HP.out.call hM hB).pp.lt; have HP0 := Hid.mk2 (HP.out.call hM hB); replace HP := Hid.mk2 ((HP.out.call hM hB).al (.cells (ag te be ne fe se ie) 66)); have HE := Hid.mk2 (Blk.new w2 (ag te be ne fe se ie) 66); have HPE := Hid.mk2 hpe; have ze := hpe.size; have y1 : (9223372036854775807 < 9 + te.size) = False := (by simp; omega); have y2 : (9223372036854775807 < 9 + te.size + 1) = False := (by simp; omega); have n1 : w2.heap.size ≠ w.heap.size + 1 + 1 + 1 + 1 + 1 := (by omega); have n2 : w.heap.size + 1 + 1 + 1 + 1 + 1 ≠ w2.heap.size := (by omega); clear hM hB hpe p f q z mf c0; obtain ⟨p, f, q, z, mf, c0⟩ := HP.out.facts; have u := HE.out.cell; have v := HE.out.free)
      have HP2 := (HP0.out.setP 0 (.string (letB te))).al (.cells (ag ⟨#[107, 107]⟩ 6 ne fe se ie) 66)
      have HE2 := Blk.new (w2.setCell ⟨w.heap.size + 1 + 1 + 1 + 1 + 1, 0, none⟩ (.string (letB te))) (ag ⟨#[107, 107]⟩ 6 ne fe se ie) 66
      rw [show (w2.setCell ⟨w.heap.size + 1 + 1 + 1 + 1 + 1, 0, none⟩ (.string (letB te))).heap.size = w2.heap.size by simp] at HE2
      unfold letB at HP2 HE2
      simp only [List.setIfInBounds_toArray, List.set_cons_zero, List.set_cons_succ] at HP2
      clear HP HP0 HE p f q z mf c0 u v
      generalize (w2.setCell ⟨w.heap.size + 1 + 1 + 1 + 1 + 1, 0, none⟩ (.string (⟨#[108, 101, 116, 32, 107, 107, 32, 61, 32]⟩ ++ te ++ ⟨#[59]⟩))).alloc (.cells (ag ⟨#[107, 107]⟩ 6 ne fe se ie) 66) = W5 at HP2 HE2 ⊢
      have HP := Hid.mk2 HP2
      have HE := Hid.mk2 HE2
      clear HP2 HE2
      obtain ⟨p, f, q, z, mf, c0⟩ := HP.out.facts
      have mc := HP.out.mak.blk.cell
      have u := HE.out.cell
      go_wp2
      go_meet
      case rel => exact ⟨_, letB te, _, _, _, _, _, _, HP.out.let _ _ _ _ _ _, polC_some HX.out HY.out _ _ HPE.out⟩
    · have hr' : (r == 1) = false := by simpa using hr
      go_wp2
      go_meet
      case rel => exact ⟨_, ⟨#[]⟩, _, _, _, _, _, _, HP.out, polC_none HX.out HY.out _ _⟩
  case rest =>
    obtain ⟨C, T0, l0, l1, l2, l3, l4, l5, hP, hC⟩ := hcut
    clear HP p f q z mf c0 HSU
    have HP := Hid.mk2 hP
    have HC := Hid.mk2 hC
    have z0 := hC.len
    have HRA : Hid (∀ w', MakAt w' (w.heap.size + 1 + 1 + 1 + 1) (w.heap.size + 1 + 1 + 1) x y l0 l1 l2 l3 l4 l5 false → Calls Tryz.prog 31 #[.pointer (some ⟨w.heap.size + 1 + 1 + 1 + 1, 0, none⟩), .agg (mg T0 0 0 0), .bool false, .int .i64 2] w' fun e w2 => (∃ (T2 : ByteArray) (K2 : Nat) (V2 : Int) (S2 : Nat) (d2 : Bool) (r : MadeR), RuleIs C T0 0 0 0 false T2 K2 V2 S2 d2 r ∧ e = .returned (.tuple #[.agg (mg T2 K2 V2 S2), .bool d2])) ∧ MakAt w2 (w.heap.size + 1 + 1 + 1 + 1) (w.heap.size + 1 + 1 + 1) x y l0 l1 l2 l3 l4 l5 false ∧ But (w.heap.size + 1 + 1 + 1) w' w2) := Hid.mk2 (fun w' h => rule_any _ _ x y l0 l1 l2 l3 l4 l5 false 2 (by omega) hC.t1 hC.s2 T0 0 0 0 false (by omega) (by omega) (fun _ => ⟨rfl, rfl⟩) w' h)
    have HRB : Hid (∀ (T1 : ByteArray) (K1 : Nat) (V1 : Int) (S1 : Nat) (d1 : Bool), T1.size ≤ 500 → S1 ≤ 5000 → (d1 = false → K1 = 0 ∧ V1 = 0) → ∀ w', MakAt w' (w.heap.size + 1 + 1 + 1 + 1) (w.heap.size + 1 + 1 + 1) x y l0 l1 l2 l3 l4 l5 false → Calls Tryz.prog 31 #[.pointer (some ⟨w.heap.size + 1 + 1 + 1 + 1, 0, none⟩), .agg (mg T1 K1 V1 S1), .bool d1, .int .i64 1] w' fun e w2 => (∃ (T2 : ByteArray) (K2 : Nat) (V2 : Int) (S2 : Nat) (d2 : Bool) (r : MadeR), RuleIs C T1 K1 V1 S1 d1 T2 K2 V2 S2 d2 r ∧ e = .returned (.tuple #[.agg (mg T2 K2 V2 S2), .bool d2])) ∧ MakAt w2 (w.heap.size + 1 + 1 + 1 + 1) (w.heap.size + 1 + 1 + 1) x y l0 l1 l2 l3 l4 l5 false ∧ But (w.heap.size + 1 + 1 + 1) w' w2) := Hid.mk2 (fun T1 K1 V1 S1 d1 h1 h2 h3 w' h => rule_any _ _ x y l0 l1 l2 l3 l4 l5 false 1 (by omega) hC.t1 hC.s1 T1 K1 V1 S1 d1 h1 h2 h3 w' h)
    clear hP hC
    obtain ⟨p, f, q, z, mf, c0⟩ := HP.out.facts
    go_upto_region 10 with (go_at_call 29; refine (next_any 2 (by omega) _ _ HP.out.mak.fed).mono ?_; rintro e w3 ⟨⟨r2, hs0, hs5, rfl⟩, hF, hB⟩; replace HP := Hid.mk2 (HP.out.next hF hB); clear hF hB p f q z mf c0; obtain ⟨p, f, q, z, mf, c0⟩ := HP.out.facts)
    by_cases hr2 : r2 = 1
    · have hr2' : (r2 == 1) = true := by simpa using hr2
      clear hr2
      go_upto_region 17 with (first
        | (go_at_call_of 31 (Value.int IntKind.i64 2); refine (HRA.out _ HP.out.mak).mono ?_; rintro e w4 ⟨⟨T1, K1, V1, S1, d1, r1, hq, rfl⟩, hM, hB⟩; replace HP := Hid.mk2 (HP.out.call hM hB); have HQ1 := Hid.mk2 hq; have zl1 := hq.len; have zs1 := hq.stp; clear hM hB hq p f q z mf c0; obtain ⟨p, f, q, z, mf, c0⟩ := HP.out.facts; skip)
        | (go_at_call_of 31 (Value.int IntKind.i64 1); refine (HRB.out T1 K1 V1 S1 d1 (by omega) (by omega) HQ1.out.say.nul _ ((((HP.out.setP 0 (.string T1)).setP 1 (.int .i64 K1)).setP 2 (.int .i64 V1)).setP 3 (.int .i64 S1)).mak).mono ?_; rintro e w5 ⟨⟨T2, K2, V2, S2, d2, r2', hq, rfl⟩, hM, hB⟩; replace HP := Hid.mk2 ((((((HP.out.setP 0 (.string T1)).setP 1 (.int .i64 K1)).setP 2 (.int .i64 V1)).setP 3 (.int .i64 S1)).call hM hB).al (.cells (mg T2 K2 V2 S2) 25)); have HB := Hid.mk2 (Blk.new w5 (mg T2 K2 V2 S2) 25); have HQ2 := Hid.mk2 hq; have zl2 := hq.len; have zs2 := hq.stp; clear hM hB hq p f q z mf c0; obtain ⟨p, f, q, z, mf, c0⟩ := HP.out.facts; have u := HB.out.cell; cases d2))
      · skip
        have HP2 := (((((HP.out.setP 0 (.string T2)).setP 1 (.int .i64 K2)).setP 2 (.int .i64 V2)).setP 3 (.int .i64 S2)).setP 3 (.int .i64 ((S2 : Int) + 1)))
        simp only [List.setIfInBounds_toArray, List.set_cons_zero, List.set_cons_succ] at HP2
        clear HP p f q z mf c0 HB u
        generalize ((((((w5.alloc (.cells (mg T2 K2 V2 S2) 25)).setCell ⟨w.heap.size + 1 + 1 + 1 + 1 + 1, 0, none⟩ (.string T2)).setCell ⟨w.heap.size + 1 + 1 + 1 + 1 + 1, 1, none⟩ (.int .i64 K2)).setCell ⟨w.heap.size + 1 + 1 + 1 + 1 + 1, 2, none⟩ (.int .i64 V2)).setCell ⟨w.heap.size + 1 + 1 + 1 + 1 + 1, 3, none⟩ (.int .i64 S2)).setCell ⟨w.heap.size + 1 + 1 + 1 + 1 + 1, 3, none⟩ (.int .i64 ((S2 : Int) + 1))) = W5 at HP2 ⊢
        have HP := Hid.mk2 HP2
        clear HP2
        obtain ⟨p, f, q, z, mf, c0⟩ := HP.out.facts
        go_wp2
        obtain ⟨gg, hbl⟩ := HP.out.fin (.string T2) (.int .i64 K2) (.int .i64 V2) (.int .i64 ((S2 : Int) + 1))
        unfold finV at gg hbl
        exact bodyPost_ret (v := .agg #[.string T2, .int .i64 K2, .int .i64 V2, .int .i64 ((S2 : Int) + 1)]) (by simp [results, Tryz.results6, go_sem, gg]) rfl ⟨⟨T2, K2, V2, (S2 + 1), ⟨⟨by have h := HC.out.fine [r1, r2'] T2 (by simp) (by simp) (fun r hr E hE => by simp only [List.mem_cons, List.mem_nil_iff, or_false] at hr; rcases hr with rfl | rfl; exact HQ1.out.is E hE; exact HQ2.out.is E hE) (by rw [HQ2.out.txt, HQ1.out.txt]; simp [rulesT]) (by omega); rw [rules_two HQ1.out.say HQ2.out.say] at h; exact h, by omega⟩, _, HQ2.out.txt.trans (List.append_assoc _ _ _).symm⟩, rfl⟩, hbl⟩
      · skip
        have HP2 := ((((HP.out.setP 0 (.string T2)).setP 1 (.int .i64 K2)).setP 2 (.int .i64 V2)).setP 3 (.int .i64 S2))
        simp only [List.setIfInBounds_toArray, List.set_cons_zero, List.set_cons_succ] at HP2
        clear HP p f q z mf c0 HB u
        generalize (((((w5.alloc (.cells (mg T2 K2 V2 S2) 25)).setCell ⟨w.heap.size + 1 + 1 + 1 + 1 + 1, 0, none⟩ (.string T2)).setCell ⟨w.heap.size + 1 + 1 + 1 + 1 + 1, 1, none⟩ (.int .i64 K2)).setCell ⟨w.heap.size + 1 + 1 + 1 + 1 + 1, 2, none⟩ (.int .i64 V2)).setCell ⟨w.heap.size + 1 + 1 + 1 + 1 + 1, 3, none⟩ (.int .i64 S2)) = W5 at HP2 ⊢
        have HP := Hid.mk2 HP2
        clear HP2
        obtain ⟨p, f, q, z, mf, c0⟩ := HP.out.facts
        go_wp2
        obtain ⟨gg, hbl⟩ := HP.out.fin (.string T2) (.int .i64 K2) (.int .i64 V2) (.int .i64 S2)
        unfold finV at gg hbl
        exact bodyPost_ret (v := .agg #[.string T2, .int .i64 K2, .int .i64 V2, .int .i64 S2]) (by simp [results, Tryz.results6, go_sem, gg]) rfl ⟨⟨T2, K2, V2, S2, ⟨⟨by have h := HC.out.fine [r1, r2'] T2 (by simp) (by simp) (fun r hr E hE => by simp only [List.mem_cons, List.mem_nil_iff, or_false] at hr; rcases hr with rfl | rfl; exact HQ1.out.is E hE; exact HQ2.out.is E hE) (by rw [HQ2.out.txt, HQ1.out.txt]; simp [rulesT]) (by omega); rw [rules_two HQ1.out.say HQ2.out.say] at h; exact h, by omega⟩, _, HQ2.out.txt.trans (List.append_assoc _ _ _).symm⟩, rfl⟩, hbl⟩
    · have hr2' : (r2 == 1) = false := by simpa using hr2
      clear hr2
      go_upto_region 17 with (first
        | (go_at_call_of 31 (Value.int IntKind.i64 2); refine (HRA.out _ HP.out.mak).mono ?_; rintro e w4 ⟨⟨T1, K1, V1, S1, d1, r1, hq, rfl⟩, hM, hB⟩; replace HP := Hid.mk2 (HP.out.call hM hB); have HQ1 := Hid.mk2 hq; have zl1 := hq.len; have zs1 := hq.stp; clear hM hB hq p f q z mf c0; obtain ⟨p, f, q, z, mf, c0⟩ := HP.out.facts; cases d1))
      · skip
        have HP2 := (((((HP.out.setP 0 (.string T1)).setP 1 (.int .i64 K1)).setP 2 (.int .i64 V1)).setP 3 (.int .i64 S1)).setP 3 (.int .i64 ((S1 : Int) + 1)))
        simp only [List.setIfInBounds_toArray, List.set_cons_zero, List.set_cons_succ] at HP2
        clear HP p f q z mf c0 
        generalize (((((w4.setCell ⟨w.heap.size + 1 + 1 + 1 + 1 + 1, 0, none⟩ (.string T1)).setCell ⟨w.heap.size + 1 + 1 + 1 + 1 + 1, 1, none⟩ (.int .i64 K1)).setCell ⟨w.heap.size + 1 + 1 + 1 + 1 + 1, 2, none⟩ (.int .i64 V1)).setCell ⟨w.heap.size + 1 + 1 + 1 + 1 + 1, 3, none⟩ (.int .i64 S1)).setCell ⟨w.heap.size + 1 + 1 + 1 + 1 + 1, 3, none⟩ (.int .i64 ((S1 : Int) + 1))) = W5 at HP2 ⊢
        have HP := Hid.mk2 HP2
        clear HP2
        obtain ⟨p, f, q, z, mf, c0⟩ := HP.out.facts
        go_wp2
        obtain ⟨gg, hbl⟩ := HP.out.fin (.string T1) (.int .i64 K1) (.int .i64 V1) (.int .i64 ((S1 : Int) + 1))
        unfold finV at gg hbl
        exact bodyPost_ret (v := .agg #[.string T1, .int .i64 K1, .int .i64 V1, .int .i64 ((S1 : Int) + 1)]) (by simp [results, Tryz.results6, go_sem, gg]) rfl ⟨⟨T1, K1, V1, (S1 + 1), ⟨⟨by have h := HC.out.fine [r1] T1 (by simp) (by simp) (fun r hr E hE => by obtain rfl := List.mem_singleton.1 hr; exact HQ1.out.is E hE) (by rw [HQ1.out.txt]; simp [rulesT]) (by omega); rw [rules_one HQ1.out.say] at h; exact h, by omega⟩, _, HQ1.out.txt.trans (List.append_assoc _ _ _).symm⟩, rfl⟩, hbl⟩
      · skip
        have HP2 := ((((HP.out.setP 0 (.string T1)).setP 1 (.int .i64 K1)).setP 2 (.int .i64 V1)).setP 3 (.int .i64 S1))
        simp only [List.setIfInBounds_toArray, List.set_cons_zero, List.set_cons_succ] at HP2
        clear HP p f q z mf c0 
        generalize ((((w4.setCell ⟨w.heap.size + 1 + 1 + 1 + 1 + 1, 0, none⟩ (.string T1)).setCell ⟨w.heap.size + 1 + 1 + 1 + 1 + 1, 1, none⟩ (.int .i64 K1)).setCell ⟨w.heap.size + 1 + 1 + 1 + 1 + 1, 2, none⟩ (.int .i64 V1)).setCell ⟨w.heap.size + 1 + 1 + 1 + 1 + 1, 3, none⟩ (.int .i64 S1)) = W5 at HP2 ⊢
        have HP := Hid.mk2 HP2
        clear HP2
        obtain ⟨p, f, q, z, mf, c0⟩ := HP.out.facts
        go_wp2
        obtain ⟨gg, hbl⟩ := HP.out.fin (.string T1) (.int .i64 K1) (.int .i64 V1) (.int .i64 S1)
        unfold finV at gg hbl
        exact bodyPost_ret (v := .agg #[.string T1, .int .i64 K1, .int .i64 V1, .int .i64 S1]) (by simp [results, Tryz.results6, go_sem, gg]) rfl ⟨⟨T1, K1, V1, S1, ⟨⟨by have h := HC.out.fine [r1] T1 (by simp) (by simp) (fun r hr E hE => by obtain rfl := List.mem_singleton.1 hr; exact HQ1.out.is E hE) (by rw [HQ1.out.txt]; simp [rulesT]) (by omega); rw [rules_one HQ1.out.say] at h; exact h, by omega⟩, _, HQ1.out.txt.trans (List.append_assoc _ _ _).symm⟩, rfl⟩, hbl⟩
end Go.Proofs.YtjjbmbjmdgoofaaGreatDoor
