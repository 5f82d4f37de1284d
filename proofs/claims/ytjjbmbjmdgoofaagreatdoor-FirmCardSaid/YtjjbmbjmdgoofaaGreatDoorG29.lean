/-
  Compile: the fact of a node: choices, and operators of two.
-/
import Derived.Test.YtjjbmbjmdgoofaaGreatDoorG28
set_option linter.unusedVariables false
set_option linter.unusedSimpArgs false
namespace Go.Proofs.YtjjbmbjmdgoofaaGreatDoor
open Go.RowKit Go.Deep
set_option maxHeartbeats 4000000 in
set_option maxRecDepth 100000 in
theorem factOf_choice (n : PNode) (hn : NodeOk n) (h1 : n.ops ≠ 1) (hc : isChK (kindP n.tok.text) = true) (lv fv : Value) (ls : List PLet) (gs : List Fact) (w : World) (hl : Reads w lv ls.length (cellsLt ls)) (hlb : ls.length ≤ 401) (hx : ∀ p ∈ ls, 1 ≤ p.val.behind ∧ p.val.behind ≤ 401) (hf : Reads w fv gs.length (cellsF gs)) (hgb : gs.length ≤ 401) (hgi : ∀ i, FactIn (atF gs i)) :
    Calls Tryz.prog 92 #[nodA n, lv, fv] w fun e w' => e = .returned (factA (factN ls gs n)) ∧ Below w.heap.size w w' := by
  have HM := Hid.mk2 (FoSt.start (n := n) hl hf)
  have hnl := hn.left
  have hnr := hn.right
  have HE : Hid (factN ls gs n = choiceF (kindP n.tok.text) (atF gs n.left) (atF gs n.right)) := by rw [Hid, factN, if_neg h1, if_pos hc]
  rw [HE.out]
  have e1 : ((n.ops : Int) == 1) = false := by simp; omega
  have HGI := Hid.mk2 hgi
  have HXS := Hid.mk2 hx
  have hfi1 := hgi n.left
  have hfi2 := hgi n.right
  obtain ⟨f1, hf1⟩ : ∃ f, atF gs n.left = f := ⟨_, rfl⟩
  obtain ⟨f2, hf2⟩ : ∃ f, atF gs n.right = f := ⟨_, rfl⟩
  rw [hf1] at hfi1
  rw [hf2] at hfi2
  have HI1 := Hid.mk2 hfi1
  have HI2 := Hid.mk2 hfi2
  have HF1 := Hid.mk2 hf1
  have HF2 := Hid.mk2 hf2
  rw [hf1, hf2]
  have HCH := Hid.mk2 hc
  clear hl hf hn hgi h1 hf1 hf2 hfi1 hfi2 HE hx hc
  unfold nodA
  go_enter Tryz.func92, Tryz.ntmps92
  go_upto_region 5 with (first
    | (go_at_call_of 122 (Value.int IntKind.i64 (n.left : Int)); refine (factAt_any gs _ (n.left : Int) _ HM.out.f hgb ⟨by omega, by omega⟩).mono ?_; rintro e w1 ⟨rfl, hb1⟩; rw [HF1.out]; unfold factA; replace HM := Hid.mk2 (HM.out.below hb1); clear hb1; have n0 := HM.out.nd.cell 0; have n1 := HM.out.nd.cell 1; have n2 := HM.out.nd.cell 2; have n3 := HM.out.nd.cell 3; have n4 := HM.out.nd.cell 4; have n5 := HM.out.nd.cell 5; have r0 := HM.out.rs.cell 0; have r1 := HM.out.rs.cell 1; have fr0 := HM.out.rs.free 0; have fr1 := HM.out.rs.free 1; have hlw := HM.out.bl.size; have hlr := HM.out.rs.lt; have hln := HM.out.nd.lt; simp only [nodC, List.getElem?_toArray, List.getElem?_cons_zero, List.getElem?_cons_succ] at n0 n1 n2 n3 n4 n5 r0 r1)
    | (go_at_call_of 122 (Value.int IntKind.i64 (n.right : Int)); refine (factAt_any gs _ (n.right : Int) _ (HM.out.al _).f hgb ⟨by omega, by omega⟩).mono ?_; rintro e w2 ⟨rfl, hb2⟩; rw [HF2.out]; unfold factA; clear n0 n1 n2 n3 n4 n5 r0 r1 fr0 fr1 hlw hlr hln; have H7 := Hid.mk2 ((Blk.new w1 #[.bool f1.isSome, .int .i64 (f1.getD 0)] 159).below hb2 (Blk.new w1 #[.bool f1.isSome, .int .i64 (f1.getD 0)] 159).lt); replace HM := Hid.mk2 ((HM.out.al _).below hb2); clear hb2; have n0 := HM.out.nd.cell 0; have n1 := HM.out.nd.cell 1; have n2 := HM.out.nd.cell 2; have n3 := HM.out.nd.cell 3; have n4 := HM.out.nd.cell 4; have n5 := HM.out.nd.cell 5; have r0 := HM.out.rs.cell 0; have r1 := HM.out.rs.cell 1; have fr0 := HM.out.rs.free 0; have fr1 := HM.out.rs.free 1; have hlw := HM.out.bl.size; have hlr := HM.out.rs.lt; have hln := HM.out.nd.lt; simp only [nodC, List.getElem?_toArray, List.getElem?_cons_zero, List.getElem?_cons_succ] at n0 n1 n2 n3 n4 n5 r0 r1; have t70 := H7.out.cell 0; have t71 := H7.out.cell 1; simp only [List.getElem?_toArray, List.getElem?_cons_zero, List.getElem?_cons_succ] at t70 t71; have hl7 := H7.out.lt))
  have H8 := Hid.mk2 (Blk.new w2 #[.bool f2.isSome, .int .i64 (f2.getD 0)] 159)
  replace H7 := Hid.mk2 (H7.out.alloc (.cells #[.bool f2.isSome, .int .i64 (f2.getD 0)] 159))
  replace HM := Hid.mk2 (HM.out.al (.cells #[.bool f2.isSome, .int .i64 (f2.getD 0)] 159))
  clear n0 n1 n2 n3 n4 n5 r0 r1 fr0 fr1 hlw hlr hln t70 t71 hl7
  generalize w2.alloc (.cells #[.bool f2.isSome, .int .i64 (f2.getD 0)] 159) = w3 at *
  have h7n := H7.out.lt
  have h8n := H8.out.lt
  have n0 := HM.out.nd.cell 0; have n1 := HM.out.nd.cell 1; have n2 := HM.out.nd.cell 2; have n3 := HM.out.nd.cell 3; have n4 := HM.out.nd.cell 4; have n5 := HM.out.nd.cell 5; have r0 := HM.out.rs.cell 0; have r1 := HM.out.rs.cell 1; have fr0 := HM.out.rs.free 0; have fr1 := HM.out.rs.free 1; have hlw := HM.out.bl.size; have hlr := HM.out.rs.lt; have hln := HM.out.nd.lt
  have t70 := H7.out.cell 0; have t71 := H7.out.cell 1; have t80 := H8.out.cell 0; have t81 := H8.out.cell 1
  simp only [nodC, List.getElem?_toArray, List.getElem?_cons_zero, List.getElem?_cons_succ] at n0 n1 n2 n3 n4 n5 r0 r1 t70 t71 t80 t81
  go_wp2_with (first
    | (go_at_call 125; refine (isChoice_any n _).mono ?_; rintro e w4 ⟨rfl, hb4⟩; rw [HCH.out]; replace HM := Hid.mk2 (HM.out.below hb4); replace H7 := Hid.mk2 (H7.out.below hb4 H7.out.lt); replace H8 := Hid.mk2 (H8.out.below hb4 H8.out.lt); have u0 := H7.out.cell 0; have u1 := H7.out.cell 1; have u2 := H8.out.cell 0; have u3 := H8.out.cell 1; simp only [List.getElem?_toArray, List.getElem?_cons_zero, List.getElem?_cons_succ] at u0 u1 u2 u3; have m0 := HM.out.nd.cell 0; simp only [nodC, List.getElem?_toArray, List.getElem?_cons_zero, List.getElem?_cons_succ] at m0; clear hb4)
    | (go_at_call 126; refine (factOfChoice_any (kindP n.tok.text) f1 f2 _).mono ?_; rintro e w5 ⟨rfl, hb5⟩; unfold factA; replace HM := Hid.mk2 (HM.out.below hb5); have r0 := HM.out.rs.cell 0; have r1 := HM.out.rs.cell 1; have fr0 := HM.out.rs.free 0; have fr1 := HM.out.rs.free 1; clear hb5))
  all_goals
    have hfb := (HM.out.rs.set 0 (.bool (choiceF (kindP n.tok.text) f1 f2).isSome)).set 1 (.int .i64 ((choiceF (kindP n.tok.text) f1 f2).getD 0))
    have g0 := hfb.cell 0
    have g1 := hfb.cell 1
    refine bodyPost_ret (v := .agg #[.bool (choiceF (kindP n.tok.text) f1 f2).isSome, .int .i64 ((choiceF (kindP n.tok.text) f1 f2).getD 0)]) (by simp [results, Tryz.results92, go_sem, g0, g1]) rfl ⟨rfl, sets2 HM.out.bl (by omega) _ _⟩
set_option maxHeartbeats 4000000 in
set_option maxRecDepth 100000 in
theorem factOf_two (n : PNode) (hn : NodeOk n) (h1 : n.ops = 2) (hc : isChK (kindP n.tok.text) = false) (lv fv : Value) (ls : List PLet) (gs : List Fact) (w : World) (hl : Reads w lv ls.length (cellsLt ls)) (hlb : ls.length ≤ 401) (hx : ∀ p ∈ ls, 1 ≤ p.val.behind ∧ p.val.behind ≤ 401) (hf : Reads w fv gs.length (cellsF gs)) (hgb : gs.length ≤ 401) (hgi : ∀ i, FactIn (atF gs i)) :
    Calls Tryz.prog 92 #[nodA n, lv, fv] w fun e w' => e = .returned (factA (factN ls gs n)) ∧ Below w.heap.size w w' := by
  have HM := Hid.mk2 (FoSt.start (n := n) hl hf)
  have hnl := hn.left
  have hnr := hn.right
  have HTW := Hid.mk2 (hn.two hc h1)
  have HE : Hid (factN ls gs n = twoF (opK (kindP n.tok.text) n.ops) (atF gs n.left) (atF gs n.right)) := by rw [Hid, factN, if_neg (by omega), hc, if_neg (by simp), if_pos h1]
  rw [HE.out]
  have e1 : ((n.ops : Int) == 1) = false := by simp; omega
  have e2 : ((n.ops : Int) == 2) = true := by simp; omega
  have HGI := Hid.mk2 hgi
  have HXS := Hid.mk2 hx
  have hfi1 := hgi n.left
  have hfi2 := hgi n.right
  obtain ⟨f1, hf1⟩ : ∃ f, atF gs n.left = f := ⟨_, rfl⟩
  obtain ⟨f2, hf2⟩ : ∃ f, atF gs n.right = f := ⟨_, rfl⟩
  rw [hf1] at hfi1
  rw [hf2] at hfi2
  have HI1 := Hid.mk2 hfi1
  have HI2 := Hid.mk2 hfi2
  have HF1 := Hid.mk2 hf1
  have HF2 := Hid.mk2 hf2
  rw [hf1, hf2]
  have HCH := Hid.mk2 hc
  clear hl hf hn hgi h1 hf1 hf2 hfi1 hfi2 HE hx hc
  obtain ⟨op, hop⟩ : ∃ op, opK (kindP n.tok.text) n.ops = op := ⟨_, rfl⟩
  rw [hop] at HTW ⊢
  have HOP := Hid.mk2 hop
  clear hop
  unfold nodA
  go_enter Tryz.func92, Tryz.ntmps92
  go_upto_region 5 with (first
    | (go_at_call_of 122 (Value.int IntKind.i64 (n.left : Int)); refine (factAt_any gs _ (n.left : Int) _ HM.out.f hgb ⟨by omega, by omega⟩).mono ?_; rintro e w1 ⟨rfl, hb1⟩; rw [HF1.out]; unfold factA; replace HM := Hid.mk2 (HM.out.below hb1); clear hb1; have n0 := HM.out.nd.cell 0; have n1 := HM.out.nd.cell 1; have n2 := HM.out.nd.cell 2; have n3 := HM.out.nd.cell 3; have n4 := HM.out.nd.cell 4; have n5 := HM.out.nd.cell 5; have r0 := HM.out.rs.cell 0; have r1 := HM.out.rs.cell 1; have fr0 := HM.out.rs.free 0; have fr1 := HM.out.rs.free 1; have hlw := HM.out.bl.size; have hlr := HM.out.rs.lt; have hln := HM.out.nd.lt; simp only [nodC, List.getElem?_toArray, List.getElem?_cons_zero, List.getElem?_cons_succ] at n0 n1 n2 n3 n4 n5 r0 r1)
    | (go_at_call_of 122 (Value.int IntKind.i64 (n.right : Int)); refine (factAt_any gs _ (n.right : Int) _ (HM.out.al _).f hgb ⟨by omega, by omega⟩).mono ?_; rintro e w2 ⟨rfl, hb2⟩; rw [HF2.out]; unfold factA; clear n0 n1 n2 n3 n4 n5 r0 r1 fr0 fr1 hlw hlr hln; have H7 := Hid.mk2 ((Blk.new w1 #[.bool f1.isSome, .int .i64 (f1.getD 0)] 159).below hb2 (Blk.new w1 #[.bool f1.isSome, .int .i64 (f1.getD 0)] 159).lt); replace HM := Hid.mk2 ((HM.out.al _).below hb2); clear hb2; have n0 := HM.out.nd.cell 0; have n1 := HM.out.nd.cell 1; have n2 := HM.out.nd.cell 2; have n3 := HM.out.nd.cell 3; have n4 := HM.out.nd.cell 4; have n5 := HM.out.nd.cell 5; have r0 := HM.out.rs.cell 0; have r1 := HM.out.rs.cell 1; have fr0 := HM.out.rs.free 0; have fr1 := HM.out.rs.free 1; have hlw := HM.out.bl.size; have hlr := HM.out.rs.lt; have hln := HM.out.nd.lt; simp only [nodC, List.getElem?_toArray, List.getElem?_cons_zero, List.getElem?_cons_succ] at n0 n1 n2 n3 n4 n5 r0 r1; have t70 := H7.out.cell 0; have t71 := H7.out.cell 1; simp only [List.getElem?_toArray, List.getElem?_cons_zero, List.getElem?_cons_succ] at t70 t71; have hl7 := H7.out.lt))
  have H8 := Hid.mk2 (Blk.new w2 #[.bool f2.isSome, .int .i64 (f2.getD 0)] 159)
  replace H7 := Hid.mk2 (H7.out.alloc (.cells #[.bool f2.isSome, .int .i64 (f2.getD 0)] 159))
  replace HM := Hid.mk2 (HM.out.al (.cells #[.bool f2.isSome, .int .i64 (f2.getD 0)] 159))
  clear n0 n1 n2 n3 n4 n5 r0 r1 fr0 fr1 hlw hlr hln t70 t71 hl7
  generalize w2.alloc (.cells #[.bool f2.isSome, .int .i64 (f2.getD 0)] 159) = w3 at *
  have h7n := H7.out.lt
  have h8n := H8.out.lt
  have n0 := HM.out.nd.cell 0; have n1 := HM.out.nd.cell 1; have n2 := HM.out.nd.cell 2; have n3 := HM.out.nd.cell 3; have n4 := HM.out.nd.cell 4; have n5 := HM.out.nd.cell 5; have r0 := HM.out.rs.cell 0; have r1 := HM.out.rs.cell 1; have fr0 := HM.out.rs.free 0; have fr1 := HM.out.rs.free 1; have hlw := HM.out.bl.size; have hlr := HM.out.rs.lt; have hln := HM.out.nd.lt
  have t70 := H7.out.cell 0; have t71 := H7.out.cell 1; have t80 := H8.out.cell 0; have t81 := H8.out.cell 1
  simp only [nodC, List.getElem?_toArray, List.getElem?_cons_zero, List.getElem?_cons_succ] at n0 n1 n2 n3 n4 n5 r0 r1 t70 t71 t80 t81
  go_upto_region 8 with (go_at_call 125; refine (isChoice_any n _).mono ?_; rintro e w4 ⟨rfl, hb4⟩; rw [HCH.out]; replace HM := Hid.mk2 (HM.out.below hb4); replace H7 := Hid.mk2 (H7.out.below hb4 H7.out.lt); replace H8 := Hid.mk2 (H8.out.below hb4 H8.out.lt); have u0 := H7.out.cell 0; have u1 := H7.out.cell 1; have u2 := H8.out.cell 0; have u3 := H8.out.cell 1; simp only [List.getElem?_toArray, List.getElem?_cons_zero, List.getElem?_cons_succ] at u0 u1 u2 u3; have m0 := HM.out.nd.cell 0; have m1 := HM.out.nd.cell 1; have m2 := HM.out.nd.cell 2; have m3 := HM.out.nd.cell 3; have m4 := HM.out.nd.cell 4; have m5 := HM.out.nd.cell 5; have r0 := HM.out.rs.cell 0; have r1 := HM.out.rs.cell 1; have fr0 := HM.out.rs.free 0; have fr1 := HM.out.rs.free 1; have hlw := HM.out.bl.size; have hlr := HM.out.rs.lt; have hln := HM.out.nd.lt; simp only [nodC, List.getElem?_toArray, List.getElem?_cons_zero, List.getElem?_cons_succ] at m0 m1 m2 m3 m4 m5; clear hb4)
  go_region_with (first
    | (go_at_call 124; refine (operationOf_any n _).mono ?_; rintro e w6 ⟨rfl, hb6⟩; rw [HOP.out]; replace HM := Hid.mk2 (HM.out.dr.below hb6); clear u0 u1 u2 u3; replace H7 := Hid.mk2 (H7.out.drew.below hb6 H7.out.lt); replace H8 := Hid.mk2 (H8.out.drew.below hb6 H8.out.lt); have u0 := H7.out.cell 0; have u1 := H7.out.cell 1; have u2 := H8.out.cell 0; have u3 := H8.out.cell 1; simp only [List.getElem?_toArray, List.getElem?_cons_zero, List.getElem?_cons_succ] at u0 u1 u2 u3; clear hb6)
    | (go_at_call 127; refine (factOfTwo_any op HTW.out f1 f2 HI1.out HI2.out _).mono ?_; rintro e w7 ⟨rfl, hb7⟩; unfold factA; replace HM := Hid.mk2 (HM.out.below hb7); have r0 := HM.out.rs.cell 0; have r1 := HM.out.rs.cell 1; have fr0 := HM.out.rs.free 0; have fr1 := HM.out.rs.free 1; clear hb7))
  all_goals
    go_wp2
    have hfb := (HM.out.rs.set 0 (.bool (twoF op f1 f2).isSome)).set 1 (.int .i64 ((twoF op f1 f2).getD 0))
    have g0 := hfb.cell 0
    have g1 := hfb.cell 1
    refine bodyPost_ret (v := .agg #[.bool (twoF op f1 f2).isSome, .int .i64 ((twoF op f1 f2).getD 0)]) (by simp [results, Tryz.results92, go_sem, g0, g1]) rfl ⟨rfl, sets2 HM.out.bl (by omega) _ _⟩
end Go.Proofs.YtjjbmbjmdgoofaaGreatDoor
