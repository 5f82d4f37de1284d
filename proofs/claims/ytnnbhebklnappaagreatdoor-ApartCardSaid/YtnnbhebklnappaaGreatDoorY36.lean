/-
  Compile: node: what is common; out of range.
  Compile: node: what is known.
  Compile: node: choices, and operators of two.
-/
import Derived.Test.YtnnbhebklnappaaGreatDoorY35
set_option linter.unusedVariables false
set_option linter.unusedSimpArgs false
namespace Go.Proofs.YtnnbhebklnappaaGreatDoor
open Go.RowKit Go.Deep

theorem sliceN (g o n cap hi : Nat) (h1 : hi ≤ n) (h2 : n ≤ cap) (wx : World) :
    (Instr.slice 80 (.slice (some ⟨g, o, none⟩) n cap) none (some (.int .i64 hi)) none).run Tryz.prog wx = .ok (.slice (some ⟨g, o, none⟩) hi cap) wx := by
  have el : Tryz.prog.elem 80 = 161 := by kernel_rfl
  have sz : (sizeOf 161).run Tryz.prog wx = .ok 6 wx := by kernel_rfl
  rw [run_slice_h wx _ _ _ _ (by rw [el]; exact Tryz.underlying80) .i64 _ (by omega) (by omega), el, sz]
  simp [Result.andThen, sliced, Addr.add]
theorem node_cells {cb : Nat} {na : Option Addr} {nc : Nat} {lv rv fv : Value} {N : List PNode} {ls : List PLet} {rs : List PRule} {fs : List Fact} {w : World} {h j : Nat} {n : PNode} (H : CmpAt w cb (.slice na N.length nc) lv rv fv h N ls rs fs) (hj : N[j]? = some n) : ∃ g o, na = some ⟨g, o, none⟩ ∧ g < w.heap.size ∧ N.length ≤ nc ∧ w.cell? ⟨g, o + j * 6, none⟩ = some (.int .i64 (kindP n.tok.text)) ∧ w.cell? ⟨g, o + j * 6 + 1, none⟩ = some (.int .i64 n.tok.at') ∧ w.cell? ⟨g, o + j * 6 + 2, none⟩ = some (.string (bsOf n.tok.text)) ∧ w.cell? ⟨g, o + j * 6 + 3, none⟩ = some (.int .i64 n.ops) ∧ w.cell? ⟨g, o + j * 6 + 4, none⟩ = some (.int .i64 n.left) ∧ w.cell? ⟨g, o + j * 6 + 5, none⟩ = some (.int .i64 n.right) := by
  obtain ⟨hlt, rfl⟩ := List.getElem?_eq_some_iff.1 hj
  obtain ⟨g, o, cap, hcut, hcap, hg, hcl⟩ := H.pa.n.pos (by omega)
  cases hcut
  have fc := fun i (hi : i < 6) u (hu : (cellN N[j])[i]? = some u) => hcl (j * 6 + i) u ((flat_get cellN 6 (fun _ => rfl) N j hlt i hi).trans hu)
  refine ⟨g, o, rfl, hg, hcap, fc 0 (by omega) _ rfl, ?_, ?_, ?_, ?_, ?_⟩
  · rw [Nat.add_assoc]; exact fc 1 (by omega) _ rfl
  · rw [Nat.add_assoc]; exact fc 2 (by omega) _ rfl
  · rw [Nat.add_assoc]; exact fc 3 (by omega) _ rfl
  · rw [Nat.add_assoc]; exact fc 4 (by omega) _ rfl
  · rw [Nat.add_assoc]; exact fc 5 (by omega) _ rfl
set_option maxHeartbeats 1000000 in
theorem node_out {cb : Nat} {na : Option Addr} {nc : Nat} {lv rv fv : Value} {N : List PNode} {ls : List PLet} {rs : List PRule} {fs : List Fact} (b below : Nat) (i : Int) (hi : i < 0 ∨ (b : Int) ≤ i) (w : World) :
    Calls Tryz.prog 140 #[.pointer (some ⟨cb, 0, none⟩), .slice na b nc, .int .i64 i, .int .i64 below] w fun e w' => e = .returned (.string (bsN [])) ∧ w' = w := by
  by_cases h0 : i < 0
  · have e0 : decide (i < 0) = true := decide_eq_true (by omega)
    clear hi h0
    go_enter Tryz.func140, Tryz.ntmps140
    go_wp2
    go_ret
    exact ⟨rfl, rfl⟩
  · have e0 : decide (i < 0) = false := decide_eq_false (by omega)
    have e1 : decide ((b : Int) ≤ i) = true := decide_eq_true (by omega)
    clear hi h0
    go_enter Tryz.func140, Tryz.ntmps140
    go_wp2
    go_ret
    exact ⟨rfl, rfl⟩
theorem behind_op {op : Nat} (h1 : 2 ≤ op) (h2 : op ≤ 12) : behindN op = 0 := by
  obtain rfl | rfl | rfl | rfl | rfl | rfl | rfl | rfl | rfl | rfl | rfl : op = 2 ∨ op = 3 ∨ op = 4 ∨ op = 5 ∨ op = 6 ∨ op = 7 ∨ op = 8 ∨ op = 9 ∨ op = 10 ∨ op = 11 ∨ op = 12 := by omega
  all_goals rfl
end Go.Proofs.YtnnbhebklnappaaGreatDoor

set_option linter.unusedVariables false
set_option linter.unusedSimpArgs false
namespace Go.Proofs.YtnnbhebklnappaaGreatDoor
open Go.RowKit Go.Deep

set_option maxHeartbeats 4000000 in
set_option maxRecDepth 100000 in
theorem node_fact {cb : Nat} {na : Option Addr} {nc : Nat} {lv rv fv : Value} {N : List PNode} {ls : List PLet} {rs : List PRule} {fs : List Fact} (j b below h : Nat) (hj : j < b) (hbN : b ≤ N.length) (hbl : below + b ≤ 1000) (n : PNode) (hnj : N[j]? = some n) (hn : NodeOk n) (v : Int) (hfa : atF fs (j : Int) = some v) (hv : In64 v) (w : World) (H : CmpAt w cb (.slice na N.length nc) lv rv fv h N ls rs fs) :
    Calls Tryz.prog 140 #[.pointer (some ⟨cb, 0, none⟩), .slice na b nc, .int .i64 j, .int .i64 below] w fun e w' => e = .returned (.string (bsN (opC 0 v))) ∧ CmpAt w' cb (.slice na N.length nc) lv rv fv (layH below h) N ls rs fs ∧ But cb w w' := by
  have HM := Hid.mk2 (NdSt.start H n)
  have hnl := hn.left
  have hnr := hn.right
  have hnb := H.pa.nb
  obtain ⟨g, o, rfl, hg, hcap, d0, d1, d2, d3, d4, d5⟩ := node_cells H hnj
  have hsl := fun wx => sliceN g o b nc j (by omega) (by omega) wx
  have hlcb := H.blk.lt
  have q3 := H.blk.cell 3
  simp only [List.getElem?_toArray, List.getElem?_cons_zero, List.getElem?_cons_succ] at q3
  have e0 : decide ((j : Int) < 0) = false := decide_eq_false (by omega)
  have e1 : decide ((b : Int) ≤ (j : Int)) = false := decide_eq_false (by omega)
  have HFA : Hid (atF fs (j : Int) = some v) := hfa
  have HV := Hid.mk2 hv
  clear hv
  clear H hnj hfa
  have HN := Hid.mk2 hn
  clear hn
  go_enter Tryz.func140, Tryz.ntmps140
  go_upto_region 6 with (go_at_call 116; refine (factAt_any fs _ (j : Int) _ HM.out.c.fr HM.out.c.fb ⟨by omega, by omega⟩).mono ?_; rintro e w1 ⟨rfl, hb1⟩; rw [HFA.out]; rw [show factA (some v) = .agg #[.bool true, .int .i64 v] from rfl]; clear q3; replace HM := Hid.mk2 ((HM.out.below hb1).al (.cells #[.bool true, .int .i64 v] 158)); clear hb1; have n0 := HM.out.nd.cell 0; have n1 := HM.out.nd.cell 1; have n2 := HM.out.nd.cell 2; have n3 := HM.out.nd.cell 3; have n4 := HM.out.nd.cell 4; have n5 := HM.out.nd.cell 5; have k0 := HM.out.c.blk.cell 0; have k1 := HM.out.c.blk.cell 1; have k3 := HM.out.c.blk.cell 3; have hln := HM.out.nd.lt; have hlc := HM.out.c.blk.lt; simp only [nodC, List.getElem?_toArray, List.getElem?_cons_zero, List.getElem?_cons_succ] at n0 n1 n2 n3 n4 n5 k0 k1 k3)
  go_wp2_with (go_at_call 155; refine (lay_any HM.out.c 0 (by omega) v HV.out below (by omega)).mono ?_; rintro e w2 ⟨rfl, hc2, hb2⟩; clear n0 n1 n2 n3 n4 n5 k0 k1 k3 hln hlc; replace HM := Hid.mk2 (HM.out.call hc2 hb2); clear hc2 hb2)
  go_ret
  exact ⟨rfl, HM.out.c, HM.out.bu⟩
set_option maxHeartbeats 4000000 in
set_option maxRecDepth 100000 in
theorem node_one {cb : Nat} {na : Option Addr} {nc : Nat} {lv rv fv : Value} {N : List PNode} {ls : List PLet} {rs : List PRule} {fs : List Fact} (j b below h : Nat) (hj : j < b) (hbN : b ≤ N.length) (hbl : below + b ≤ 1000) (n : PNode) (hnj : N[j]? = some n) (hn : NodeOk n) (hfa : atF fs (j : Int) = none) (h1 : n.ops = 1) (cl : List Nat) (h' : Nat) (hcl : cl.length ≤ 60000) (HI : Hid (∀ wx, CmpAt wx cb (.slice na N.length nc) lv rv fv h N ls rs fs → Calls Tryz.prog 140 #[.pointer (some ⟨cb, 0, none⟩), .slice na j nc, .int .i64 (n.left : Int), .int .i64 below] wx fun e w' => e = .returned (.string (bsN cl)) ∧ CmpAt w' cb (.slice na N.length nc) lv rv fv h' N ls rs fs ∧ But cb wx w')) (w : World) (H : CmpAt w cb (.slice na N.length nc) lv rv fv h N ls rs fs) :
    Calls Tryz.prog 140 #[.pointer (some ⟨cb, 0, none⟩), .slice na b nc, .int .i64 j, .int .i64 below] w fun e w' => e = .returned (.string (bsN (cl ++ opC (opK (kindP n.tok.text) n.ops) 0))) ∧ CmpAt w' cb (.slice na N.length nc) lv rv fv h' N ls rs fs ∧ But cb w w' := by
  have HM := Hid.mk2 (NdSt.start H n)
  have hnl := hn.left
  have hnr := hn.right
  have hnb := H.pa.nb
  obtain ⟨g, o, rfl, hg, hcap, d0, d1, d2, d3, d4, d5⟩ := node_cells H hnj
  have hsl := fun wx => sliceN g o b nc j (by omega) (by omega) wx
  have hlcb := H.blk.lt
  have q3 := H.blk.cell 3
  simp only [List.getElem?_toArray, List.getElem?_cons_zero, List.getElem?_cons_succ] at q3
  have e0 : decide ((j : Int) < 0) = false := decide_eq_false (by omega)
  have e1 : decide ((b : Int) ≤ (j : Int)) = false := decide_eq_false (by omega)
  have HFA : Hid (atF fs (j : Int) = none) := hfa
  have HON := Hid.mk2 (hn.one h1)
  have e2 : ((n.ops : Int) == 1) = true := by simp; omega
  obtain ⟨op, hop⟩ : ∃ op, opK (kindP n.tok.text) n.ops = op := ⟨_, rfl⟩
  rw [hop] at HON ⊢
  have HOP := Hid.mk2 hop
  have hop2 : 2 ≤ op ∧ op ≤ 3 := by have := HON.out; omega
  have HFin : Hid (bsN cl ++ bsN (opC op 0) = bsN (cl ++ opC op 0)) := bsN_append _ _
  have zl : (bsN cl).size = cl.length := bsN_len _
  have zo : (bsN (opC op 0)).size = 1 := by rw [opC_size, behind_op (by omega) (by omega)]
  clear h1 hop
  clear H hnj hfa
  have HN := Hid.mk2 hn
  clear hn
  go_enter Tryz.func140, Tryz.ntmps140
  go_upto_region 6 with (go_at_call 116; refine (factAt_any fs _ (j : Int) _ HM.out.c.fr HM.out.c.fb ⟨by omega, by omega⟩).mono ?_; rintro e w1 ⟨rfl, hb1⟩; rw [HFA.out]; rw [show factA none = .agg #[.bool false, .int .i64 0] from rfl]; clear q3; replace HM := Hid.mk2 ((HM.out.below hb1).al (.cells #[.bool false, .int .i64 0] 158)); clear hb1; have n0 := HM.out.nd.cell 0; have n1 := HM.out.nd.cell 1; have n2 := HM.out.nd.cell 2; have n3 := HM.out.nd.cell 3; have n4 := HM.out.nd.cell 4; have n5 := HM.out.nd.cell 5; have k0 := HM.out.c.blk.cell 0; have k1 := HM.out.c.blk.cell 1; have k3 := HM.out.c.blk.cell 3; have hln := HM.out.nd.lt; have hlc := HM.out.c.blk.lt; simp only [nodC, List.getElem?_toArray, List.getElem?_cons_zero, List.getElem?_cons_succ] at n0 n1 n2 n3 n4 n5 k0 k1 k3)
  go_wp2_with (first
    | (go_at_call 140; refine (HI.out _ HM.out.c).mono ?_; rintro e w2 ⟨rfl, hc2, hb2⟩; clear n0 n1 n2 n3 n4 n5 k0 k1 k3 hln hlc; replace HM := Hid.mk2 (HM.out.call hc2 hb2); clear hc2 hb2; have n0 := HM.out.nd.cell 0; have n1 := HM.out.nd.cell 1; have n2 := HM.out.nd.cell 2; have n3 := HM.out.nd.cell 3; have n4 := HM.out.nd.cell 4; have n5 := HM.out.nd.cell 5; have k0 := HM.out.c.blk.cell 0; have k1 := HM.out.c.blk.cell 1; have k3 := HM.out.c.blk.cell 3; have hln := HM.out.nd.lt; have hlc := HM.out.c.blk.lt; simp only [nodC, List.getElem?_toArray, List.getElem?_cons_zero, List.getElem?_cons_succ] at n0 n1 n2 n3 n4 n5 k0 k1 k3)
    | (go_at_call 118; refine (operationOf_any n _).mono ?_; rintro e w3 ⟨rfl, hb3⟩; rw [HOP.out]; clear n0 n1 n2 n3 n4 n5 k0 k1 k3 hln hlc; replace HM := Hid.mk2 (HM.out.below hb3); clear hb3)
    | (go_at_call 87; refine (Bytes_any op (by omega) 0 (by decide) _ HM.out.c.gb).mono ?_; rintro e w4 ⟨rfl, hb4⟩; replace HM := Hid.mk2 (HM.out.below hb4); clear hb4))
  go_ret
  exact ⟨by rw [← HFin.out]; rfl, HM.out.c, HM.out.bu⟩
end Go.Proofs.YtnnbhebklnappaaGreatDoor

set_option linter.unusedVariables false
set_option linter.unusedSimpArgs false
namespace Go.Proofs.YtnnbhebklnappaaGreatDoor
open Go.RowKit Go.Deep

set_option maxHeartbeats 4000000 in
set_option maxRecDepth 100000 in
theorem node_choice {cb : Nat} {na : Option Addr} {nc : Nat} {lv rv fv : Value} {N : List PNode} {ls : List PLet} {rs : List PRule} {fs : List Fact} (j b below h : Nat) (hj : j < b) (hbN : b ≤ N.length) (hbl : below + b ≤ 1000) (n : PNode) (hnj : N[j]? = some n) (hn : NodeOk n) (hfa : atF fs (j : Int) = none) (h1 : n.ops ≠ 1) (hc : isChK (kindP n.tok.text) = true) (cl : List Nat) (h' : Nat) (HI : Hid (∀ wx, CmpAt wx cb (.slice na N.length nc) lv rv fv h N ls rs fs → Calls Tryz.prog 156 #[.pointer (some ⟨cb, 0, none⟩), .slice na j nc, nodA n, .int .i64 below] wx fun e w' => e = .returned (.string (bsN cl)) ∧ CmpAt w' cb (.slice na N.length nc) lv rv fv h' N ls rs fs ∧ But cb wx w')) (w : World) (H : CmpAt w cb (.slice na N.length nc) lv rv fv h N ls rs fs) :
    Calls Tryz.prog 140 #[.pointer (some ⟨cb, 0, none⟩), .slice na b nc, .int .i64 j, .int .i64 below] w fun e w' => e = .returned (.string (bsN cl)) ∧ CmpAt w' cb (.slice na N.length nc) lv rv fv h' N ls rs fs ∧ But cb w w' := by
  have HM := Hid.mk2 (NdSt.start H n)
  have hnl := hn.left
  have hnr := hn.right
  have hnb := H.pa.nb
  obtain ⟨g, o, rfl, hg, hcap, d0, d1, d2, d3, d4, d5⟩ := node_cells H hnj
  have hsl := fun wx => sliceN g o b nc j (by omega) (by omega) wx
  have hlcb := H.blk.lt
  have q3 := H.blk.cell 3
  simp only [List.getElem?_toArray, List.getElem?_cons_zero, List.getElem?_cons_succ] at q3
  have e0 : decide ((j : Int) < 0) = false := decide_eq_false (by omega)
  have e1 : decide ((b : Int) ≤ (j : Int)) = false := decide_eq_false (by omega)
  have HFA : Hid (atF fs (j : Int) = none) := hfa
  have e2 : ((n.ops : Int) == 1) = false := by simp; omega
  have HCH := Hid.mk2 hc
  clear h1 hc
  clear H hnj hfa
  have HN := Hid.mk2 hn
  clear hn
  go_enter Tryz.func140, Tryz.ntmps140
  go_upto_region 6 with (go_at_call 116; refine (factAt_any fs _ (j : Int) _ HM.out.c.fr HM.out.c.fb ⟨by omega, by omega⟩).mono ?_; rintro e w1 ⟨rfl, hb1⟩; rw [HFA.out]; rw [show factA none = .agg #[.bool false, .int .i64 0] from rfl]; clear q3; replace HM := Hid.mk2 ((HM.out.below hb1).al (.cells #[.bool false, .int .i64 0] 158)); clear hb1; have n0 := HM.out.nd.cell 0; have n1 := HM.out.nd.cell 1; have n2 := HM.out.nd.cell 2; have n3 := HM.out.nd.cell 3; have n4 := HM.out.nd.cell 4; have n5 := HM.out.nd.cell 5; have k0 := HM.out.c.blk.cell 0; have k1 := HM.out.c.blk.cell 1; have k3 := HM.out.c.blk.cell 3; have hln := HM.out.nd.lt; have hlc := HM.out.c.blk.lt; simp only [nodC, List.getElem?_toArray, List.getElem?_cons_zero, List.getElem?_cons_succ] at n0 n1 n2 n3 n4 n5 k0 k1 k3)
  go_wp2_with (first
    | (go_at_call 119; refine (isChoice_any n _).mono ?_; rintro e w2 ⟨rfl, hb2⟩; rw [HCH.out]; clear n0 n1 n2 n3 n4 n5 k0 k1 k3 hln hlc; replace HM := Hid.mk2 (HM.out.below hb2); clear hb2; have n0 := HM.out.nd.cell 0; have n1 := HM.out.nd.cell 1; have n2 := HM.out.nd.cell 2; have n3 := HM.out.nd.cell 3; have n4 := HM.out.nd.cell 4; have n5 := HM.out.nd.cell 5; have k0 := HM.out.c.blk.cell 0; have k1 := HM.out.c.blk.cell 1; have k3 := HM.out.c.blk.cell 3; have hln := HM.out.nd.lt; have hlc := HM.out.c.blk.lt; simp only [nodC, List.getElem?_toArray, List.getElem?_cons_zero, List.getElem?_cons_succ] at n0 n1 n2 n3 n4 n5 k0 k1 k3)
    | (go_at_call 156; refine (HI.out _ HM.out.c).mono ?_; rintro e w3 ⟨rfl, hc3, hb3⟩; clear n0 n1 n2 n3 n4 n5 k0 k1 k3 hln hlc; replace HM := Hid.mk2 (HM.out.call hc3 hb3); clear hc3 hb3))
  go_ret
  exact ⟨rfl, HM.out.c, HM.out.bu⟩
set_option maxHeartbeats 4000000 in
set_option maxRecDepth 100000 in
theorem node_two {cb : Nat} {na : Option Addr} {nc : Nat} {lv rv fv : Value} {N : List PNode} {ls : List PLet} {rs : List PRule} {fs : List Fact} (j b below h : Nat) (hj : j < b) (hbN : b ≤ N.length) (hbl : below + b ≤ 1000) (n : PNode) (hnj : N[j]? = some n) (hn : NodeOk n) (hfa : atF fs (j : Int) = none) (h1 : n.ops = 2) (hc : isChK (kindP n.tok.text) = false) (cl cr : List Nat) (h' h'' : Nat) (hcl : cl.length + cr.length ≤ 60000) (HI : Hid (∀ wx, CmpAt wx cb (.slice na N.length nc) lv rv fv h N ls rs fs → Calls Tryz.prog 140 #[.pointer (some ⟨cb, 0, none⟩), .slice na j nc, .int .i64 (n.left : Int), .int .i64 below] wx fun e w' => e = .returned (.string (bsN cl)) ∧ CmpAt w' cb (.slice na N.length nc) lv rv fv h' N ls rs fs ∧ But cb wx w')) (HJ : Hid (∀ wx, CmpAt wx cb (.slice na N.length nc) lv rv fv h' N ls rs fs → Calls Tryz.prog 140 #[.pointer (some ⟨cb, 0, none⟩), .slice na j nc, .int .i64 (n.right : Int), .int .i64 (below + 1 : Nat)] wx fun e w' => e = .returned (.string (bsN cr)) ∧ CmpAt w' cb (.slice na N.length nc) lv rv fv h'' N ls rs fs ∧ But cb wx w')) (w : World) (H : CmpAt w cb (.slice na N.length nc) lv rv fv h N ls rs fs) :
    Calls Tryz.prog 140 #[.pointer (some ⟨cb, 0, none⟩), .slice na b nc, .int .i64 j, .int .i64 below] w fun e w' => e = .returned (.string (bsN (cl ++ cr ++ opC (opK (kindP n.tok.text) n.ops) 0))) ∧ CmpAt w' cb (.slice na N.length nc) lv rv fv h'' N ls rs fs ∧ But cb w w' := by
  have HM := Hid.mk2 (NdSt.start H n)
  have hnl := hn.left
  have hnr := hn.right
  have hnb := H.pa.nb
  obtain ⟨g, o, rfl, hg, hcap, d0, d1, d2, d3, d4, d5⟩ := node_cells H hnj
  have hsl := fun wx => sliceN g o b nc j (by omega) (by omega) wx
  have hlcb := H.blk.lt
  have q3 := H.blk.cell 3
  simp only [List.getElem?_toArray, List.getElem?_cons_zero, List.getElem?_cons_succ] at q3
  have e0 : decide ((j : Int) < 0) = false := decide_eq_false (by omega)
  have e1 : decide ((b : Int) ≤ (j : Int)) = false := decide_eq_false (by omega)
  have HFA : Hid (atF fs (j : Int) = none) := hfa
  have HON := Hid.mk2 (hn.two hc h1)
  have e2 : ((n.ops : Int) == 1) = false := by simp; omega
  have e3 : ((n.ops : Int) == 2) = true := by simp; omega
  have HCH := Hid.mk2 hc
  obtain ⟨op, hop⟩ : ∃ op, opK (kindP n.tok.text) n.ops = op := ⟨_, rfl⟩
  rw [hop] at HON ⊢
  have HOP := Hid.mk2 hop
  have hop2 : 4 ≤ op ∧ op ≤ 12 := HON.out
  have HFin : Hid (bsN cl ++ bsN cr ++ bsN (opC op 0) = bsN (cl ++ cr ++ opC op 0)) := by rw [Hid, bsN_append, bsN_append]
  have zl : (bsN cl).size = cl.length := bsN_len _
  have zr : (bsN cr).size = cr.length := bsN_len _
  have zo : (bsN (opC op 0)).size = 1 := by rw [opC_size, behind_op (by omega) (by omega)]
  obtain ⟨b1, hb1⟩ : ∃ b1 : Nat, (below : Int) + 1 = (b1 : Int) := ⟨below + 1, by omega⟩
  have hb1e : below + 1 = b1 := by omega
  rw [hb1e] at HJ
  clear h1 hop hc hb1e
  clear H hnj hfa
  have HN := Hid.mk2 hn
  clear hn
  go_enter Tryz.func140, Tryz.ntmps140
  go_upto_region 6 with (go_at_call 116; refine (factAt_any fs _ (j : Int) _ HM.out.c.fr HM.out.c.fb ⟨by omega, by omega⟩).mono ?_; rintro e w1 ⟨rfl, hb1⟩; rw [HFA.out]; rw [show factA none = .agg #[.bool false, .int .i64 0] from rfl]; clear q3; replace HM := Hid.mk2 ((HM.out.below hb1).al (.cells #[.bool false, .int .i64 0] 158)); clear hb1; have n0 := HM.out.nd.cell 0; have n1 := HM.out.nd.cell 1; have n2 := HM.out.nd.cell 2; have n3 := HM.out.nd.cell 3; have n4 := HM.out.nd.cell 4; have n5 := HM.out.nd.cell 5; have k0 := HM.out.c.blk.cell 0; have k1 := HM.out.c.blk.cell 1; have k3 := HM.out.c.blk.cell 3; have hln := HM.out.nd.lt; have hlc := HM.out.c.blk.lt; simp only [nodC, List.getElem?_toArray, List.getElem?_cons_zero, List.getElem?_cons_succ] at n0 n1 n2 n3 n4 n5 k0 k1 k3)
  go_wp2_with (first
    | (go_at_call 119; refine (isChoice_any n _).mono ?_; rintro e w2 ⟨rfl, hb2⟩; rw [HCH.out]; clear n0 n1 n2 n3 n4 n5 k0 k1 k3 hln hlc; replace HM := Hid.mk2 (HM.out.below hb2); clear hb2; have n0 := HM.out.nd.cell 0; have n1 := HM.out.nd.cell 1; have n2 := HM.out.nd.cell 2; have n3 := HM.out.nd.cell 3; have n4 := HM.out.nd.cell 4; have n5 := HM.out.nd.cell 5; have k0 := HM.out.c.blk.cell 0; have k1 := HM.out.c.blk.cell 1; have k3 := HM.out.c.blk.cell 3; have hln := HM.out.nd.lt; have hlc := HM.out.c.blk.lt; simp only [nodC, List.getElem?_toArray, List.getElem?_cons_zero, List.getElem?_cons_succ] at n0 n1 n2 n3 n4 n5 k0 k1 k3)
    | (go_at_call_of 140 (Value.int IntKind.i64 (n.left : Int)); refine (HI.out _ HM.out.c).mono ?_; rintro e w3 ⟨rfl, hc3, hb3⟩; clear n0 n1 n2 n3 n4 n5 k0 k1 k3 hln hlc; replace HM := Hid.mk2 (HM.out.call hc3 hb3); clear hc3 hb3; have n0 := HM.out.nd.cell 0; have n1 := HM.out.nd.cell 1; have n2 := HM.out.nd.cell 2; have n3 := HM.out.nd.cell 3; have n4 := HM.out.nd.cell 4; have n5 := HM.out.nd.cell 5; have k0 := HM.out.c.blk.cell 0; have k1 := HM.out.c.blk.cell 1; have k3 := HM.out.c.blk.cell 3; have hln := HM.out.nd.lt; have hlc := HM.out.c.blk.lt; simp only [nodC, List.getElem?_toArray, List.getElem?_cons_zero, List.getElem?_cons_succ] at n0 n1 n2 n3 n4 n5 k0 k1 k3)
    | (go_at_call_of 140 (Value.int IntKind.i64 (n.right : Int)); refine (HJ.out _ HM.out.c).mono ?_; rintro e w4 ⟨rfl, hc4, hb4⟩; clear n0 n1 n2 n3 n4 n5 k0 k1 k3 hln hlc; replace HM := Hid.mk2 (HM.out.call hc4 hb4); clear hc4 hb4; have n0 := HM.out.nd.cell 0; have n1 := HM.out.nd.cell 1; have n2 := HM.out.nd.cell 2; have n3 := HM.out.nd.cell 3; have n4 := HM.out.nd.cell 4; have n5 := HM.out.nd.cell 5; have k0 := HM.out.c.blk.cell 0; have k1 := HM.out.c.blk.cell 1; have k3 := HM.out.c.blk.cell 3; have hln := HM.out.nd.lt; have hlc := HM.out.c.blk.lt; simp only [nodC, List.getElem?_toArray, List.getElem?_cons_zero, List.getElem?_cons_succ] at n0 n1 n2 n3 n4 n5 k0 k1 k3)
    | (go_at_call 118; refine (operationOf_any n _).mono ?_; rintro e w5 ⟨rfl, hb5⟩; rw [HOP.out]; clear n0 n1 n2 n3 n4 n5 k0 k1 k3 hln hlc; replace HM := Hid.mk2 (HM.out.below hb5); clear hb5)
    | (go_at_call 87; refine (Bytes_any op (by omega) 0 (by decide) _ HM.out.c.gb).mono ?_; rintro e w6 ⟨rfl, hb6⟩; replace HM := Hid.mk2 (HM.out.below hb6); clear hb6))
  go_ret
  exact ⟨by rw [← HFin.out]; rfl, HM.out.c, HM.out.bu⟩
end Go.Proofs.YtnnbhebklnappaaGreatDoor
