/-
  Compile: node: what is known.
-/
import Derived.Test.YtjjbmbjmdgoofaaGreatDoorG31
set_option linter.unusedVariables false
set_option linter.unusedSimpArgs false
namespace Go.Proofs.YtjjbmbjmdgoofaaGreatDoor
open Go.RowKit Go.Deep
set_option maxHeartbeats 4000000 in
set_option maxRecDepth 100000 in
theorem node_fact {cb : Nat} {na : Option Addr} {nc : Nat} {lv rv fv : Value} {N : List PNode} {ls : List PLet} {rs : List PRule} {fs : List Fact} (j b below h : Nat) (hj : j < b) (hbN : b ≤ N.length) (hbl : below + b ≤ 1000) (n : PNode) (hnj : N[j]? = some n) (hn : NodeOk n) (v : Int) (hfa : atF fs (j : Int) = some v) (hv : In64 v) (w : World) (H : CmpAt w cb (.slice na N.length nc) lv rv fv h N ls rs fs) :
    Calls Tryz.prog 150 #[.pointer (some ⟨cb, 0, none⟩), .slice na b nc, .int .i64 j, .int .i64 below] w fun e w' => e = .returned (.string (bsN (opC 0 v))) ∧ CmpAt w' cb (.slice na N.length nc) lv rv fv (layH below h) N ls rs fs ∧ But cb w w' := by
  have HM := Hid.mk2 (NdSt.start H n)
  have hnl := hn.left
  have hnr := hn.right
  have hnb := H.pa.nb
  obtain ⟨g, o, rfl, hg, hcap, d0, d1, d2, d3, d4, d5⟩ := node_cells H hnj
  have hsl := fun wx => sliceN g o b nc j (by omega) (by omega) wx
  have hlcb := H.blk.lt
  have q3 := H.blk.cell 3
  simp only [List.getElem?_toArray, List.getElem?_cons_zero, List.getElem?_cons_succ] at q3
  have e0 : decide ((j : Int) < 0) = false := decide_eq_false (by omega)
  have e1 : decide ((b : Int) ≤ (j : Int)) = false := decide_eq_false (by omega)
  have HFA : Hid (atF fs (j : Int) = some v) := hfa
  have HV := Hid.mk2 hv
  clear hv
  clear H hnj hfa
  have HN := Hid.mk2 hn
  clear hn
  go_enter Tryz.func150, Tryz.ntmps150
  go_upto_region 6 with (go_at_call 122; refine (factAt_any fs _ (j : Int) _ HM.out.c.fr HM.out.c.fb ⟨by omega, by omega⟩).mono ?_; rintro e w1 ⟨rfl, hb1⟩; rw [HFA.out]; rw [show factA (some v) = .agg #[.bool true, .int .i64 v] from rfl]; clear q3; replace HM := Hid.mk2 ((HM.out.below hb1).al (.cells #[.bool true, .int .i64 v] 159)); clear hb1; have n0 := HM.out.nd.cell 0; have n1 := HM.out.nd.cell 1; have n2 := HM.out.nd.cell 2; have n3 := HM.out.nd.cell 3; have n4 := HM.out.nd.cell 4; have n5 := HM.out.nd.cell 5; have k0 := HM.out.c.blk.cell 0; have k1 := HM.out.c.blk.cell 1; have k3 := HM.out.c.blk.cell 3; have hln := HM.out.nd.lt; have hlc := HM.out.c.blk.lt; simp only [nodC, List.getElem?_toArray, List.getElem?_cons_zero, List.getElem?_cons_succ] at n0 n1 n2 n3 n4 n5 k0 k1 k3)
  go_wp2_with (go_at_call 170; refine (lay_any HM.out.c 0 (by omega) v HV.out below (by omega)).mono ?_; rintro e w2 ⟨rfl, hc2, hb2⟩; clear n0 n1 n2 n3 n4 n5 k0 k1 k3 hln hlc; replace HM := Hid.mk2 (HM.out.call hc2 hb2); clear hc2 hb2)
  go_ret
  exact ⟨rfl, HM.out.c, HM.out.bu⟩
set_option maxHeartbeats 4000000 in
set_option maxRecDepth 100000 in
theorem node_one {cb : Nat} {na : Option Addr} {nc : Nat} {lv rv fv : Value} {N : List PNode} {ls : List PLet} {rs : List PRule} {fs : List Fact} (j b below h : Nat) (hj : j < b) (hbN : b ≤ N.length) (hbl : below + b ≤ 1000) (n : PNode) (hnj : N[j]? = some n) (hn : NodeOk n) (hfa : atF fs (j : Int) = none) (h1 : n.ops = 1) (cl : List Nat) (h' : Nat) (hcl : cl.length ≤ 60000) (HI : Hid (∀ wx, CmpAt wx cb (.slice na N.length nc) lv rv fv h N ls rs fs → Calls Tryz.prog 150 #[.pointer (some ⟨cb, 0, none⟩), .slice na j nc, .int .i64 (n.left : Int), .int .i64 below] wx fun e w' => e = .returned (.string (bsN cl)) ∧ CmpAt w' cb (.slice na N.length nc) lv rv fv h' N ls rs fs ∧ But cb wx w')) (w : World) (H : CmpAt w cb (.slice na N.length nc) lv rv fv h N ls rs fs) :
    Calls Tryz.prog 150 #[.pointer (some ⟨cb, 0, none⟩), .slice na b nc, .int .i64 j, .int .i64 below] w fun e w' => e = .returned (.string (bsN (cl ++ opC (opK (kindP n.tok.text) n.ops) 0))) ∧ CmpAt w' cb (.slice na N.length nc) lv rv fv h' N ls rs fs ∧ But cb w w' := by
  have HM := Hid.mk2 (NdSt.start H n)
  have hnl := hn.left
  have hnr := hn.right
  have hnb := H.pa.nb
  obtain ⟨g, o, rfl, hg, hcap, d0, d1, d2, d3, d4, d5⟩ := node_cells H hnj
  have hsl := fun wx => sliceN g o b nc j (by omega) (by omega) wx
  have hlcb := H.blk.lt
  have q3 := H.blk.cell 3
  simp only [List.getElem?_toArray, List.getElem?_cons_zero, List.getElem?_cons_succ] at q3
  have e0 : decide ((j : Int) < 0) = false := decide_eq_false (by omega)
  have e1 : decide ((b : Int) ≤ (j : Int)) = false := decide_eq_false (by omega)
  have HFA : Hid (atF fs (j : Int) = none) := hfa
  have HON := Hid.mk2 (hn.one h1)
  have e2 : ((n.ops : Int) == 1) = true := by simp; omega
  obtain ⟨op, hop⟩ : ∃ op, opK (kindP n.tok.text) n.ops = op := ⟨_, rfl⟩
  rw [hop] at HON ⊢
  have HOP := Hid.mk2 hop
  have hop2 : 2 ≤ op ∧ op ≤ 3 := by have := HON.out; omega
  have HFin : Hid (bsN cl ++ bsN (opC op 0) = bsN (cl ++ opC op 0)) := bsN_append _ _
  have zl : (bsN cl).size = cl.length := bsN_len _
  have zo : (bsN (opC op 0)).size = 1 := by rw [opC_size, behind_op (by omega) (by omega)]
  clear h1 hop
  clear H hnj hfa
  have HN := Hid.mk2 hn
  clear hn
  go_enter Tryz.func150, Tryz.ntmps150
  go_upto_region 6 with (go_at_call 122; refine (factAt_any fs _ (j : Int) _ HM.out.c.fr HM.out.c.fb ⟨by omega, by omega⟩).mono ?_; rintro e w1 ⟨rfl, hb1⟩; rw [HFA.out]; rw [show factA none = .agg #[.bool false, .int .i64 0] from rfl]; clear q3; replace HM := Hid.mk2 ((HM.out.below hb1).al (.cells #[.bool false, .int .i64 0] 159)); clear hb1; have n0 := HM.out.nd.cell 0; have n1 := HM.out.nd.cell 1; have n2 := HM.out.nd.cell 2; have n3 := HM.out.nd.cell 3; have n4 := HM.out.nd.cell 4; have n5 := HM.out.nd.cell 5; have k0 := HM.out.c.blk.cell 0; have k1 := HM.out.c.blk.cell 1; have k3 := HM.out.c.blk.cell 3; have hln := HM.out.nd.lt; have hlc := HM.out.c.blk.lt; simp only [nodC, List.getElem?_toArray, List.getElem?_cons_zero, List.getElem?_cons_succ] at n0 n1 n2 n3 n4 n5 k0 k1 k3)
  go_wp2_with (first
    | (go_at_call 150; refine (HI.out _ HM.out.c).mono ?_; rintro e w2 ⟨rfl, hc2, hb2⟩; clear n0 n1 n2 n3 n4 n5 k0 k1 k3 hln hlc; replace HM := Hid.mk2 (HM.out.call hc2 hb2); clear hc2 hb2; have n0 := HM.out.nd.cell 0; have n1 := HM.out.nd.cell 1; have n2 := HM.out.nd.cell 2; have n3 := HM.out.nd.cell 3; have n4 := HM.out.nd.cell 4; have n5 := HM.out.nd.cell 5; have k0 := HM.out.c.blk.cell 0; have k1 := HM.out.c.blk.cell 1; have k3 := HM.out.c.blk.cell 3; have hln := HM.out.nd.lt; have hlc := HM.out.c.blk.lt; simp only [nodC, List.getElem?_toArray, List.getElem?_cons_zero, List.getElem?_cons_succ] at n0 n1 n2 n3 n4 n5 k0 k1 k3)
    | (go_at_call 124; refine (operationOf_any n _).mono ?_; rintro e w3 ⟨rfl, hb3⟩; rw [HOP.out]; clear n0 n1 n2 n3 n4 n5 k0 k1 k3 hln hlc; replace HM := Hid.mk2 (HM.out.below hb3); clear hb3)
    | (go_at_call 96; refine (Bytes_any op (by omega) 0 (by decide) _ HM.out.c.gb).mono ?_; rintro e w4 ⟨rfl, hb4⟩; replace HM := Hid.mk2 (HM.out.below hb4); clear hb4))
  go_ret
  exact ⟨by rw [← HFin.out]; rfl, HM.out.c, HM.out.bu⟩
end Go.Proofs.YtjjbmbjmdgoofaaGreatDoor
namespace Go.Proofs.YtjjbmbjmdgoofaaGreatDoor
open Go.RowKit Go.Deep
set_option maxHeartbeats 4000000 in
set_option maxRecDepth 100000 in
theorem node_choice {cb : Nat} {na : Option Addr} {nc : Nat} {lv rv fv : Value} {N : List PNode} {ls : List PLet} {rs : List PRule} {fs : List Fact} (j b below h : Nat) (hj : j < b) (hbN : b ≤ N.length) (hbl : below + b ≤ 1000) (n : PNode) (hnj : N[j]? = some n) (hn : NodeOk n) (hfa : atF fs (j : Int) = none) (h1 : n.ops ≠ 1) (hc : isChK (kindP n.tok.text) = true) (cl : List Nat) (h' : Nat) (HI : Hid (∀ wx, CmpAt wx cb (.slice na N.length nc) lv rv fv h N ls rs fs → Calls Tryz.prog 171 #[.pointer (some ⟨cb, 0, none⟩), .slice na j nc, nodA n, .int .i64 below] wx fun e w' => e = .returned (.string (bsN cl)) ∧ CmpAt w' cb (.slice na N.length nc) lv rv fv h' N ls rs fs ∧ But cb wx w')) (w : World) (H : CmpAt w cb (.slice na N.length nc) lv rv fv h N ls rs fs) :
    Calls Tryz.prog 150 #[.pointer (some ⟨cb, 0, none⟩), .slice na b nc, .int .i64 j, .int .i64 below] w fun e w' => e = .returned (.string (bsN cl)) ∧ CmpAt w' cb (.slice na N.length nc) lv rv fv h' N ls rs fs ∧ But cb w w' := by
  have HM := Hid.mk2 (NdSt.start H n)
  have hnl := hn.left
  have hnr := hn.right
  have hnb := H.pa.nb
  obtain ⟨g, o, rfl, hg, hcap, d0, d1, d2, d3, d4, d5⟩ := node_cells H hnj
  have hsl := fun wx => sliceN g o b nc j (by omega) (by omega) wx
  have hlcb := H.blk.lt
  have q3 := H.blk.cell 3
  simp only [List.getElem?_toArray, List.getElem?_cons_zero, List.getElem?_cons_succ] at q3
  have e0 : decide ((j : Int) < 0) = false := decide_eq_false (by omega)
  have e1 : decide ((b : Int) ≤ (j : Int)) = false := decide_eq_false (by omega)
  have HFA : Hid (atF fs (j : Int) = none) := hfa
  have e2 : ((n.ops : Int) == 1) = false := by simp; omega
  have HCH := Hid.mk2 hc
  clear h1 hc
  clear H hnj hfa
  have HN := Hid.mk2 hn
  clear hn
  go_enter Tryz.func150, Tryz.ntmps150
  go_upto_region 6 with (go_at_call 122; refine (factAt_any fs _ (j : Int) _ HM.out.c.fr HM.out.c.fb ⟨by omega, by omega⟩).mono ?_; rintro e w1 ⟨rfl, hb1⟩; rw [HFA.out]; rw [show factA none = .agg #[.bool false, .int .i64 0] from rfl]; clear q3; replace HM := Hid.mk2 ((HM.out.below hb1).al (.cells #[.bool false, .int .i64 0] 159)); clear hb1; have n0 := HM.out.nd.cell 0; have n1 := HM.out.nd.cell 1; have n2 := HM.out.nd.cell 2; have n3 := HM.out.nd.cell 3; have n4 := HM.out.nd.cell 4; have n5 := HM.out.nd.cell 5; have k0 := HM.out.c.blk.cell 0; have k1 := HM.out.c.blk.cell 1; have k3 := HM.out.c.blk.cell 3; have hln := HM.out.nd.lt; have hlc := HM.out.c.blk.lt; simp only [nodC, List.getElem?_toArray, List.getElem?_cons_zero, List.getElem?_cons_succ] at n0 n1 n2 n3 n4 n5 k0 k1 k3)
  go_wp2_with (first
    | (go_at_call 125; refine (isChoice_any n _).mono ?_; rintro e w2 ⟨rfl, hb2⟩; rw [HCH.out]; clear n0 n1 n2 n3 n4 n5 k0 k1 k3 hln hlc; replace HM := Hid.mk2 (HM.out.below hb2); clear hb2; have n0 := HM.out.nd.cell 0; have n1 := HM.out.nd.cell 1; have n2 := HM.out.nd.cell 2; have n3 := HM.out.nd.cell 3; have n4 := HM.out.nd.cell 4; have n5 := HM.out.nd.cell 5; have k0 := HM.out.c.blk.cell 0; have k1 := HM.out.c.blk.cell 1; have k3 := HM.out.c.blk.cell 3; have hln := HM.out.nd.lt; have hlc := HM.out.c.blk.lt; simp only [nodC, List.getElem?_toArray, List.getElem?_cons_zero, List.getElem?_cons_succ] at n0 n1 n2 n3 n4 n5 k0 k1 k3)
    | (go_at_call 171; refine (HI.out _ HM.out.c).mono ?_; rintro e w3 ⟨rfl, hc3, hb3⟩; clear n0 n1 n2 n3 n4 n5 k0 k1 k3 hln hlc; replace HM := Hid.mk2 (HM.out.call hc3 hb3); clear hc3 hb3))
  go_ret
  exact ⟨rfl, HM.out.c, HM.out.bu⟩
set_option maxHeartbeats 4000000 in
set_option maxRecDepth 100000 in
theorem node_two {cb : Nat} {na : Option Addr} {nc : Nat} {lv rv fv : Value} {N : List PNode} {ls : List PLet} {rs : List PRule} {fs : List Fact} (j b below h : Nat) (hj : j < b) (hbN : b ≤ N.length) (hbl : below + b ≤ 1000) (n : PNode) (hnj : N[j]? = some n) (hn : NodeOk n) (hfa : atF fs (j : Int) = none) (h1 : n.ops = 2) (hc : isChK (kindP n.tok.text) = false) (cl cr : List Nat) (h' h'' : Nat) (hcl : cl.length + cr.length ≤ 60000) (HI : Hid (∀ wx, CmpAt wx cb (.slice na N.length nc) lv rv fv h N ls rs fs → Calls Tryz.prog 150 #[.pointer (some ⟨cb, 0, none⟩), .slice na j nc, .int .i64 (n.left : Int), .int .i64 below] wx fun e w' => e = .returned (.string (bsN cl)) ∧ CmpAt w' cb (.slice na N.length nc) lv rv fv h' N ls rs fs ∧ But cb wx w')) (HJ : Hid (∀ wx, CmpAt wx cb (.slice na N.length nc) lv rv fv h' N ls rs fs → Calls Tryz.prog 150 #[.pointer (some ⟨cb, 0, none⟩), .slice na j nc, .int .i64 (n.right : Int), .int .i64 (below + 1 : Nat)] wx fun e w' => e = .returned (.string (bsN cr)) ∧ CmpAt w' cb (.slice na N.length nc) lv rv fv h'' N ls rs fs ∧ But cb wx w')) (w : World) (H : CmpAt w cb (.slice na N.length nc) lv rv fv h N ls rs fs) :
    Calls Tryz.prog 150 #[.pointer (some ⟨cb, 0, none⟩), .slice na b nc, .int .i64 j, .int .i64 below] w fun e w' => e = .returned (.string (bsN (cl ++ cr ++ opC (opK (kindP n.tok.text) n.ops) 0))) ∧ CmpAt w' cb (.slice na N.length nc) lv rv fv h'' N ls rs fs ∧ But cb w w' := by
  have HM := Hid.mk2 (NdSt.start H n)
  have hnl := hn.left
  have hnr := hn.right
  have hnb := H.pa.nb
  obtain ⟨g, o, rfl, hg, hcap, d0, d1, d2, d3, d4, d5⟩ := node_cells H hnj
  have hsl := fun wx => sliceN g o b nc j (by omega) (by omega) wx
  have hlcb := H.blk.lt
  have q3 := H.blk.cell 3
  simp only [List.getElem?_toArray, List.getElem?_cons_zero, List.getElem?_cons_succ] at q3
  have e0 : decide ((j : Int) < 0) = false := decide_eq_false (by omega)
  have e1 : decide ((b : Int) ≤ (j : Int)) = false := decide_eq_false (by omega)
  have HFA : Hid (atF fs (j : Int) = none) := hfa
  have HON := Hid.mk2 (hn.two hc h1)
  have e2 : ((n.ops : Int) == 1) = false := by simp; omega
  have e3 : ((n.ops : Int) == 2) = true := by simp; omega
  have HCH := Hid.mk2 hc
  obtain ⟨op, hop⟩ : ∃ op, opK (kindP n.tok.text) n.ops = op := ⟨_, rfl⟩
  rw [hop] at HON ⊢
  have HOP := Hid.mk2 hop
  have hop2 : 4 ≤ op ∧ op ≤ 12 := HON.out
  have HFin : Hid (bsN cl ++ bsN cr ++ bsN (opC op 0) = bsN (cl ++ cr ++ opC op 0)) := by rw [Hid, bsN_append, bsN_append]
  have zl : (bsN cl).size = cl.length := bsN_len _
  have zr : (bsN cr).size = cr.length := bsN_len _
  have zo : (bsN (opC op 0)).size = 1 := by rw [opC_size, behind_op (by omega) (by omega)]
  obtain ⟨b1, hb1⟩ : ∃ b1 : Nat, (below : Int) + 1 = (b1 : Int) := ⟨below + 1, by omega⟩
  have hb1e : below + 1 = b1 := by omega
  rw [hb1e] at HJ
  clear h1 hop hc hb1e
  clear H hnj hfa
  have HN := Hid.mk2 hn
  clear hn
  go_enter Tryz.func150, Tryz.ntmps150
  go_upto_region 6 with (go_at_call 122; refine (factAt_any fs _ (j : Int) _ HM.out.c.fr HM.out.c.fb ⟨by omega, by omega⟩).mono ?_; rintro e w1 ⟨rfl, hb1⟩; rw [HFA.out]; rw [show factA none = .agg #[.bool false, .int .i64 0] from rfl]; clear q3; replace HM := Hid.mk2 ((HM.out.below hb1).al (.cells #[.bool false, .int .i64 0] 159)); clear hb1; have n0 := HM.out.nd.cell 0; have n1 := HM.out.nd.cell 1; have n2 := HM.out.nd.cell 2; have n3 := HM.out.nd.cell 3; have n4 := HM.out.nd.cell 4; have n5 := HM.out.nd.cell 5; have k0 := HM.out.c.blk.cell 0; have k1 := HM.out.c.blk.cell 1; have k3 := HM.out.c.blk.cell 3; have hln := HM.out.nd.lt; have hlc := HM.out.c.blk.lt; simp only [nodC, List.getElem?_toArray, List.getElem?_cons_zero, List.getElem?_cons_succ] at n0 n1 n2 n3 n4 n5 k0 k1 k3)
  go_wp2_with (first
    | (go_at_call 125; refine (isChoice_any n _).mono ?_; rintro e w2 ⟨rfl, hb2⟩; rw [HCH.out]; clear n0 n1 n2 n3 n4 n5 k0 k1 k3 hln hlc; replace HM := Hid.mk2 (HM.out.below hb2); clear hb2; have n0 := HM.out.nd.cell 0; have n1 := HM.out.nd.cell 1; have n2 := HM.out.nd.cell 2; have n3 := HM.out.nd.cell 3; have n4 := HM.out.nd.cell 4; have n5 := HM.out.nd.cell 5; have k0 := HM.out.c.blk.cell 0; have k1 := HM.out.c.blk.cell 1; have k3 := HM.out.c.blk.cell 3; have hln := HM.out.nd.lt; have hlc := HM.out.c.blk.lt; simp only [nodC, List.getElem?_toArray, List.getElem?_cons_zero, List.getElem?_cons_succ] at n0 n1 n2 n3 n4 n5 k0 k1 k3)
    | (go_at_call_of 150 (Value.int IntKind.i64 (n.left : Int)); refine (HI.out _ HM.out.c).mono ?_; rintro e w3 ⟨rfl, hc3, hb3⟩; clear n0 n1 n2 n3 n4 n5 k0 k1 k3 hln hlc; replace HM := Hid.mk2 (HM.out.call hc3 hb3); clear hc3 hb3; have n0 := HM.out.nd.cell 0; have n1 := HM.out.nd.cell 1; have n2 := HM.out.nd.cell 2; have n3 := HM.out.nd.cell 3; have n4 := HM.out.nd.cell 4; have n5 := HM.out.nd.cell 5; have k0 := HM.out.c.blk.cell 0; have k1 := HM.out.c.blk.cell 1; have k3 := HM.out.c.blk.cell 3; have hln := HM.out.nd.lt; have hlc := HM.out.c.blk.lt; simp only [nodC, List.getElem?_toArray, List.getElem?_cons_zero, List.getElem?_cons_succ] at n0 n1 n2 n3 n4 n5 k0 k1 k3)
    | (go_at_call_of 150 (Value.int IntKind.i64 (n.right : Int)); refine (HJ.out _ HM.out.c).mono ?_; rintro e w4 ⟨rfl, hc4, hb4⟩; clear n0 n1 n2 n3 n4 n5 k0 k1 k3 hln hlc; replace HM := Hid.mk2 (HM.out.call hc4 hb4); clear hc4 hb4; have n0 := HM.out.nd.cell 0; have n1 := HM.out.nd.cell 1; have n2 := HM.out.nd.cell 2; have n3 := HM.out.nd.cell 3; have n4 := HM.out.nd.cell 4; have n5 := HM.out.nd.cell 5; have k0 := HM.out.c.blk.cell 0; have k1 := HM.out.c.blk.cell 1; have k3 := HM.out.c.blk.cell 3; have hln := HM.out.nd.lt; have hlc := HM.out.c.blk.lt; simp only [nodC, List.getElem?_toArray, List.getElem?_cons_zero, List.getElem?_cons_succ] at n0 n1 n2 n3 n4 n5 k0 k1 k3)
    | (go_at_call 124; refine (operationOf_any n _).mono ?_; rintro e w5 ⟨rfl, hb5⟩; rw [HOP.out]; clear n0 n1 n2 n3 n4 n5 k0 k1 k3 hln hlc; replace HM := Hid.mk2 (HM.out.below hb5); clear hb5)
    | (go_at_call 96; refine (Bytes_any op (by omega) 0 (by decide) _ HM.out.c.gb).mono ?_; rintro e w6 ⟨rfl, hb6⟩; replace HM := Hid.mk2 (HM.out.below hb6); clear hb6))
  go_ret
  exact ⟨by rw [← HFin.out]; rfl, HM.out.c, HM.out.bu⟩
end Go.Proofs.YtjjbmbjmdgoofaaGreatDoor
