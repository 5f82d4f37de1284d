/-
  Compile: node: what is known.
  Compile: node: choices, and operators of two.
  Compile: node: names, and attributes.
-/
import Derived.Test.YtcdnhopeojkmkaaGreatDoorF24
import Derived.Deep.RegionWith
set_option linter.unusedVariables false
set_option linter.unusedSimpArgs false
namespace Go.Proofs.YtcdnhopeojkmkaaGreatDoor
open Go.RowKit Go.Deep

set_option maxHeartbeats 4000000 in
set_option maxRecDepth 100000 in
theorem node_fact {cb : Nat} {na : Option Addr} {nc : Nat} {lv rv fv : Value} {N : List PNode} {ls : List PLet} {rs : List PRule} {fs : List Fact} (j b below h : Nat) (hj : j < b) (hbN : b ≤ N.length) (hbl : below + b ≤ 1000) (n : PNode) (hnj : N[j]? = some n) (hn : NodeOk n) (v : Int) (hfa : atF fs (j : Int) = some v) (hv : In64 v) (w : World) (H : CmpAt w cb (.slice na N.length nc) lv rv fv h N ls rs fs) :
    Calls Tryz.prog 144 #[.pointer (some ⟨cb, 0, none⟩), .slice na b nc, .int .i64 j, .int .i64 below] w fun e w' => e = .returned (.string (bsN (opC 0 v))) ∧ CmpAt w' cb (.slice na N.length nc) lv rv fv (layH below h) N ls rs fs ∧ But cb w w' := by
  have HM := Hid.mk2 (NdSt.start H n)
  have hnl := hn.left
  have hnr := hn.right
  have hnb := H.pa.nb
  obtain ⟨g, o, rfl, hg, hcap, d0, d1, d2, d3, d4, d5⟩ := node_cells H hnj
  have hsl := fun wx => sliceN g o b nc j (by omega) (by omega) wx
  have hlcb := H.blk.lt
  have q3 := H.blk.cell 3
  simp only [List.getElem?_toArray, List.getElem?_cons_zero, List.getElem?_cons_succ] at q3
  have e0 : decide ((j : Int) < 0) = false := decide_eq_false (by omega)
  have e1 : decide ((b : Int) ≤ (j : Int)) = false := decide_eq_false (by omega)
  have HFA : Hid (atF fs (j : Int) = some v) := hfa
  have HV := Hid.mk2 hv
  clear hv
  clear H hnj hfa
  have HN := Hid.mk2 hn
  clear hn
  go_enter Tryz.func144, Tryz.ntmps144
  go_upto_region 6 with (go_at_call 120; refine (factAt_any fs _ (j : Int) _ HM.out.c.fr HM.out.c.fb ⟨by omega, by omega⟩).mono ?_; rintro e w1 ⟨rfl, hb1⟩; rw [HFA.out]; rw [show factA (some v) = .agg #[.bool true, .int .i64 v] from rfl]; clear q3; replace HM := Hid.mk2 ((HM.out.below hb1).al (.cells #[.bool true, .int .i64 v] 161)); clear hb1; have n0 := HM.out.nd.cell 0; have n1 := HM.out.nd.cell 1; have n2 := HM.out.nd.cell 2; have n3 := HM.out.nd.cell 3; have n4 := HM.out.nd.cell 4; have n5 := HM.out.nd.cell 5; have k0 := HM.out.c.blk.cell 0; have k1 := HM.out.c.blk.cell 1; have k3 := HM.out.c.blk.cell 3; have hln := HM.out.nd.lt; have hlc := HM.out.c.blk.lt; simp only [nodC, List.getElem?_toArray, List.getElem?_cons_zero, List.getElem?_cons_succ] at n0 n1 n2 n3 n4 n5 k0 k1 k3)
  go_wp2_with (go_at_call 159; refine (lay_any HM.out.c 0 (by omega) v HV.out below (by omega)).mono ?_; rintro e w2 ⟨rfl, hc2, hb2⟩; clear n0 n1 n2 n3 n4 n5 k0 k1 k3 hln hlc; replace HM := Hid.mk2 (HM.out.call hc2 hb2); clear hc2 hb2)
  go_ret
  exact ⟨rfl, HM.out.c, HM.out.bu⟩
set_option maxHeartbeats 4000000 in
set_option maxRecDepth 100000 in
theorem node_one {cb : Nat} {na : Option Addr} {nc : Nat} {lv rv fv : Value} {N : List PNode} {ls : List PLet} {rs : List PRule} {fs : List Fact} (j b below h : Nat) (hj : j < b) (hbN : b ≤ N.length) (hbl : below + b ≤ 1000) (n : PNode) (hnj : N[j]? = some n) (hn : NodeOk n) (hfa : atF fs (j : Int) = none) (h1 : n.ops = 1) (cl : List Nat) (h' : Nat) (hcl : cl.length ≤ 60000) (HI : Hid (∀ wx, CmpAt wx cb (.slice na N.length nc) lv rv fv h N ls rs fs → Calls Tryz.prog 144 #[.pointer (some ⟨cb, 0, none⟩), .slice na j nc, .int .i64 (n.left : Int), .int .i64 below] wx fun e w' => e = .returned (.string (bsN cl)) ∧ CmpAt w' cb (.slice na N.length nc) lv rv fv h' N ls rs fs ∧ But cb wx w')) (w : World) (H : CmpAt w cb (.slice na N.length nc) lv rv fv h N ls rs fs) :
    Calls Tryz.prog 144 #[.pointer (some ⟨cb, 0, none⟩), .slice na b nc, .int .i64 j, .int .i64 below] w fun e w' => e = .returned (.string (bsN (cl ++ opC (opK (kindP n.tok.text) n.ops) 0))) ∧ CmpAt w' cb (.slice na N.length nc) lv rv fv h' N ls rs fs ∧ But cb w w' := by
  have HM := Hid.mk2 (NdSt.start H n)
  have hnl := hn.left
  have hnr := hn.right
  have hnb := H.pa.nb
  obtain ⟨g, o, rfl, hg, hcap, d0, d1, d2, d3, d4, d5⟩ := node_cells H hnj
  have hsl := fun wx => sliceN g o b nc j (by omega) (by omega) wx
  have hlcb := H.blk.lt
  have q3 := H.blk.cell 3
  simp only [List.getElem?_toArray, List.getElem?_cons_zero, List.getElem?_cons_succ] at q3
  have e0 : decide ((j : Int) < 0) = false := decide_eq_false (by omega)
  have e1 : decide ((b : Int) ≤ (j : Int)) = false := decide_eq_false (by omega)
  have HFA : Hid (atF fs (j : Int) = none) := hfa
  have HON := Hid.mk2 (hn.one h1)
  have e2 : ((n.ops : Int) == 1) = true := by simp; omega
  obtain ⟨op, hop⟩ : ∃ op, opK (kindP n.tok.text) n.ops = op := ⟨_, rfl⟩
  rw [hop] at HON ⊢
  have HOP := Hid.mk2 hop
  have hop2 : 2 ≤ op ∧ op ≤ 3 := by have := HON.out; omega
  have HFin : Hid (bsN cl ++ bsN (opC op 0) = bsN (cl ++ opC op 0)) := bsN_append _ _
  have zl : (bsN cl).size = cl.length := bsN_len _
  have zo : (bsN (opC op 0)).size = 1 := by rw [opC_size, behind_op (by omega) (by omega)]
  clear h1 hop
  clear H hnj hfa
  have HN := Hid.mk2 hn
  clear hn
  go_enter Tryz.func144, Tryz.ntmps144
  go_upto_region 6 with (go_at_call 120; refine (factAt_any fs _ (j : Int) _ HM.out.c.fr HM.out.c.fb ⟨by omega, by omega⟩).mono ?_; rintro e w1 ⟨rfl, hb1⟩; rw [HFA.out]; rw [show factA none = .agg #[.bool false, .int .i64 0] from rfl]; clear q3; replace HM := Hid.mk2 ((HM.out.below hb1).al (.cells #[.bool false, .int .i64 0] 161)); clear hb1; have n0 := HM.out.nd.cell 0; have n1 := HM.out.nd.cell 1; have n2 := HM.out.nd.cell 2; have n3 := HM.out.nd.cell 3; have n4 := HM.out.nd.cell 4; have n5 := HM.out.nd.cell 5; have k0 := HM.out.c.blk.cell 0; have k1 := HM.out.c.blk.cell 1; have k3 := HM.out.c.blk.cell 3; have hln := HM.out.nd.lt; have hlc := HM.out.c.blk.lt; simp only [nodC, List.getElem?_toArray, List.getElem?_cons_zero, List.getElem?_cons_succ] at n0 n1 n2 n3 n4 n5 k0 k1 k3)
  go_wp2_with (first
    | (go_at_call 144; refine (HI.out _ HM.out.c).mono ?_; rintro e w2 ⟨rfl, hc2, hb2⟩; clear n0 n1 n2 n3 n4 n5 k0 k1 k3 hln hlc; replace HM := Hid.mk2 (HM.out.call hc2 hb2); clear hc2 hb2; have n0 := HM.out.nd.cell 0; have n1 := HM.out.nd.cell 1; have n2 := HM.out.nd.cell 2; have n3 := HM.out.nd.cell 3; have n4 := HM.out.nd.cell 4; have n5 := HM.out.nd.cell 5; have k0 := HM.out.c.blk.cell 0; have k1 := HM.out.c.blk.cell 1; have k3 := HM.out.c.blk.cell 3; have hln := HM.out.nd.lt; have hlc := HM.out.c.blk.lt; simp only [nodC, List.getElem?_toArray, List.getElem?_cons_zero, List.getElem?_cons_succ] at n0 n1 n2 n3 n4 n5 k0 k1 k3)
    | (go_at_call 122; refine (operationOf_any n _).mono ?_; rintro e w3 ⟨rfl, hb3⟩; rw [HOP.out]; clear n0 n1 n2 n3 n4 n5 k0 k1 k3 hln hlc; replace HM := Hid.mk2 (HM.out.below hb3); clear hb3)
    | (go_at_call 90; refine (Bytes_any op (by omega) 0 (by decide) _ HM.out.c.gb).mono ?_; rintro e w4 ⟨rfl, hb4⟩; replace HM := Hid.mk2 (HM.out.below hb4); clear hb4))
  go_ret
  exact ⟨by rw [← HFin.out]; rfl, HM.out.c, HM.out.bu⟩
end Go.Proofs.YtcdnhopeojkmkaaGreatDoor

set_option linter.unusedVariables false
set_option linter.unusedSimpArgs false
namespace Go.Proofs.YtcdnhopeojkmkaaGreatDoor
open Go.RowKit Go.Deep

set_option maxHeartbeats 4000000 in
set_option maxRecDepth 100000 in
theorem node_choice {cb : Nat} {na : Option Addr} {nc : Nat} {lv rv fv : Value} {N : List PNode} {ls : List PLet} {rs : List PRule} {fs : List Fact} (j b below h : Nat) (hj : j < b) (hbN : b ≤ N.length) (hbl : below + b ≤ 1000) (n : PNode) (hnj : N[j]? = some n) (hn : NodeOk n) (hfa : atF fs (j : Int) = none) (h1 : n.ops ≠ 1) (hc : isChK (kindP n.tok.text) = true) (cl : List Nat) (h' : Nat) (HI : Hid (∀ wx, CmpAt wx cb (.slice na N.length nc) lv rv fv h N ls rs fs → Calls Tryz.prog 160 #[.pointer (some ⟨cb, 0, none⟩), .slice na j nc, nodA n, .int .i64 below] wx fun e w' => e = .returned (.string (bsN cl)) ∧ CmpAt w' cb (.slice na N.length nc) lv rv fv h' N ls rs fs ∧ But cb wx w')) (w : World) (H : CmpAt w cb (.slice na N.length nc) lv rv fv h N ls rs fs) :
    Calls Tryz.prog 144 #[.pointer (some ⟨cb, 0, none⟩), .slice na b nc, .int .i64 j, .int .i64 below] w fun e w' => e = .returned (.string (bsN cl)) ∧ CmpAt w' cb (.slice na N.length nc) lv rv fv h' N ls rs fs ∧ But cb w w' := by
  have HM := Hid.mk2 (NdSt.start H n)
  have hnl := hn.left
  have hnr := hn.right
  have hnb := H.pa.nb
  obtain ⟨g, o, rfl, hg, hcap, d0, d1, d2, d3, d4, d5⟩ := node_cells H hnj
  have hsl := fun wx => sliceN g o b nc j (by omega) (by omega) wx
  have hlcb := H.blk.lt
  have q3 := H.blk.cell 3
  simp only [List.getElem?_toArray, List.getElem?_cons_zero, List.getElem?_cons_succ] at q3
  have e0 : decide ((j : Int) < 0) = false := decide_eq_false (by omega)
  have e1 : decide ((b : Int) ≤ (j : Int)) = false := decide_eq_false (by omega)
  have HFA : Hid (atF fs (j : Int) = none) := hfa
  have e2 : ((n.ops : Int) == 1) = false := by simp; omega
  have HCH := Hid.mk2 hc
  clear h1 hc
  clear H hnj hfa
  have HN := Hid.mk2 hn
  clear hn
  go_enter Tryz.func144, Tryz.ntmps144
  go_upto_region 6 with (go_at_call 120; refine (factAt_any fs _ (j : Int) _ HM.out.c.fr HM.out.c.fb ⟨by omega, by omega⟩).mono ?_; rintro e w1 ⟨rfl, hb1⟩; rw [HFA.out]; rw [show factA none = .agg #[.bool false, .int .i64 0] from rfl]; clear q3; replace HM := Hid.mk2 ((HM.out.below hb1).al (.cells #[.bool false, .int .i64 0] 161)); clear hb1; have n0 := HM.out.nd.cell 0; have n1 := HM.out.nd.cell 1; have n2 := HM.out.nd.cell 2; have n3 := HM.out.nd.cell 3; have n4 := HM.out.nd.cell 4; have n5 := HM.out.nd.cell 5; have k0 := HM.out.c.blk.cell 0; have k1 := HM.out.c.blk.cell 1; have k3 := HM.out.c.blk.cell 3; have hln := HM.out.nd.lt; have hlc := HM.out.c.blk.lt; simp only [nodC, List.getElem?_toArray, List.getElem?_cons_zero, List.getElem?_cons_succ] at n0 n1 n2 n3 n4 n5 k0 k1 k3)
  go_wp2_with (first
    | (go_at_call 123; refine (isChoice_any n _).mono ?_; rintro e w2 ⟨rfl, hb2⟩; rw [HCH.out]; clear n0 n1 n2 n3 n4 n5 k0 k1 k3 hln hlc; replace HM := Hid.mk2 (HM.out.below hb2); clear hb2; have n0 := HM.out.nd.cell 0; have n1 := HM.out.nd.cell 1; have n2 := HM.out.nd.cell 2; have n3 := HM.out.nd.cell 3; have n4 := HM.out.nd.cell 4; have n5 := HM.out.nd.cell 5; have k0 := HM.out.c.blk.cell 0; have k1 := HM.out.c.blk.cell 1; have k3 := HM.out.c.blk.cell 3; have hln := HM.out.nd.lt; have hlc := HM.out.c.blk.lt; simp only [nodC, List.getElem?_toArray, List.getElem?_cons_zero, List.getElem?_cons_succ] at n0 n1 n2 n3 n4 n5 k0 k1 k3)
    | (go_at_call 160; refine (HI.out _ HM.out.c).mono ?_; rintro e w3 ⟨rfl, hc3, hb3⟩; clear n0 n1 n2 n3 n4 n5 k0 k1 k3 hln hlc; replace HM := Hid.mk2 (HM.out.call hc3 hb3); clear hc3 hb3))
  go_ret
  exact ⟨rfl, HM.out.c, HM.out.bu⟩
set_option maxHeartbeats 4000000 in
set_option maxRecDepth 100000 in
theorem node_two {cb : Nat} {na : Option Addr} {nc : Nat} {lv rv fv : Value} {N : List PNode} {ls : List PLet} {rs : List PRule} {fs : List Fact} (j b below h : Nat) (hj : j < b) (hbN : b ≤ N.length) (hbl : below + b ≤ 1000) (n : PNode) (hnj : N[j]? = some n) (hn : NodeOk n) (hfa : atF fs (j : Int) = none) (h1 : n.ops = 2) (hc : isChK (kindP n.tok.text) = false) (cl cr : List Nat) (h' h'' : Nat) (hcl : cl.length + cr.length ≤ 60000) (HI : Hid (∀ wx, CmpAt wx cb (.slice na N.length nc) lv rv fv h N ls rs fs → Calls Tryz.prog 144 #[.pointer (some ⟨cb, 0, none⟩), .slice na j nc, .int .i64 (n.left : Int), .int .i64 below] wx fun e w' => e = .returned (.string (bsN cl)) ∧ CmpAt w' cb (.slice na N.length nc) lv rv fv h' N ls rs fs ∧ But cb wx w')) (HJ : Hid (∀ wx, CmpAt wx cb (.slice na N.length nc) lv rv fv h' N ls rs fs → Calls Tryz.prog 144 #[.pointer (some ⟨cb, 0, none⟩), .slice na j nc, .int .i64 (n.right : Int), .int .i64 (below + 1 : Nat)] wx fun e w' => e = .returned (.string (bsN cr)) ∧ CmpAt w' cb (.slice na N.length nc) lv rv fv h'' N ls rs fs ∧ But cb wx w')) (w : World) (H : CmpAt w cb (.slice na N.length nc) lv rv fv h N ls rs fs) :
    Calls Tryz.prog 144 #[.pointer (some ⟨cb, 0, none⟩), .slice na b nc, .int .i64 j, .int .i64 below] w fun e w' => e = .returned (.string (bsN (cl ++ cr ++ opC (opK (kindP n.tok.text) n.ops) 0))) ∧ CmpAt w' cb (.slice na N.length nc) lv rv fv h'' N ls rs fs ∧ But cb w w' := by
  have HM := Hid.mk2 (NdSt.start H n)
  have hnl := hn.left
  have hnr := hn.right
  have hnb := H.pa.nb
  obtain ⟨g, o, rfl, hg, hcap, d0, d1, d2, d3, d4, d5⟩ := node_cells H hnj
  have hsl := fun wx => sliceN g o b nc j (by omega) (by omega) wx
  have hlcb := H.blk.lt
  have q3 := H.blk.cell 3
  simp only [List.getElem?_toArray, List.getElem?_cons_zero, List.getElem?_cons_succ] at q3
  have e0 : decide ((j : Int) < 0) = false := decide_eq_false (by omega)
  have e1 : decide ((b : Int) ≤ (j : Int)) = false := decide_eq_false (by omega)
  have HFA : Hid (atF fs (j : Int) = none) := hfa
  have HON := Hid.mk2 (hn.two hc h1)
  have e2 : ((n.ops : Int) == 1) = false := by simp; omega
  have e3 : ((n.ops : Int) == 2) = true := by simp; omega
  have HCH := Hid.mk2 hc
  obtain ⟨op, hop⟩ : ∃ op, opK (kindP n.tok.text) n.ops = op := ⟨_, rfl⟩
  rw [hop] at HON ⊢
  have HOP := Hid.mk2 hop
  have hop2 : 4 ≤ op ∧ op ≤ 12 := HON.out
  have HFin : Hid (bsN cl ++ bsN cr ++ bsN (opC op 0) = bsN (cl ++ cr ++ opC op 0)) := by rw [Hid, bsN_append, bsN_append]
  have zl : (bsN cl).size = cl.length := bsN_len _
  have zr : (bsN cr).size = cr.length := bsN_len _
  have zo : (bsN (opC op 0)).size = 1 := by rw [opC_size, behind_op (by omega) (by omega)]
  obtain ⟨b1, hb1⟩ : ∃ b1 : Nat, (below : Int) + 1 = (b1 : Int) := ⟨below + 1, by omega⟩
  have hb1e : below + 1 = b1 := by omega
  rw [hb1e] at HJ
  clear h1 hop hc hb1e
  clear H hnj hfa
  have HN := Hid.mk2 hn
  clear hn
  go_enter Tryz.func144, Tryz.ntmps144
  go_upto_region 6 with (go_at_call 120; refine (factAt_any fs _ (j : Int) _ HM.out.c.fr HM.out.c.fb ⟨by omega, by omega⟩).mono ?_; rintro e w1 ⟨rfl, hb1⟩; rw [HFA.out]; rw [show factA none = .agg #[.bool false, .int .i64 0] from rfl]; clear q3; replace HM := Hid.mk2 ((HM.out.below hb1).al (.cells #[.bool false, .int .i64 0] 161)); clear hb1; have n0 := HM.out.nd.cell 0; have n1 := HM.out.nd.cell 1; have n2 := HM.out.nd.cell 2; have n3 := HM.out.nd.cell 3; have n4 := HM.out.nd.cell 4; have n5 := HM.out.nd.cell 5; have k0 := HM.out.c.blk.cell 0; have k1 := HM.out.c.blk.cell 1; have k3 := HM.out.c.blk.cell 3; have hln := HM.out.nd.lt; have hlc := HM.out.c.blk.lt; simp only [nodC, List.getElem?_toArray, List.getElem?_cons_zero, List.getElem?_cons_succ] at n0 n1 n2 n3 n4 n5 k0 k1 k3)
  go_wp2_with (first
    | (go_at_call 123; refine (isChoice_any n _).mono ?_; rintro e w2 ⟨rfl, hb2⟩; rw [HCH.out]; clear n0 n1 n2 n3 n4 n5 k0 k1 k3 hln hlc; replace HM := Hid.mk2 (HM.out.below hb2); clear hb2; have n0 := HM.out.nd.cell 0; have n1 := HM.out.nd.cell 1; have n2 := HM.out.nd.cell 2; have n3 := HM.out.nd.cell 3; have n4 := HM.out.nd.cell 4; have n5 := HM.out.nd.cell 5; have k0 := HM.out.c.blk.cell 0; have k1 := HM.out.c.blk.cell 1; have k3 := HM.out.c.blk.cell 3; have hln := HM.out.nd.lt; have hlc := HM.out.c.blk.lt; simp only [nodC, List.getElem?_toArray, List.getElem?_cons_zero, List.getElem?_cons_succ] at n0 n1 n2 n3 n4 n5 k0 k1 k3)
    | (go_at_call_of 144 (Value.int IntKind.i64 (n.left : Int)); refine (HI.out _ HM.out.c).mono ?_; rintro e w3 ⟨rfl, hc3, hb3⟩; clear n0 n1 n2 n3 n4 n5 k0 k1 k3 hln hlc; replace HM := Hid.mk2 (HM.out.call hc3 hb3); clear hc3 hb3; have n0 := HM.out.nd.cell 0; have n1 := HM.out.nd.cell 1; have n2 := HM.out.nd.cell 2; have n3 := HM.out.nd.cell 3; have n4 := HM.out.nd.cell 4; have n5 := HM.out.nd.cell 5; have k0 := HM.out.c.blk.cell 0; have k1 := HM.out.c.blk.cell 1; have k3 := HM.out.c.blk.cell 3; have hln := HM.out.nd.lt; have hlc := HM.out.c.blk.lt; simp only [nodC, List.getElem?_toArray, List.getElem?_cons_zero, List.getElem?_cons_succ] at n0 n1 n2 n3 n4 n5 k0 k1 k3)
    | (go_at_call_of 144 (Value.int IntKind.i64 (n.right : Int)); refine (HJ.out _ HM.out.c).mono ?_; rintro e w4 ⟨rfl, hc4, hb4⟩; clear n0 n1 n2 n3 n4 n5 k0 k1 k3 hln hlc; replace HM := Hid.mk2 (HM.out.call hc4 hb4); clear hc4 hb4; have n0 := HM.out.nd.cell 0; have n1 := HM.out.nd.cell 1; have n2 := HM.out.nd.cell 2; have n3 := HM.out.nd.cell 3; have n4 := HM.out.nd.cell 4; have n5 := HM.out.nd.cell 5; have k0 := HM.out.c.blk.cell 0; have k1 := HM.out.c.blk.cell 1; have k3 := HM.out.c.blk.cell 3; have hln := HM.out.nd.lt; have hlc := HM.out.c.blk.lt; simp only [nodC, List.getElem?_toArray, List.getElem?_cons_zero, List.getElem?_cons_succ] at n0 n1 n2 n3 n4 n5 k0 k1 k3)
    | (go_at_call 122; refine (operationOf_any n _).mono ?_; rintro e w5 ⟨rfl, hb5⟩; rw [HOP.out]; clear n0 n1 n2 n3 n4 n5 k0 k1 k3 hln hlc; replace HM := Hid.mk2 (HM.out.below hb5); clear hb5)
    | (go_at_call 90; refine (Bytes_any op (by omega) 0 (by decide) _ HM.out.c.gb).mono ?_; rintro e w6 ⟨rfl, hb6⟩; replace HM := Hid.mk2 (HM.out.below hb6); clear hb6))
  go_ret
  exact ⟨by rw [← HFin.out]; rfl, HM.out.c, HM.out.bu⟩
end Go.Proofs.YtcdnhopeojkmkaaGreatDoor

set_option linter.unusedVariables false
set_option linter.unusedSimpArgs false
namespace Go.Proofs.YtcdnhopeojkmkaaGreatDoor
open Go.RowKit Go.Deep

set_option maxHeartbeats 4000000 in
set_option maxRecDepth 100000 in
theorem node_name {cb : Nat} {na : Option Addr} {nc : Nat} {lv rv fv : Value} {N : List PNode} {ls : List PLet} {rs : List PRule} {fs : List Fact} (j b below h : Nat) (hj : j < b) (hbN : b ≤ N.length) (hbl : below + b ≤ 1000) (n : PNode) (hnj : N[j]? = some n) (hn : NodeOk n) (hfa : atF fs (j : Int) = none) (h1 : n.ops = 0) (hc : isChK (kindP n.tok.text) = false) (hk : kindP n.tok.text = 2) (hx : ∀ p ∈ ls, 1 ≤ p.val.behind ∧ p.val.behind ≤ 401) (cl : List Nat) (h' : Nat) (HI : Hid (∀ wx, CmpAt wx cb (.slice na N.length nc) lv rv fv h N ls rs fs → Calls Tryz.prog 144 #[.pointer (some ⟨cb, 0, none⟩), .slice na j nc, .int .i64 (meantI ls n.tok.text), .int .i64 below] wx fun e w' => e = .returned (.string (bsN cl)) ∧ CmpAt w' cb (.slice na N.length nc) lv rv fv h' N ls rs fs ∧ But cb wx w')) (w : World) (H : CmpAt w cb (.slice na N.length nc) lv rv fv h N ls rs fs) :
    Calls Tryz.prog 144 #[.pointer (some ⟨cb, 0, none⟩), .slice na b nc, .int .i64 j, .int .i64 below] w fun e w' => e = .returned (.string (bsN cl)) ∧ CmpAt w' cb (.slice na N.length nc) lv rv fv h' N ls rs fs ∧ But cb w w' := by
  have HM := Hid.mk2 (NdSt.start H n)
  have hnl := hn.left
  have hnr := hn.right
  have hnb := H.pa.nb
  obtain ⟨g, o, rfl, hg, hcap, d0, d1, d2, d3, d4, d5⟩ := node_cells H hnj
  have hsl := fun wx => sliceN g o b nc j (by omega) (by omega) wx
  have hlcb := H.blk.lt
  have q3 := H.blk.cell 3
  simp only [List.getElem?_toArray, List.getElem?_cons_zero, List.getElem?_cons_succ] at q3
  have e0 : decide ((j : Int) < 0) = false := decide_eq_false (by omega)
  have e1 : decide ((b : Int) ≤ (j : Int)) = false := decide_eq_false (by omega)
  have HFA : Hid (atF fs (j : Int) = none) := hfa
  have e2 : ((n.ops : Int) == 1) = false := by simp; omega
  have e3 : ((n.ops : Int) == 2) = false := by simp; omega
  have e4 : ((kindP n.tok.text : Int) == 2) = true := by simp; omega
  have HCH := Hid.mk2 hc
  have HX := Hid.mk2 hx
  have HLB := Hid.mk2 H.pa.lb
  have HBT : Hid ((bsOf n.tok.text).toList = n.tok.text) := bsOf_toList _
  clear h1 hc hk hx
  clear H hnj hfa
  have HN := Hid.mk2 hn
  clear hn
  go_enter Tryz.func144, Tryz.ntmps144
  go_upto_region 6 with (go_at_call 120; refine (factAt_any fs _ (j : Int) _ HM.out.c.fr HM.out.c.fb ⟨by omega, by omega⟩).mono ?_; rintro e w1 ⟨rfl, hb1⟩; rw [HFA.out]; rw [show factA none = .agg #[.bool false, .int .i64 0] from rfl]; clear q3; replace HM := Hid.mk2 ((HM.out.below hb1).al (.cells #[.bool false, .int .i64 0] 161)); clear hb1; have n0 := HM.out.nd.cell 0; have n1 := HM.out.nd.cell 1; have n2 := HM.out.nd.cell 2; have n3 := HM.out.nd.cell 3; have n4 := HM.out.nd.cell 4; have n5 := HM.out.nd.cell 5; have k0 := HM.out.c.blk.cell 0; have k1 := HM.out.c.blk.cell 1; have k3 := HM.out.c.blk.cell 3; have hln := HM.out.nd.lt; have hlc := HM.out.c.blk.lt; simp only [nodC, List.getElem?_toArray, List.getElem?_cons_zero, List.getElem?_cons_succ] at n0 n1 n2 n3 n4 n5 k0 k1 k3)
  go_upto_region 18 with (go_at_call 123; refine (isChoice_any n _).mono ?_; rintro e w2 ⟨rfl, hb2⟩; rw [HCH.out]; clear n0 n1 n2 n3 n4 n5 k0 k1 k3 hln hlc; replace HM := Hid.mk2 (HM.out.below hb2); clear hb2; have n0 := HM.out.nd.cell 0; have n1 := HM.out.nd.cell 1; have n2 := HM.out.nd.cell 2; have n3 := HM.out.nd.cell 3; have n4 := HM.out.nd.cell 4; have n5 := HM.out.nd.cell 5; have k0 := HM.out.c.blk.cell 0; have k1 := HM.out.c.blk.cell 1; have k3 := HM.out.c.blk.cell 3; have hln := HM.out.nd.lt; have hlc := HM.out.c.blk.lt; simp only [nodC, List.getElem?_toArray, List.getElem?_cons_zero, List.getElem?_cons_succ] at n0 n1 n2 n3 n4 n5 k0 k1 k3)
  go_region_with (first
    | (go_at_call 126; refine (meantBy_any ls _ (bsOf n.tok.text) _ (by first | with_reducible exact HM.out.c.pa.l | with_reducible exact HM.out.dr.c.pa.l) HLB.out HX.out).mono ?_; rintro e w3 ⟨rfl, hb3⟩; rw [HBT.out]; clear n0 n1 n2 n3 n4 n5 k0 k1 k3 hln hlc; replace HM := Hid.mk2 (by first | with_reducible exact HM.out.below hb3 | with_reducible exact HM.out.dr.below hb3); clear hb3; have n0 := HM.out.nd.cell 0; have n1 := HM.out.nd.cell 1; have n2 := HM.out.nd.cell 2; have n3 := HM.out.nd.cell 3; have n4 := HM.out.nd.cell 4; have n5 := HM.out.nd.cell 5; have k0 := HM.out.c.blk.cell 0; have k1 := HM.out.c.blk.cell 1; have k3 := HM.out.c.blk.cell 3; have hln := HM.out.nd.lt; have hlc := HM.out.c.blk.lt; simp only [nodC, List.getElem?_toArray, List.getElem?_cons_zero, List.getElem?_cons_succ] at n0 n1 n2 n3 n4 n5 k0 k1 k3)
    | (go_at_call 144; refine (HI.out _ HM.out.c).mono ?_; rintro e w4 ⟨rfl, hc4, hb4⟩; clear n0 n1 n2 n3 n4 n5 k0 k1 k3 hln hlc; replace HM := Hid.mk2 (HM.out.call hc4 hb4); clear hc4 hb4))
  all_goals
    go_wp2
    go_ret
    exact ⟨rfl, HM.out.c, HM.out.bu⟩
set_option maxHeartbeats 4000000 in
set_option maxRecDepth 100000 in
theorem node_attr {cb : Nat} {na : Option Addr} {nc : Nat} {lv rv fv : Value} {N : List PNode} {ls : List PLet} {rs : List PRule} {fs : List Fact} (j b below h : Nat) (hj : j < b) (hbN : b ≤ N.length) (hbl : below + b ≤ 1000) (n : PNode) (hnj : N[j]? = some n) (hn : NodeOk n) (hfa : atF fs (j : Int) = none) (h1 : n.ops = 0) (hc : isChK (kindP n.tok.text) = false) (hk : kindP n.tok.text ≠ 2) (hk2 : kindP n.tok.text ≤ 100) (w : World) (H : CmpAt w cb (.slice na N.length nc) lv rv fv h N ls rs fs) :
    Calls Tryz.prog 144 #[.pointer (some ⟨cb, 0, none⟩), .slice na b nc, .int .i64 j, .int .i64 below] w fun e w' => e = .returned (.string (bsN (opC 1 ((kindP n.tok.text : Int) - 15)))) ∧ CmpAt w' cb (.slice na N.length nc) lv rv fv (layH below h) N ls rs fs ∧ But cb w w' := by
  have HM := Hid.mk2 (NdSt.start H n)
  have hnl := hn.left
  have hnr := hn.right
  have hnb := H.pa.nb
  obtain ⟨g, o, rfl, hg, hcap, d0, d1, d2, d3, d4, d5⟩ := node_cells H hnj
  have hsl := fun wx => sliceN g o b nc j (by omega) (by omega) wx
  have hlcb := H.blk.lt
  have q3 := H.blk.cell 3
  simp only [List.getElem?_toArray, List.getElem?_cons_zero, List.getElem?_cons_succ] at q3
  have e0 : decide ((j : Int) < 0) = false := decide_eq_false (by omega)
  have e1 : decide ((b : Int) ≤ (j : Int)) = false := decide_eq_false (by omega)
  have HFA : Hid (atF fs (j : Int) = none) := hfa
  have e2 : ((n.ops : Int) == 1) = false := by simp; omega
  have e3 : ((n.ops : Int) == 2) = false := by simp; omega
  have e4 : ((kindP n.tok.text : Int) == 2) = false := by simp; omega
  have HCH := Hid.mk2 hc
  have hv : In64 ((kindP n.tok.text : Int) - 15) := by unfold In64; omega
  have HV := Hid.mk2 hv
  clear h1 hc hk hv
  clear H hnj hfa
  have HN := Hid.mk2 hn
  clear hn
  go_enter Tryz.func144, Tryz.ntmps144
  go_upto_region 6 with (go_at_call 120; refine (factAt_any fs _ (j : Int) _ HM.out.c.fr HM.out.c.fb ⟨by omega, by omega⟩).mono ?_; rintro e w1 ⟨rfl, hb1⟩; rw [HFA.out]; rw [show factA none = .agg #[.bool false, .int .i64 0] from rfl]; clear q3; replace HM := Hid.mk2 ((HM.out.below hb1).al (.cells #[.bool false, .int .i64 0] 161)); clear hb1; have n0 := HM.out.nd.cell 0; have n1 := HM.out.nd.cell 1; have n2 := HM.out.nd.cell 2; have n3 := HM.out.nd.cell 3; have n4 := HM.out.nd.cell 4; have n5 := HM.out.nd.cell 5; have k0 := HM.out.c.blk.cell 0; have k1 := HM.out.c.blk.cell 1; have k3 := HM.out.c.blk.cell 3; have hln := HM.out.nd.lt; have hlc := HM.out.c.blk.lt; simp only [nodC, List.getElem?_toArray, List.getElem?_cons_zero, List.getElem?_cons_succ] at n0 n1 n2 n3 n4 n5 k0 k1 k3)
  go_wp2_with (first
    | (go_at_call 123; refine (isChoice_any n _).mono ?_; rintro e w2 ⟨rfl, hb2⟩; rw [HCH.out]; clear n0 n1 n2 n3 n4 n5 k0 k1 k3 hln hlc; replace HM := Hid.mk2 (HM.out.below hb2); clear hb2; have n0 := HM.out.nd.cell 0; have n1 := HM.out.nd.cell 1; have n2 := HM.out.nd.cell 2; have n3 := HM.out.nd.cell 3; have n4 := HM.out.nd.cell 4; have n5 := HM.out.nd.cell 5; have k0 := HM.out.c.blk.cell 0; have k1 := HM.out.c.blk.cell 1; have k3 := HM.out.c.blk.cell 3; have hln := HM.out.nd.lt; have hlc := HM.out.c.blk.lt; simp only [nodC, List.getElem?_toArray, List.getElem?_cons_zero, List.getElem?_cons_succ] at n0 n1 n2 n3 n4 n5 k0 k1 k3)
    | (go_at_call 159; refine (lay_any HM.out.c 1 (by omega) ((kindP n.tok.text : Int) - 15) HV.out below (by omega)).mono ?_; rintro e w3 ⟨rfl, hc3, hb3⟩; clear n0 n1 n2 n3 n4 n5 k0 k1 k3 hln hlc; replace HM := Hid.mk2 (HM.out.call hc3 hb3); clear hc3 hb3))
  go_ret
  exact ⟨rfl, HM.out.c, HM.out.bu⟩
end Go.Proofs.YtcdnhopeojkmkaaGreatDoor
